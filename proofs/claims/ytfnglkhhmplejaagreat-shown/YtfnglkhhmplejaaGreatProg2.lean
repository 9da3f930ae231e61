/- Walks: the program: what a byte becomes, how it moves the column. -/
import Derived.Test.YtfnglkhhmplejaaGreatProg0
import Derived.Test.YtfnglkhhmplejaaGreatProg1
import Derived.Test.YtfnglkhhmplejaaGreatBase2
import Derived.Test.YtfnglkhhmplejaaGreatBase
import Derived.Deep.LoopGhost
namespace Go.Proofs.YtfnglkhhmplejaaGreat
open Go Go.RowKit Go.Clk

set_option maxHeartbeats 1000000 in
set_option maxRecDepth 100000 in
theorem move_any (f col : Int) (c : UInt8) (n : Int) (hn : n = (c.toNat : Int)) (w : World) (f0 : 0 ≤ f) (f1 : f < 8192) (c0 : 0 ≤ col) (c1 : col < 4611686018427387000) :
    Calls Tryz.prog 145 #[.int .i64 f, .int .i64 col, .int .u8 n] w fun e w' => e = .returned (.int .i64 (moved f col c)) ∧ w' = w := by
  subst hn
  have h17 := has17 f f0 f1
  have hct : ctrlB c.toNat = decide (c.toNat < 32 ∨ c.toNat = 127) := rfl
  go_enter Tryz.func145, Tryz.ntmps145
  go_wp2_with (first | (go_at_call 159; refine (tab_any _ _ (by omega) (by omega)).mono ?_; rintro e w' ⟨rfl, rfl⟩) | (go_at_call 52; refine (Has_any _ _ _).mono ?_; rintro e w' ⟨rfl, rfl⟩) | (go_at_call 153; refine (ctrl_any _ _).mono ?_; rintro e w' ⟨rfl, rfl⟩))
  all_goals go_ret
  all_goals refine ⟨ret_int ?_, rfl⟩
  all_goals
    simp only [beq_iff_eq, beq_eq_false_iff_ne, ne_eq] at *
    unfold moved
  · rw [if_pos (by omega)]; split <;> omega
  · rw [if_pos (by omega)]; split <;> omega
  · rw [if_neg (by omega), if_neg (by omega), if_pos (by omega)]
  · rw [if_neg (by omega), if_pos (by omega)]; omega
  · rw [if_neg (by omega), if_neg (by omega), if_neg (by omega), if_pos (by omega)]; simp [*]
  · rw [if_neg (by omega), if_neg (by omega), if_neg (by omega), if_pos (by omega)]
    rcases ‹bit f 1 = false ∨ bit f 16 = false› with h | h <;> simp [h]
  · rw [if_neg (by omega), if_neg (by omega), if_neg (by omega), if_neg (by omega), if_pos (by omega)]
  · rw [if_neg (by omega), if_neg (by omega), if_neg (by omega), if_neg (by omega), if_neg (by omega)]
end Go.Proofs.YtfnglkhhmplejaaGreat
