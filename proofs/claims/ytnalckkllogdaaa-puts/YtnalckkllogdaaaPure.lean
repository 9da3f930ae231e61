/- Walks of the pure functions. -/
import Derived.Test.YtnalckkllogdaaaRows
import Derived.Test.YtnalckkllogdaaaSpec
namespace Go.Proofs.Ytnalckkllogdaaa
open Go.RowKit Go.Clk

theorem ret_int {k : IntKind} {a b : Int} (h : a = b) : Ending.returned (.int k a) = .returned (.int k b) := by rw [h]
theorem ret_bool {a b : Bool} (h : a = b) : Ending.returned (.bool a) = .returned (.bool b) := by rw [h]

set_option maxHeartbeats 400000 in
theorem set_any (a b : Int) (w : World) (ha : 0 ≤ a) (ha' : a < 8192) (hb : 0 < b) (hb' : b ≤ 4096) :
    Calls Try.prog 61 #[.int .i64 a, .int .i64 b] w fun e w' => e = .returned (.bool (bit a b)) ∧ w' = w := by
  have h0 : 0 ≤ a / b := Int.ediv_nonneg ha (by omega)
  go_enter Try.func61, Try.ntmps61
  go_wp2
  go_ret
  exact ⟨rfl, rfl⟩
set_option maxHeartbeats 400000 in
theorem next_any (a : Int) (w : World) (ha : 0 ≤ a) (ha' : a < 4611686018427387904) :
    Calls Try.prog 59 #[.int .i64 a] w fun e w' => e = .returned (.int .i64 (a - a % 8 + 8)) ∧ w' = w := by
  go_enter Try.func59, Try.ntmps59
  go_wp2
  go_ret
  exact ⟨rfl, rfl⟩
set_option maxHeartbeats 400000 in
theorem num_any (n : Int) (w : World) :
    Calls Try.prog 36 #[.int .i64 n] w fun e w' => e = .returned (.int .i64 n) ∧ w' = w := by
  go_enter Try.func36, Try.ntmps36
  go_wp2
  go_ret
  exact ⟨rfl, rfl⟩
theorem low_eq (n p : Int) (h0 : 0 < p) : n % p = if n.tmod p < 0 then n.tmod p + p else n.tmod p := by
  rw [Int.tmod_eq_emod]
  have h1 := Int.emod_lt_of_pos n h0
  have h2 := Int.emod_nonneg n (show p ≠ 0 by omega)
  by_cases h : 0 ≤ n ∨ p ∣ n
  · rw [if_pos h]; split <;> omega
  · rw [if_neg h]
    have h3 : n % p ≠ 0 := fun e => h (.inr (Int.dvd_of_emod_eq_zero e))
    rw [if_pos (by omega)]; omega
set_option maxHeartbeats 400000 in
theorem low_any (n p : Int) (w : World) (h0 : 0 < p) (h1 : p ≤ 8192) :
    Calls Try.prog 45 #[.int .i64 n, .int .i64 p] w fun e w' => e = .returned (.int .i64 (n % p)) ∧ w' = w := by
  have hz : (p == 0) = false := beq_eq_false_iff_ne.2 (by omega)
  have g1 : n.tmod p < p := Int.tmod_lt_of_pos n h0
  have g2 : -p < n.tmod p := by have := Int.lt_tmod_of_pos n h0; omega
  have HH : Hid (n % p = if n.tmod p < 0 then n.tmod p + p else n.tmod p) := low_eq n p h0
  go_enter Try.func45, Try.ntmps45
  go_wp2
  all_goals go_ret
  · exact ⟨ret_int (by rw [HH.out, if_pos ‹_›]), rfl⟩
  · exact ⟨ret_int (by rw [HH.out, if_neg (by omega)]), rfl⟩
def pickN (c n : Int) : Int := if c < 0 then (-(c + 1)) % n else c % n
set_option maxHeartbeats 400000 in
theorem pick_any (c n : Int) (w : World) (h0 : 0 < n) (h1 : n ≤ 4) (hc : -9223372036854775808 ≤ c) (hc' : c ≤ 9223372036854775807) :
    Calls Try.prog 17 #[.int .i64 c, .int .i64 n] w fun e w' => e = .returned (.int .i64 (pickN c n)) ∧ w' = w := by
  have hz : (n == 0) = false := beq_eq_false_iff_ne.2 (by omega)
  by_cases hneg : c < 0
  · have h3 : 0 ≤ -(c + 1) := by omega
    go_enter Try.func17, Try.ntmps17
    go_wp2
    all_goals go_ret
    exact ⟨ret_int (by unfold pickN; rw [if_pos hneg, ← Int.neg_tmod, Int.tmod_eq_emod_of_nonneg h3]), rfl⟩
  · go_enter Try.func17, Try.ntmps17
    go_wp2
    all_goals go_ret
    exact ⟨ret_int (by unfold pickN; rw [if_neg (by omega)]), rfl⟩
theorem pickN_lt (c n : Int) (h : 0 < n) : 0 ≤ pickN c n ∧ pickN c n < n := by
  unfold pickN
  split <;> exact ⟨Int.emod_nonneg _ (by omega), Int.emod_lt_of_pos _ h⟩
end Go.Proofs.Ytnalckkllogdaaa
