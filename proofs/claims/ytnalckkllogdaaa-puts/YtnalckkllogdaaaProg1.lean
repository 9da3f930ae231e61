/- Walks of the program's pure functions. -/
import Derived.Test.YtnalckkllogdaaaPure
import Derived.Test.YtnalckkllogdaaaSpec
import Derived.Laws.BitsAllLaws
namespace Go.Proofs.Ytnalckkllogdaaa
open Go.RowKit Go.Clk

set_option maxHeartbeats 400000 in
theorem has_raw (a b : Int) (w : World) :
    Calls Try.prog 83 #[.int .i64 a, .int .i64 b] w fun e w' => e = .returned (.bool (bits BinOp.and IntKind.i64 a b != 0)) ∧ w' = w := by
  go_enter Try.func83, Try.ntmps83
  go_wp2
  go_ret
  exact ⟨rfl, rfl⟩
def smallB (b : Nat) : Bool := decide (97 ≤ b ∧ b ≤ 122)
def ctrlB (b : Nat) : Bool := decide (b < 32 ∨ b = 127)
set_option maxHeartbeats 400000 in
theorem small_any (b : Nat) (w : World) :
    Calls Try.prog 84 #[.int .u8 b] w fun e w' => e = .returned (.bool (smallB b)) ∧ w' = w := by
  go_enter Try.func84, Try.ntmps84
  go_wp2
  all_goals go_ret
  · exact ⟨ret_bool (by unfold smallB; rw [decide_eq_decide]; omega), rfl⟩
  · exact ⟨ret_bool (by unfold smallB; simp; omega), rfl⟩
set_option maxHeartbeats 400000 in
theorem ctrl_any (b : Nat) (w : World) :
    Calls Try.prog 87 #[.int .u8 b] w fun e w' => e = .returned (.bool (ctrlB b)) ∧ w' = w := by
  go_enter Try.func87, Try.ntmps87
  go_wp2
  all_goals go_ret
  · rename_i h
    exact ⟨ret_bool (by unfold ctrlB; have h1 : ¬ b < 32 := by omega
                        rw [Bool.eq_iff_iff]; simp [h1]; omega), rfl⟩
  · exact ⟨ret_bool (by unfold ctrlB; simp; omega), rfl⟩
set_option maxHeartbeats 400000 in
theorem tab_any (c : Int) (w : World) (h0 : 0 ≤ c) (h1 : c < 4611686018427387904) :
    Calls Try.prog 86 #[.int .i64 c] w fun e w' => e = .returned (.int .i64 (8 - c % 8)) ∧ w' = w := by
  go_enter Try.func86, Try.ntmps86
  go_wp2
  go_ret
  exact ⟨rfl, rfl⟩

theorem i64_and_nat (a b : Nat) (ha : a < 9223372036854775808) (hb : b < 9223372036854775808) : bits .and .i64 (a : Int) (b : Int) = ((a &&& b : Nat) : Int) := by
  have hx : a &&& b < 2 ^ 63 := Nat.and_lt_two_pow _ (by omega)
  have e1 : ∀ n : Nat, n < 9223372036854775808 → (BitVec.ofInt 64 (n : Int)).toNat = n := fun n hn => by
    rw [BitVec.ofInt_natCast, BitVec.toNat_ofNat]; exact Nat.mod_eq_of_lt (by omega)
  show IntKind.i64.wrap ((BitVec.ofInt 64 (a : Int) &&& BitVec.ofInt 64 (b : Int)).toNat : Int) = _
  rw [BitVec.toNat_and, e1 a ha, e1 b hb]
  have e2 : ∀ n : Nat, n < 9223372036854775808 → IntKind.i64.wrap (n : Int) = n := fun n hn => by
    simp [IntKind.wrap, IntKind.bits, IntKind.signed]; omega
  exact e2 _ (by omega)
/-- A flag of 2 to the k. -/
theorem and_bit (a : Int) (k : Nat) (h1 : 0 ≤ a) (h2 : a < 8192) (hk : k < 13) : (bits .and .i64 a ((2 ^ k : Nat) : Int) != 0) = bit a ((2 ^ k : Nat) : Int) := by
  obtain ⟨A, rfl⟩ := Int.eq_ofNat_of_zero_le h1
  have hp : 2 ^ k ≤ 2 ^ 12 := Nat.pow_le_pow_right (by omega) (by omega)
  have hp0 : 0 < 2 ^ k := Nat.two_pow_pos k
  rw [i64_and_nat A (2 ^ k) (by omega) (by omega), nat_bit]
  unfold bit
  have e : ((A : Int) / ((2 ^ k : Nat) : Int) % 2) = ((A / 2 ^ k % 2 : Nat) : Int) := by simp
  rw [e]
  rcases Nat.mod_two_eq_zero_or_one (A / 2 ^ k) with h | h
  · rw [h]; simp
  · rw [h]
    have h5 : ((1 * 2 ^ k : Nat) : Int) ≠ 0 := by rw [Nat.one_mul]; exact Int.natCast_ne_zero.2 (by omega)
    rw [bne_iff_ne.2 h5]; rfl
set_option maxHeartbeats 400000 in
theorem has_any (a : Int) (k : Nat) (n : Int) (w : World) (h1 : 0 ≤ a) (h2 : a < 8192) (hk : k < 13) (hn : n = ((2 ^ k : Nat) : Int)) :
    Calls Try.prog 83 #[.int .i64 a, .int .i64 n] w fun e w' => e = .returned (.bool (bit a n)) ∧ w' = w := by
  subst hn
  rw [← and_bit a k h1 h2 hk]
  exact has_raw a _ w

theorem has_of (a n : Int) (w : World) (h1 : 0 ≤ a) (h2 : a < 8192) (hn : n = 1 ∨ n = 2 ∨ n = 4 ∨ n = 8 ∨ n = 16 ∨ n = 32 ∨ n = 64 ∨ n = 128 ∨ n = 256 ∨ n = 512 ∨ n = 1024 ∨ n = 2048 ∨ n = 4096) :
    Calls Try.prog 83 #[.int .i64 a, .int .i64 n] w fun e w' => e = .returned (.bool (bit a n)) ∧ w' = w := by
  have h : ∃ k, k < 13 ∧ n = ((2 ^ k : Nat) : Int) := by
    rcases hn with h | h | h | h | h | h | h | h | h | h | h | h | h
    · exact ⟨0, by omega, h⟩
    · exact ⟨1, by omega, h⟩
    · exact ⟨2, by omega, h⟩
    · exact ⟨3, by omega, h⟩
    · exact ⟨4, by omega, h⟩
    · exact ⟨5, by omega, h⟩
    · exact ⟨6, by omega, h⟩
    · exact ⟨7, by omega, h⟩
    · exact ⟨8, by omega, h⟩
    · exact ⟨9, by omega, h⟩
    · exact ⟨10, by omega, h⟩
    · exact ⟨11, by omega, h⟩
    · exact ⟨12, by omega, h⟩
  obtain ⟨k, hk, h⟩ := h
  exact has_any a k n w h1 h2 hk h
end Go.Proofs.Ytnalckkllogdaaa
