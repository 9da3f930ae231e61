/- Walks of the program's pure functions. -/
import Derived.Test.YtfnglkhhmplejaaGreatBase2
import Derived.Test.YtfnglkhhmplejaaGreatBase
import Derived.Laws.BitsAllLaws
namespace Go.Proofs.YtfnglkhhmplejaaGreat
open Go.RowKit Go.Clk

theorem i64_and_nat (a b : Nat) (ha : a < 9223372036854775808) (hb : b < 9223372036854775808) : bits .and .i64 (a : Int) (b : Int) = ((a &&& b : Nat) : Int) := by
  have hx : a &&& b < 2 ^ 63 := Nat.and_lt_two_pow _ (by omega)
  have e1 : ∀ n : Nat, n < 9223372036854775808 → (BitVec.ofInt 64 (n : Int)).toNat = n := fun n hn => by
    rw [BitVec.ofInt_natCast, BitVec.toNat_ofNat]; exact Nat.mod_eq_of_lt (by omega)
  show IntKind.i64.wrap ((BitVec.ofInt 64 (a : Int) &&& BitVec.ofInt 64 (b : Int)).toNat : Int) = _
  rw [BitVec.toNat_and, e1 a ha, e1 b hb]
  have e2 : ∀ n : Nat, n < 9223372036854775808 → IntKind.i64.wrap (n : Int) = n := fun n hn => by
    simp [IntKind.wrap, IntKind.bits, IntKind.signed]; omega
  exact e2 _ (by omega)
theorem and_pow (a k : Nat) : (a &&& 2 ^ k = 2 ^ k) ↔ a / 2 ^ k % 2 = 1 := by
  rw [nat_bit]
  have hp := Nat.two_pow_pos k
  rcases Nat.mod_two_eq_zero_or_one (a / 2 ^ k) with h | h
  · rw [h]; simp; omega
  · rw [h]; simp
theorem and_or (a p q : Nat) : (a &&& (p ||| q) = p ||| q) ↔ (a &&& p = p) ∧ (a &&& q = q) := by
  constructor
  · intro h
    constructor
    · apply Nat.eq_of_testBit_eq
      intro i
      have := congrArg (fun n => Nat.testBit n i) h
      simp only [Nat.testBit_and, Nat.testBit_or] at this ⊢
      cases h1 : a.testBit i <;> cases h2 : p.testBit i <;> simp_all
    · apply Nat.eq_of_testBit_eq
      intro i
      have := congrArg (fun n => Nat.testBit n i) h
      simp only [Nat.testBit_and, Nat.testBit_or] at this ⊢
      cases h1 : a.testBit i <;> cases h2 : q.testBit i <;> simp_all
  · rintro ⟨h1, h2⟩
    rw [Nat.and_or_distrib_left, h1, h2]
/-- Are these flags all set? -/
def hasB (a n : Int) : Bool := bits BinOp.and IntKind.i64 a n == n
theorem hasB_nat (a : Int) (n : Nat) (h1 : 0 ≤ a) (h2 : a < 8192) (hn : n < 8192) : hasB a (n : Int) = decide (a.toNat &&& n = n) := by
  obtain ⟨A, rfl⟩ := Int.eq_ofNat_of_zero_le h1
  unfold hasB
  rw [i64_and_nat A n (by omega) (by omega), Bool.eq_iff_iff]
  simp
  omega
theorem hasB_pow (a : Int) (k : Nat) (h1 : 0 ≤ a) (h2 : a < 8192) (hk : k < 13) : hasB a ((2 ^ k : Nat) : Int) = bit a ((2 ^ k : Nat) : Int) := by
  have hp : 2 ^ k ≤ 2 ^ 12 := Nat.pow_le_pow_right (by omega) (by omega)
  rw [hasB_nat a (2 ^ k) h1 h2 (by omega)]
  obtain ⟨A, rfl⟩ := Int.eq_ofNat_of_zero_le h1
  unfold bit
  have e : ((A : Int) / ((2 ^ k : Nat) : Int) % 2) = ((A / 2 ^ k % 2 : Nat) : Int) := by simp
  rw [e, Bool.eq_iff_iff]
  simp only [decide_eq_true_eq, beq_iff_eq, Int.toNat_natCast, and_pow]
  omega
theorem hasB_or (a : Int) (p q : Nat) (h1 : 0 ≤ a) (h2 : a < 8192) (hp : p < 8192) (hq : q < 8192) : hasB a ((p ||| q : Nat) : Int) = (hasB a (p : Int) && hasB a (q : Int)) := by
  have hpq : p ||| q < 2 ^ 13 := Nat.or_lt_two_pow (by omega) (by omega)
  rw [hasB_nat a (p ||| q) h1 h2 (by omega), hasB_nat a p h1 h2 hp, hasB_nat a q h1 h2 hq, Bool.eq_iff_iff]
  simp only [decide_eq_true_eq, Bool.and_eq_true, and_or]
theorem has1 (a : Int) (h1 : 0 ≤ a) (h2 : a < 8192) : hasB a 1 = bit a 1 := hasB_pow a 0 h1 h2 (by omega)
theorem has2 (a : Int) (h1 : 0 ≤ a) (h2 : a < 8192) : hasB a 2 = bit a 2 := hasB_pow a 1 h1 h2 (by omega)
theorem has4 (a : Int) (h1 : 0 ≤ a) (h2 : a < 8192) : hasB a 4 = bit a 4 := hasB_pow a 2 h1 h2 (by omega)
theorem has8 (a : Int) (h1 : 0 ≤ a) (h2 : a < 8192) : hasB a 8 = bit a 8 := hasB_pow a 3 h1 h2 (by omega)
theorem has16 (a : Int) (h1 : 0 ≤ a) (h2 : a < 8192) : hasB a 16 = bit a 16 := hasB_pow a 4 h1 h2 (by omega)
theorem has32 (a : Int) (h1 : 0 ≤ a) (h2 : a < 8192) : hasB a 32 = bit a 32 := hasB_pow a 5 h1 h2 (by omega)
theorem has64 (a : Int) (h1 : 0 ≤ a) (h2 : a < 8192) : hasB a 64 = bit a 64 := hasB_pow a 6 h1 h2 (by omega)
theorem has128 (a : Int) (h1 : 0 ≤ a) (h2 : a < 8192) : hasB a 128 = bit a 128 := hasB_pow a 7 h1 h2 (by omega)
theorem has256 (a : Int) (h1 : 0 ≤ a) (h2 : a < 8192) : hasB a 256 = bit a 256 := hasB_pow a 8 h1 h2 (by omega)
theorem has512 (a : Int) (h1 : 0 ≤ a) (h2 : a < 8192) : hasB a 512 = bit a 512 := hasB_pow a 9 h1 h2 (by omega)
theorem has1024 (a : Int) (h1 : 0 ≤ a) (h2 : a < 8192) : hasB a 1024 = bit a 1024 := hasB_pow a 10 h1 h2 (by omega)
theorem has2048 (a : Int) (h1 : 0 ≤ a) (h2 : a < 8192) : hasB a 2048 = bit a 2048 := hasB_pow a 11 h1 h2 (by omega)
theorem has4096 (a : Int) (h1 : 0 ≤ a) (h2 : a < 8192) : hasB a 4096 = bit a 4096 := hasB_pow a 12 h1 h2 (by omega)
theorem has0 (a : Int) (h1 : 0 ≤ a) (h2 : a < 8192) : hasB a 0 = true := by rw [show (0 : Int) = ((0 : Nat) : Int) from rfl, hasB_nat a 0 h1 h2 (by omega)]; simp
theorem has1536 (a : Int) (h1 : 0 ≤ a) (h2 : a < 8192) : hasB a 1536 = (bit a 512 && bit a 1024) := by rw [← has512 a h1 h2, ← has1024 a h1 h2]; exact hasB_or a 512 1024 h1 h2 (by omega) (by omega)
theorem has17 (a : Int) (h1 : 0 ≤ a) (h2 : a < 8192) : hasB a 17 = (bit a 1 && bit a 16) := by rw [← has1 a h1 h2, ← has16 a h1 h2]; exact hasB_or a 1 16 h1 h2 (by omega) (by omega)
theorem has12 (a : Int) (h1 : 0 ≤ a) (h2 : a < 8192) : hasB a 12 = (bit a 4 && bit a 8) := by rw [← has4 a h1 h2, ← has8 a h1 h2]; exact hasB_or a 4 8 h1 h2 (by omega) (by omega)
theorem has140 (a : Int) (h1 : 0 ≤ a) (h2 : a < 8192) : hasB a 140 = ((bit a 4 && bit a 8) && bit a 128) := by rw [← has12 a h1 h2, ← has128 a h1 h2]; exact hasB_or a 12 128 h1 h2 (by omega) (by omega)
theorem has20 (a : Int) (h1 : 0 ≤ a) (h2 : a < 8192) : hasB a 20 = (bit a 4 && bit a 16) := by rw [← has4 a h1 h2, ← has16 a h1 h2]; exact hasB_or a 4 16 h1 h2 (by omega) (by omega)
theorem has34 (a : Int) (h1 : 0 ≤ a) (h2 : a < 8192) : hasB a 34 = (bit a 32 && bit a 2) := by rw [← has32 a h1 h2, ← has2 a h1 h2]; exact hasB_or a 32 2 h1 h2 (by omega) (by omega)
theorem has68 (a : Int) (h1 : 0 ≤ a) (h2 : a < 8192) : hasB a 68 = (bit a 4 && bit a 64) := by rw [← has4 a h1 h2, ← has64 a h1 h2]; exact hasB_or a 4 64 h1 h2 (by omega) (by omega)
theorem has514 (a : Int) (h1 : 0 ≤ a) (h2 : a < 8192) : hasB a 514 = (bit a 2 && bit a 512) := by rw [← has2 a h1 h2, ← has512 a h1 h2]; exact hasB_or a 2 512 h1 h2 (by omega) (by omega)
theorem has518 (a : Int) (h1 : 0 ≤ a) (h2 : a < 8192) : hasB a 518 = ((bit a 2 && bit a 512) && bit a 4) := by rw [← has514 a h1 h2, ← has4 a h1 h2]; exact hasB_or a 514 4 h1 h2 (by omega) (by omega)
set_option maxHeartbeats 400000 in
theorem Has_any (a b : Int) (w : World) :
    Calls Tryz.prog 52 #[.int .i64 a, .int .i64 b] w fun e w' => e = .returned (.bool (hasB a b)) ∧ w' = w := by
  go_enter Tryz.func52, Tryz.ntmps52
  go_wp2
  go_ret
  exact ⟨rfl, rfl⟩
def ctrlB (b : Nat) : Bool := decide (b < 32 ∨ b = 127)
set_option maxHeartbeats 400000 in
theorem ctrl_any (b : Nat) (w : World) :
    Calls Tryz.prog 153 #[.int .u8 b] w fun e w' => e = .returned (.bool (ctrlB b)) ∧ w' = w := by
  go_enter Tryz.func153, Tryz.ntmps153
  go_wp2
  all_goals go_ret
  · rename_i h
    exact ⟨ret_bool (by unfold ctrlB; have h1 : ¬ b < 32 := by omega
                        rw [Bool.eq_iff_iff]; simp [h1]; omega), rfl⟩
  · exact ⟨ret_bool (by unfold ctrlB; simp; omega), rfl⟩
/-- Great letters are small, small ones great. -/
def great (c : UInt8) : UInt8 := if decide (97 ≤ (c.toNat : Int)) && decide ((c.toNat : Int) ≤ 122) then c - 32 else c
def smallC (c : UInt8) : UInt8 := if decide (65 ≤ (c.toNat : Int)) && decide ((c.toNat : Int) ≤ 90) then c + 32 else c
theorem sub32 (c : UInt8) (h : 97 ≤ (c.toNat : Int)) : ((c - 32).toNat : Int) = (c.toNat : Int) - 32 := by
  rw [UInt8.toNat_sub_of_le _ _ (by rw [UInt8.le_iff_toNat_le]; show 32 ≤ _; omega)]
  show ((c.toNat - 32 : Nat) : Int) = _
  omega
theorem add32' (c : UInt8) (h : (c.toNat : Int) ≤ 90) : ((c + 32).toNat : Int) = (c.toNat : Int) + 32 := by
  rw [UInt8.toNat_add]
  have : (32 : UInt8).toNat = 32 := rfl
  omega
set_option maxHeartbeats 400000 in
theorem great_any (c : UInt8) (w : World) :
    Calls Tryz.prog 157 #[.int .u8 c.toNat] w fun e w' => e = .returned (.int .u8 (great c).toNat) ∧ w' = w := by
  have hlt := UInt8.toNat_lt c
  by_cases h1 : 97 ≤ (c.toNat : Int)
  · by_cases h2 : (c.toNat : Int) ≤ 122
    · have HS : Hid (((great c).toNat : Int) = (c.toNat : Int) - 32) := by show ((great c).toNat : Int) = _; unfold great; rw [if_pos (by simp [h1, h2]), sub32 c h1]
      go_enter Tryz.func157, Tryz.ntmps157
      go_wp2
      go_ret
      exact ⟨ret_int (by rw [HS.out]; omega), rfl⟩
    · have HS : Hid (great c = c) := by show great c = c; unfold great; rw [if_neg (by simp [h2])]
      go_enter Tryz.func157, Tryz.ntmps157
      go_wp2
      go_ret
      exact ⟨ret_int (by rw [HS.out]), rfl⟩
  · have HS : Hid (great c = c) := by show great c = c; unfold great; rw [if_neg (by simp [h1])]
    go_enter Tryz.func157, Tryz.ntmps157
    go_wp2
    go_ret
    exact ⟨ret_int (by rw [HS.out]), rfl⟩
set_option maxHeartbeats 400000 in
theorem small_any (c : UInt8) (n : Int) (hn : n = (c.toNat : Int)) (w : World) :
    Calls Tryz.prog 54 #[.int .u8 n] w fun e w' => e = .returned (.int .u8 (smallC c).toNat) ∧ w' = w := by
  subst hn
  have hlt := UInt8.toNat_lt c
  by_cases h1 : 65 ≤ (c.toNat : Int)
  · by_cases h2 : (c.toNat : Int) ≤ 90
    · have HS : Hid (((smallC c).toNat : Int) = (c.toNat : Int) + 32) := by show ((smallC c).toNat : Int) = _; unfold smallC; rw [if_pos (by simp [h1, h2]), add32' c h2]
      go_enter Tryz.func54, Tryz.ntmps54
      go_wp2
      go_ret
      exact ⟨ret_int (by rw [HS.out]; omega), rfl⟩
    · have HS : Hid (smallC c = c) := by show smallC c = c; unfold smallC; rw [if_neg (by simp [h2])]
      go_enter Tryz.func54, Tryz.ntmps54
      go_wp2
      go_ret
      exact ⟨ret_int (by rw [HS.out]), rfl⟩
  · have HS : Hid (smallC c = c) := by show smallC c = c; unfold smallC; rw [if_neg (by simp [h1])]
    go_enter Tryz.func54, Tryz.ntmps54
    go_wp2
    go_ret
    exact ⟨ret_int (by rw [HS.out]), rfl⟩
set_option maxHeartbeats 400000 in
theorem tab_any (c : Int) (w : World) (h0 : 0 ≤ c) (h1 : c < 4611686018427387904) :
    Calls Tryz.prog 159 #[.int .i64 c] w fun e w' => e = .returned (.int .i64 (8 - c % 8)) ∧ w' = w := by
  go_enter Tryz.func159, Tryz.ntmps159
  go_wp2
  go_ret
  exact ⟨rfl, rfl⟩
end Go.Proofs.YtfnglkhhmplejaaGreat
