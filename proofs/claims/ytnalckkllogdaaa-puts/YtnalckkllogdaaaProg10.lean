/- Walks: the program: its settings are changed. -/
import Derived.Test.YtnalckkllogdaaaProg9
namespace Go.Proofs.Ytnalckkllogdaaa
open Go Go.RowKit Go.Clk

theorem i64_xor_nat (a b : Nat) (ha : a < 8192) (hb : b < 8192) : bits .xor .i64 (a : Int) (b : Int) = ((a ^^^ b : Nat) : Int) := by
  have hx : a ^^^ b < 2 ^ 13 := Nat.xor_lt_two_pow (by omega) (by omega)
  have e1 : ∀ n : Nat, n < 8192 → (BitVec.ofInt 64 (n : Int)).toNat = n := fun n hn => by
    rw [BitVec.ofInt_natCast, BitVec.toNat_ofNat]; exact Nat.mod_eq_of_lt (by omega)
  show IntKind.i64.wrap ((BitVec.ofInt 64 (a : Int) ^^^ BitVec.ofInt 64 (b : Int)).toNat : Int) = _
  rw [BitVec.toNat_xor, e1 a ha, e1 b hb]
  exact wrap_small _ (by omega) (by omega)
theorem bit2_nat (a : Nat) : bit (a : Int) 2 = a.testBit 1 := by
  unfold bit
  rw [Nat.testBit_eq_decide_div_mod_eq]
  have e : ((a : Int) / 2 % 2) = ((a / 2 % 2 : Nat) : Int) := by omega
  rw [e]
  have h1 : a / 2 ^ 1 = a / 2 := by simp
  rw [h1, Bool.eq_iff_iff]
  simp
  omega
theorem xor_two (a b : Int) (a0 : 0 ≤ a) (a1 : a < 8192) (b0 : 0 ≤ b) (b1 : b < 8192) (h : bit a 2 = bit b 2) : (bits .and .i64 (bits .xor .i64 a b) 2 != 0) = false := by
  obtain ⟨A, rfl⟩ := Int.eq_ofNat_of_zero_le a0
  obtain ⟨B, rfl⟩ := Int.eq_ofNat_of_zero_le b0
  have hx : A ^^^ B < 2 ^ 13 := Nat.xor_lt_two_pow (by omega) (by omega)
  rw [i64_xor_nat A B (by omega) (by omega)]
  have h2 := and_bit ((A ^^^ B : Nat) : Int) 1 (by omega) (by omega) (by omega)
  have h3 : (((2 ^ 1 : Nat)) : Int) = 2 := rfl
  rw [h3] at h2
  rw [h2, bit2_nat, Nat.testBit_xor, ← bit2_nat, ← bit2_nat, h]
  simp
theorem and_two (a : Int) (a0 : 0 ≤ a) (a1 : a < 8192) : (bits .and .i64 a 2 == 0) = !bit a 2 := by
  have h2 := and_bit a 1 a0 a1 (by omega)
  have h3 : (((2 ^ 1 : Nat)) : Int) = 2 := rfl
  rw [h3] at h2
  rw [← h2, bne, Bool.not_not]

theorem lit17 (s : List Int) (hs : s.length = 17) : i64s s = [.int .i64 (gt s 0), .int .i64 (gt s 1), .int .i64 (gt s 2), .int .i64 (gt s 3), .int .i64 (gt s 4), .int .i64 (gt s 5), .int .i64 (gt s 6), .int .i64 (gt s 7), .int .i64 (gt s 8), .int .i64 (gt s 9), .int .i64 (gt s 10), .int .i64 (gt s 11), .int .i64 (gt s 12), .int .i64 (gt s 13), .int .i64 (gt s 14), .int .i64 (gt s 15), .int .i64 (gt s 16)] := by
  match s, hs with
  | [a0, a1, a2, a3, a4, a5, a6, a7, a8, a9, a10, a11, a12, a13, a14, a15, a16], _ => rfl

theorem PV.s_all {S0 : List Nat} {w0 w : World} {x : List Nat} {b : Nat} {σ : St} {vi vu vo : Value} (h : PV S0 w0 x b σ vi vu vo w) (s : List Int) (hs : s.length = 17) : PV S0 w0 x b { σ with ss := s } vi vu vo (w.setCells b 0 (i64s s)) := by
  have h3 := h.2.sets (i64s s) 0
  have h4 : setAll (i64s σ.ss ++ ptl σ vi vu vo) 0 (i64s s) = i64s s ++ ptl σ vi vu vo := setAll_mid (i64s s) [] (i64s σ.ss) (ptl σ vi vu vo) (by rw [i64s_len, i64s_len, hs, h.1])
  rw [h4] at h3
  exact ⟨hs, h3⟩

section
variable (S0 : List Nat) (w0 : World) (x : List Nat) (b : Nat) (σ : St) (w : World)

set_option maxHeartbeats 2000000 in
set_option maxRecDepth 100000 in
theorem change_same (h : AtP S0 w0 x b σ w) (l0 : 0 ≤ σ.l) (l1 : σ.l < 8192) (s : List Int) (hs : s.length = 17) (s0 : 0 ≤ gt s 2) (s1 : gt s 2 < 8192) (hl : Hid (bit (gt s 2) 2 = bit σ.l 2)) :
    Calls Try.prog 42 #[.pointer (some ⟨b, 0, none⟩), .agg (i64s s).toArray] w fun e w' => e = .returned (.tuple #[]) ∧ AtP S0 w0 x b { σ with ss := s, quoted := bit σ.l 2 && σ.quoted } w' := by
  obtain ⟨vi, vu, vo, hV⟩ := h
  have hx2 := xor_two (gt s 2) σ.l s0 s1 l0 l1 hl.out
  have ha2 : (bits .and .i64 (gt s 2) 2 == 0) = !bit σ.l 2 := by rw [and_two _ s0 s1, hl.out]
  have hlen : (i64s s).length = 17 := by rw [i64s_len, hs]
  have hi : (Try.prog.info? 34).map (·.size) = some (i64s s).length := by rw [hlen]; exact size_settings
  go_enter Try.func42, Try.ntmps42
  go_wp2_with (refine wpList_box rfl (.tmp 1) 34 rfl (i64s s) rfl ?_)
  intro W B hid
  have hB : PV S0 w0 (B :: x) b σ vi vu vo W := by obtain ⟨rfl, rfl⟩ := hid.out; exact hV.boxed _
  have hblk : Blk W B 34 (i64s s) := by obtain ⟨rfl, rfl⟩ := hid.out; exact Blk.new w _ _
  have hne : B ≠ b := hB.2.ne (by simp)
  have b2 : W.cell? ⟨B, 2, none⟩ = some (.int .i64 (gt s 2)) := hblk.cell 2 (by simp [i64s, gt, List.getD, List.getElem?_eq_getElem (show 2 < s.length by omega)])
  have k2 := hB.cl
  clear hid hV
  cases hq : bit σ.l 2
  · rw [hq, Bool.not_false] at ha2
    go_wp2
    go_quiet (fail)
    have hD : PV S0 w0 (B :: x) b σ vi vu vo (W.drewN nq) := ⟨hB.1, hB.2.drewN nq⟩
    have hDb : Blk (W.drewN nq) B 34 (i64s s) := hblk
    have d2 : (W.drewN nq).cell? ⟨B, 2, none⟩ = some (.int .i64 (gt s 2)) := b2
    clear hB hblk b2 k2
    generalize W.drewN nq = V at *
    have k23 := hD.c23
    have f23 := hD.frozen 23
    have hO := (hD.s_quoted false)
    have hOb := hDb.other ⟨b, 23, none⟩ (.bool false) hne
    clear hD hDb
    go_wp2_with (first | refine wpList_load_part rfl (.tmp 3) 34 rfl B 0 rfl (i64s s) _ ?hc Try.underlying34 rfl hi ?next | refine wpList_store_part rfl (.tmp 28) (.tmp 26) 34 rfl b 0 rfl (i64s s) rfl 62 _ hO.2.blk ?hl2 hi (i64s_one _) ?_)
    case hc =>
      intro j v hv
      rw [Nat.zero_add]
      exact hOb.cell j hv
    case hl2 => rw [i64s_len, hO.1]; omega
    intro W2 hW2
    have hE : AtP S0 w0 (B :: x) b { σ with ss := s, quoted := false } W2 := by
      rw [hW2.out]
      exact (hO.s_all s hs).r
    clear hW2 hO hOb
    go_wp2
    go_end0
    have hE2 := hE.weaken (y := x) (fun g hg => by simp [hg])
    first | exact ⟨rfl, hE2⟩ | (rw [hq]; exact ⟨rfl, hE2⟩)
  · rw [hq, Bool.not_true] at ha2
    go_wp2
    go_quiet (fail)
    have hD : PV S0 w0 (B :: x) b σ vi vu vo (W.drewN nq) := ⟨hB.1, hB.2.drewN nq⟩
    have hDb : Blk (W.drewN nq) B 34 (i64s s) := hblk
    have d2 : (W.drewN nq).cell? ⟨B, 2, none⟩ = some (.int .i64 (gt s 2)) := b2
    clear hB hblk b2 k2
    generalize W.drewN nq = V at *
    have hO := hD
    have d0' := hDb.cell 0 (v := .int .i64 (gt s 0)) (by rw [lit17 s hs]; rfl)
    have d1' := hDb.cell 1 (v := .int .i64 (gt s 1)) (by rw [lit17 s hs]; rfl)
    have d2' := hDb.cell 2 (v := .int .i64 (gt s 2)) (by rw [lit17 s hs]; rfl)
    have d3' := hDb.cell 3 (v := .int .i64 (gt s 3)) (by rw [lit17 s hs]; rfl)
    have d4' := hDb.cell 4 (v := .int .i64 (gt s 4)) (by rw [lit17 s hs]; rfl)
    have d5' := hDb.cell 5 (v := .int .i64 (gt s 5)) (by rw [lit17 s hs]; rfl)
    have d6' := hDb.cell 6 (v := .int .i64 (gt s 6)) (by rw [lit17 s hs]; rfl)
    have d7' := hDb.cell 7 (v := .int .i64 (gt s 7)) (by rw [lit17 s hs]; rfl)
    have d8' := hDb.cell 8 (v := .int .i64 (gt s 8)) (by rw [lit17 s hs]; rfl)
    have d9' := hDb.cell 9 (v := .int .i64 (gt s 9)) (by rw [lit17 s hs]; rfl)
    have d10' := hDb.cell 10 (v := .int .i64 (gt s 10)) (by rw [lit17 s hs]; rfl)
    have d11' := hDb.cell 11 (v := .int .i64 (gt s 11)) (by rw [lit17 s hs]; rfl)
    have d12' := hDb.cell 12 (v := .int .i64 (gt s 12)) (by rw [lit17 s hs]; rfl)
    have d13' := hDb.cell 13 (v := .int .i64 (gt s 13)) (by rw [lit17 s hs]; rfl)
    have d14' := hDb.cell 14 (v := .int .i64 (gt s 14)) (by rw [lit17 s hs]; rfl)
    have d15' := hDb.cell 15 (v := .int .i64 (gt s 15)) (by rw [lit17 s hs]; rfl)
    have d16' := hDb.cell 16 (v := .int .i64 (gt s 16)) (by rw [lit17 s hs]; rfl)
    have HL : Hid (i64s s = [.int .i64 (gt s 0), .int .i64 (gt s 1), .int .i64 (gt s 2), .int .i64 (gt s 3), .int .i64 (gt s 4), .int .i64 (gt s 5), .int .i64 (gt s 6), .int .i64 (gt s 7), .int .i64 (gt s 8), .int .i64 (gt s 9), .int .i64 (gt s 10), .int .i64 (gt s 11), .int .i64 (gt s 12), .int .i64 (gt s 13), .int .i64 (gt s 14), .int .i64 (gt s 15), .int .i64 (gt s 16)]) := lit17 s hs
    have hi' : (Try.prog.info? 34).map (·.size) = some ([.int .i64 (gt s 0), .int .i64 (gt s 1), .int .i64 (gt s 2), .int .i64 (gt s 3), .int .i64 (gt s 4), .int .i64 (gt s 5), .int .i64 (gt s 6), .int .i64 (gt s 7), .int .i64 (gt s 8), .int .i64 (gt s 9), .int .i64 (gt s 10), .int .i64 (gt s 11), .int .i64 (gt s 12), .int .i64 (gt s 13), .int .i64 (gt s 14), .int .i64 (gt s 15), .int .i64 (gt s 16)] : List Value).length := size_settings
    clear hD hDb d2
    go_wp2_with (refine wpList_store_part rfl (.tmp 28) (.tmp 26) 34 rfl b 0 rfl [.int .i64 (gt s 0), .int .i64 (gt s 1), .int .i64 (gt s 2), .int .i64 (gt s 3), .int .i64 (gt s 4), .int .i64 (gt s 5), .int .i64 (gt s 6), .int .i64 (gt s 7), .int .i64 (gt s 8), .int .i64 (gt s 9), .int .i64 (gt s 10), .int .i64 (gt s 11), .int .i64 (gt s 12), .int .i64 (gt s 13), .int .i64 (gt s 14), .int .i64 (gt s 15), .int .i64 (gt s 16)] rfl 62 _ hO.2.blk ?hl2 hi' ?h1 ?_)
    case hl2 => rw [List.length_append, i64s_len, hO.1]; simp
    case h1 => rw [← HL.out]; exact i64s_one _
    intro W2 hW2
    have hE : AtP S0 w0 (B :: x) b { σ with ss := s, quoted := σ.quoted } W2 := by
      rw [hW2.out, ← HL.out]
      exact (hO.s_all s hs).r
    clear hW2 hO
    go_wp2
    go_end0
    have hE2 := hE.weaken (y := x) (fun g hg => by simp [hg])
    first | exact ⟨rfl, hE2⟩ | (rw [hq]; exact ⟨rfl, hE2⟩)
end
end Go.Proofs.Ytnalckkllogdaaa
