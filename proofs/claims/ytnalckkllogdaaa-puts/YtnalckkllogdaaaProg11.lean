/- Walks: the program: Set, Status. -/
import Derived.Test.YtnalckkllogdaaaProg10
namespace Go.Proofs.Ytnalckkllogdaaa
open Go Go.RowKit Go.Clk

section
variable (S0 : List Nat) (w0 : World) (x : List Nat) (b : Nat) (σ : St) (w : World) (C : Int)

theorem gt_norm (s : List Int) (k : Nat) (hk : k < 17) : gt (normS s) k = gt s k % lim k := by
  rw [← partS_all s s, partS_get _ _ _ _ hk, if_pos hk]

set_option maxHeartbeats 2000000 in
set_option maxRecDepth 100000 in
theorem PSet_same (h : AtP S0 w0 x b σ w) (ok : Ok σ C) (s : List Int) (hs : s.length = 17) (hl : Hid (bit σ.l 2 = bit (gt s 2 % 1024) 2)) :
    Calls Try.prog 23 #[.pointer (some ⟨b, 0, none⟩), .agg (i64s s).toArray, .int .i64 0] w fun e w' => e = .returned (.int .i64 0) ∧ AtP S0 w0 x b { σ with ss := normS s, quoted := bit σ.l 2 && σ.quoted } w' := by
  have l0 := ok.l0; have l1 := ok.l1
  go_enter Try.func23, Try.ntmps23
  go_wp2_with (refine wpList_box rfl (.tmp 1) 34 rfl (i64s s) rfl ?_)
  intro W B hid
  have hB : AtP S0 w0 x b σ W := by obtain ⟨rfl, rfl⟩ := hid.out; obtain ⟨vi, vu, vo, hV⟩ := h; exact (hV.alloc _).r
  have hblk : Blk W B 34 (i64s s) := by obtain ⟨rfl, rfl⟩ := hid.out; exact Blk.new w _ _
  have d0' := hblk.cell 0 (v := .int .i64 (gt s 0)) (by rw [lit17 s hs]; rfl)
  have d1' := hblk.cell 1 (v := .int .i64 (gt s 1)) (by rw [lit17 s hs]; rfl)
  have d2' := hblk.cell 2 (v := .int .i64 (gt s 2)) (by rw [lit17 s hs]; rfl)
  have d3' := hblk.cell 3 (v := .int .i64 (gt s 3)) (by rw [lit17 s hs]; rfl)
  have d4' := hblk.cell 4 (v := .int .i64 (gt s 4)) (by rw [lit17 s hs]; rfl)
  have d5' := hblk.cell 5 (v := .int .i64 (gt s 5)) (by rw [lit17 s hs]; rfl)
  have d6' := hblk.cell 6 (v := .int .i64 (gt s 6)) (by rw [lit17 s hs]; rfl)
  have d7' := hblk.cell 7 (v := .int .i64 (gt s 7)) (by rw [lit17 s hs]; rfl)
  have d8' := hblk.cell 8 (v := .int .i64 (gt s 8)) (by rw [lit17 s hs]; rfl)
  have d9' := hblk.cell 9 (v := .int .i64 (gt s 9)) (by rw [lit17 s hs]; rfl)
  have d10' := hblk.cell 10 (v := .int .i64 (gt s 10)) (by rw [lit17 s hs]; rfl)
  have d11' := hblk.cell 11 (v := .int .i64 (gt s 11)) (by rw [lit17 s hs]; rfl)
  have d12' := hblk.cell 12 (v := .int .i64 (gt s 12)) (by rw [lit17 s hs]; rfl)
  have d13' := hblk.cell 13 (v := .int .i64 (gt s 13)) (by rw [lit17 s hs]; rfl)
  have d14' := hblk.cell 14 (v := .int .i64 (gt s 14)) (by rw [lit17 s hs]; rfl)
  have d15' := hblk.cell 15 (v := .int .i64 (gt s 15)) (by rw [lit17 s hs]; rfl)
  have d16' := hblk.cell 16 (v := .int .i64 (gt s 16)) (by rw [lit17 s hs]; rfl)
  have HL : Hid ((i64s s).toArray = (([.int .i64 (gt s 0), .int .i64 (gt s 1), .int .i64 (gt s 2), .int .i64 (gt s 3), .int .i64 (gt s 4), .int .i64 (gt s 5), .int .i64 (gt s 6), .int .i64 (gt s 7), .int .i64 (gt s 8), .int .i64 (gt s 9), .int .i64 (gt s 10), .int .i64 (gt s 11), .int .i64 (gt s 12), .int .i64 (gt s 13), .int .i64 (gt s 14), .int .i64 (gt s 15), .int .i64 (gt s 16)] : List Value)).toArray) := by show (i64s s).toArray = _; rw [lit17 s hs]
  clear hid h hblk
  go_wp2_with fail
  rw [← HL.out]
  refine (known_any W s hs).mono ?_
  rintro e W1 ⟨rfl, hG⟩
  have hB1 : AtP S0 w0 x b σ W1 := by obtain ⟨vi, vu, vo, hV⟩ := hB; exact (hV.same hG).r
  have hn2 := gt_norm s 2 (by omega)
  have hlim : lim 2 = 1024 := rfl
  rw [hlim] at hn2
  have e0 : 0 ≤ gt (normS s) 2 := by rw [hn2]; exact Int.emod_nonneg _ (by omega)
  have e1 : gt (normS s) 2 < 8192 := by rw [hn2]; have := Int.emod_lt_of_pos (gt s 2) (show (0 : Int) < 1024 by omega); omega
  have HQ : Hid (bit (gt (normS s) 2) 2 = bit σ.l 2) := by show bit (gt (normS s) 2) 2 = _; rw [hn2]; exact hl.out.symm
  clear hn2 hlim hB hG
  go_wp2_with fail
  refine (change_same S0 w0 x b σ _ hB1 l0 l1 (normS s) (by simp [normS]) e0 e1 HQ).mono ?_
  rintro e W2 ⟨rfl, hW2⟩
  go_wp2
  go_ret
  exact ⟨rfl, hW2⟩
end
end Go.Proofs.Ytnalckkllogdaaa
