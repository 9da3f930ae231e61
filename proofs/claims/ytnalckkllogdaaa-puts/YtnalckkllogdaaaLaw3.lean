/- Walks: the law: what a pair tells: Get. -/
import Derived.Test.YtnalckkllogdaaaLaw2e
namespace Go.Proofs.Ytnalckkllogdaaa
open Go Go.RowKit Go.Clk

theorem OP.len {w : World} {c : Nat → Nat} {i b : Nat} {σ : St} (h : OP w c i b σ) : σ.ss.length = 17 := by obtain ⟨S, ⟨_, _, _, h, _⟩, _⟩ := h; exact h
/-- A box of the colour 0 is written over. -/
theorem Pr.over {w w' : World} {c : Nat → Nat} {i j bt br B : Nat} {σ τ : St} (h : Pr w c i j bt br σ τ) (hg : w.grownBy w' (some B)) (hB : c B = 0) (hi0 : i ≠ 0) (hj0 : j ≠ 0) : Pr w' c i j bt br σ τ :=
  ⟨h.1.stay hg.size (fun k hk hc => hg.block k hk fun e => by cases e; exact hi0 (hc.symm.trans hB)) fun _ _ => rfl, h.2.stay hg.size (fun k hk hc => hg.block k hk fun e => by cases e; exact hj0 (hc.symm.trans hB)) fun _ _ => rfl⟩
theorem Bx.over {w w' : World} {c : Nat → Nat} {B A : Nat} {e : TypeId} {cs : List Value} (h : Bx w c A e cs) (hg : w.grownBy w' (some B)) (hne : A ≠ B) : Bx w' c A e cs :=
  ⟨by unfold Blk; rw [hg.block A h.1.lt (by simpa using hne)]; exact h.1, h.2⟩
theorem Tw.over {w w1 w2 : World} {c : Nat → Nat} {i j B : Nat} (h : Tw c i j w w1) (hg : w1.grownBy w2 (some B)) (hB : w.heap.size ≤ B) : Tw c i j w w2 :=
  ⟨hg.os.trans h.os, hg.tape.trans h.tape, hg.output.trans h.output, Nat.le_trans h.size hg.size, fun k hk h1 h2 => (hg.block k (Nat.lt_of_lt_of_le hk h.size) (by simp; omega)).trans (h.block k hk h1 h2)⟩
theorem Pr.drewN {w : World} {c : Nat → Nat} {i j bt br : Nat} {σ τ : St} (h : Pr w c i j bt br σ τ) (n : Nat) : Pr (w.drewN n) c i j bt br σ τ :=
  ⟨h.1.stay (Nat.le_refl _) (fun _ _ _ => rfl) fun _ _ => rfl, h.2.stay (Nat.le_refl _) (fun _ _ _ => rfl) fun _ _ => rfl⟩

section
variable (c : Nat → Nat) (i j bt br wb : Nat) (σ : St) (w : World) (term n : Int) (s : ByteArray) (ss : List Int)

set_option maxHeartbeats 4000000 in
set_option maxRecDepth 100000 in
theorem tells_get (h : Pr w c i j bt br σ σ) (hij : i ≠ j) (hi0 : i ≠ 0) (hj0 : j ≠ 0) :
    Calls Try.prog 35 #[.pointer (some ⟨wb, 0, none⟩), .agg #[.pointer (some ⟨bt, 0, none⟩), .pointer (some ⟨br, 0, none⟩)], .agg (opCells 1 term n s ss).toArray] w fun e w' => Dn c i j bt br w σ e w' := by
  have hlen := h.1.len
  have hl17 : (i64s σ.ss).length = 17 := by rw [i64s_len, hlen]
  have hi : (Try.prog.info? 34).map (·.size) = some (i64s σ.ss).length := by rw [hl17]; exact size_settings
  go_enter Try.func35, Try.ntmps35
  go_wp2_with (first | refine wpList_box rfl (.tmp 2) 36 rfl (opCells 1 term n s ss) rfl ?_)
  intro W B hid
  obtain ⟨c2, hP, hA, hB, hT, hc2⟩ := boxes h [.pointer (some ⟨bt, 0, none⟩), .pointer (some ⟨br, 0, none⟩)] (opCells 1 term n s ss) W B 42 36 hid.out
  obtain ⟨A, hAe⟩ : ∃ A, A = w.heap.size := ⟨_, rfl⟩
  rw [← hAe] at hA ⊢
  clear hAe
  have a0 := hA.1.cell 0 (v := .pointer (some ⟨bt, 0, none⟩)) rfl
  have b0 := hB.1.cell 0 (v := .int .i64 1) rfl
  go_wp2_with fail
  refine (hP.doP hij (fun S0 w0 hX => Get_any S0 w0 [] bt σ W hX)).mono ?_
  rintro e W1 ⟨rfl, hP1, ht1⟩
  have hA1 := hA.stay ht1 hi0
  have hT1 := hT.next hc2 ht1 (.inl rfl)
  have hc1 : ∀ k, k < w.heap.size → recol W c2 i k = c k := fun k hk => (recol_old (Nat.lt_of_lt_of_le hk hT.size)).trans (hc2 k hk)
  clear a0 b0 hB hA hP
  generalize recol W c2 i = c3 at *
  have hbk := (Bx.new W1 c3 34 z17)
  have hPz := hP1.alloc (.cells z17.toArray 34)
  have hAz := hA1.alloc (.cells z17.toArray 34)
  have hTz := hT1.alloc (.cells z17.toArray 34)
  have hcz : ∀ k, k < w.heap.size → recol W1 c3 0 k = c k := fun k hk => (recol_old (Nat.lt_of_lt_of_le hk hT1.size)).trans (hc1 k hk)
  have hAlt := hA1.1.lt
  have HW1 : Hid (w.heap.size ≤ W1.heap.size) := hT1.size
  go_wp2_with (refine wpList_store_whole rfl (.tmp 7) (.tmp 27) 34 rfl W1.heap.size rfl (i64s σ.ss) rfl 34 z17 hbk.1 ?hz hi (i64s_one _) ?_)
  case hz => rw [hl17]; rfl
  intro V hBV hG hsz
  have hPV := hPz.over hG hbk.2 hi0 hj0
  have hAV := hAz.over hG (by omega)
  have hTV := hTz.over hG HW1.out
  have hB7 : Bx V (recol W1 c3 0) W1.heap.size 34 (i64s σ.ss) := ⟨hBV, hbk.2⟩
  clear hPz hAz hTz hbk hBV hG hP1 hA1 hT1 hc1 hsz
  generalize W1.heap.size = B7 at *
  generalize recol W1 c3 0 = c4 at *
  have a1 := hAV.1.cell 1 (v := .pointer (some ⟨br, 0, none⟩)) rfl
  have d0 := hB7.1.cell 0 (v := .int .i64 (gt σ.ss 0)) (by rw [lit17 σ.ss hlen]; rfl)
  have d1 := hB7.1.cell 1 (v := .int .i64 (gt σ.ss 1)) (by rw [lit17 σ.ss hlen]; rfl)
  have d2 := hB7.1.cell 2 (v := .int .i64 (gt σ.ss 2)) (by rw [lit17 σ.ss hlen]; rfl)
  have d3 := hB7.1.cell 3 (v := .int .i64 (gt σ.ss 3)) (by rw [lit17 σ.ss hlen]; rfl)
  have d4 := hB7.1.cell 4 (v := .int .i64 (gt σ.ss 4)) (by rw [lit17 σ.ss hlen]; rfl)
  have d5 := hB7.1.cell 5 (v := .int .i64 (gt σ.ss 5)) (by rw [lit17 σ.ss hlen]; rfl)
  have d6 := hB7.1.cell 6 (v := .int .i64 (gt σ.ss 6)) (by rw [lit17 σ.ss hlen]; rfl)
  have d7 := hB7.1.cell 7 (v := .int .i64 (gt σ.ss 7)) (by rw [lit17 σ.ss hlen]; rfl)
  have d8 := hB7.1.cell 8 (v := .int .i64 (gt σ.ss 8)) (by rw [lit17 σ.ss hlen]; rfl)
  have d9 := hB7.1.cell 9 (v := .int .i64 (gt σ.ss 9)) (by rw [lit17 σ.ss hlen]; rfl)
  have d10 := hB7.1.cell 10 (v := .int .i64 (gt σ.ss 10)) (by rw [lit17 σ.ss hlen]; rfl)
  have d11 := hB7.1.cell 11 (v := .int .i64 (gt σ.ss 11)) (by rw [lit17 σ.ss hlen]; rfl)
  have d12 := hB7.1.cell 12 (v := .int .i64 (gt σ.ss 12)) (by rw [lit17 σ.ss hlen]; rfl)
  have d13 := hB7.1.cell 13 (v := .int .i64 (gt σ.ss 13)) (by rw [lit17 σ.ss hlen]; rfl)
  have d14 := hB7.1.cell 14 (v := .int .i64 (gt σ.ss 14)) (by rw [lit17 σ.ss hlen]; rfl)
  have d15 := hB7.1.cell 15 (v := .int .i64 (gt σ.ss 15)) (by rw [lit17 σ.ss hlen]; rfl)
  have d16 := hB7.1.cell 16 (v := .int .i64 (gt σ.ss 16)) (by rw [lit17 σ.ss hlen]; rfl)
  obtain ⟨vi, vo, vu, vn, vd, hR0⟩ : ∃ vi vo vu vn vd, ∃ S, AtV S V [] br σ vi vo vu vn vd V := by
    obtain ⟨S, ⟨vi, vo, vu, vn, vd, h⟩, _⟩ := hPV.2
    exact ⟨vi, vo, vu, vn, vd, S, h⟩
  obtain ⟨S, hR0⟩ := hR0
  have r0 := hR0.head 0 (by omega)
  have r1 := hR0.head 1 (by omega)
  have r2 := hR0.head 2 (by omega)
  have r3 := hR0.head 3 (by omega)
  have r4 := hR0.head 4 (by omega)
  have r5 := hR0.head 5 (by omega)
  have r6 := hR0.head 6 (by omega)
  have r7 := hR0.head 7 (by omega)
  have r8 := hR0.head 8 (by omega)
  have r9 := hR0.head 9 (by omega)
  have r10 := hR0.head 10 (by omega)
  have r11 := hR0.head 11 (by omega)
  have r12 := hR0.head 12 (by omega)
  have r13 := hR0.head 13 (by omega)
  have r14 := hR0.head 14 (by omega)
  have r15 := hR0.head 15 (by omega)
  have r16 := hR0.head 16 (by omega)
  have HF : Hid (∀ nq, Dn c i j bt br w σ (.returned (.bool true)) (V.drewN nq)) := fun nq => ⟨rfl, c4, hPV.drewN nq, hTV.drewN nq, hcz⟩
  clear hPV hAV hTV hB7 hR0 hcz hAlt HW1 hi hl17
  have hq := eq_chars (gt σ.ss 3) (gt σ.ss 4) (gt σ.ss 5) (gt σ.ss 6) (gt σ.ss 7) (gt σ.ss 8) (gt σ.ss 9) (gt σ.ss 10) (gt σ.ss 11) (gt σ.ss 12) (gt σ.ss 13) (gt σ.ss 14) (gt σ.ss 15) (gt σ.ss 16)
  go_wp2_with fail
  go_quiet (fail)
  go_wp2
  go_ret
  exact HF.out _
end
end Go.Proofs.Ytnalckkllogdaaa
