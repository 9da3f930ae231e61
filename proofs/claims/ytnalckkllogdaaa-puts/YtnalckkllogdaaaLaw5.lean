/- Walks: the law: a step on a pair: the flags that go out. -/
import Derived.Test.YtnalckkllogdaaaLaw3
namespace Go.Proofs.Ytnalckkllogdaaa
open Go Go.RowKit Go.Clk

/-- The settings with other flags that go out. -/
theorem lit17o (s : List Int) (hs : s.length = 17) (o : Int) : i64s (s.set 1 o) = [.int .i64 (gt s 0), .int .i64 o, .int .i64 (gt s 2), .int .i64 (gt s 3), .int .i64 (gt s 4), .int .i64 (gt s 5), .int .i64 (gt s 6), .int .i64 (gt s 7), .int .i64 (gt s 8), .int .i64 (gt s 9), .int .i64 (gt s 10), .int .i64 (gt s 11), .int .i64 (gt s 12), .int .i64 (gt s 13), .int .i64 (gt s 14), .int .i64 (gt s 15), .int .i64 (gt s 16)] := by
  match s, hs with
  | [a0, a1, a2, a3, a4, a5, a6, a7, a8, a9, a10, a11, a12, a13, a14, a15, a16], _ => rfl

theorem Pr.set0 {V : World} {c : Nat → Nat} {i j bt br : Nat} {σ τ : St} (h : Pr V c i j bt br σ τ) (a : Addr) (v : Value) (hc : c a.block = 0) (hi0 : i ≠ 0) (hj0 : j ≠ 0) : Pr (V.setCell a v) c i j bt br σ τ :=
  ⟨h.1.stay (by simp) (fun k hk hck => heap_setCell_other V a k v (fun e => by subst e; exact hi0 (hck.symm.trans hc))) fun _ _ => rfl, h.2.stay (by simp) (fun k hk hck => heap_setCell_other V a k v (fun e => by subst e; exact hj0 (hck.symm.trans hc))) fun _ _ => rfl⟩
theorem Tw.set0 {w V : World} {c : Nat → Nat} {i j : Nat} (h : Tw c i j w V) (a : Addr) (v : Value) (ha : w.heap.size ≤ a.block) : Tw c i j w (V.setCell a v) :=
  ⟨h.os, h.tape, h.output, by have := h.size; simpa using this, fun k hk h1 h2 => (heap_setCell_other V a k v (by omega)).trans (h.block k hk h1 h2)⟩

section
variable (C : Int) (c : Nat → Nat) (i j bt br wb : Nat) (σ : St) (w : World) (term n : Int) (s : ByteArray) (ss : List Int)

set_option maxHeartbeats 4000000 in
set_option maxRecDepth 100000 in
theorem does_out (h : Pr w c i j bt br σ σ) (hij : i ≠ j) (hi0 : i ≠ 0) (hj0 : j ≠ 0) (ok : Ok σ C) (hr : σ.reads = false) (hh : σ.held = false) (hf : bit σ.i 2048 = false) (hss : ss.length = 17) :
    Calls Try.prog 16 #[.pointer (some ⟨wb, 0, none⟩), .agg #[.pointer (some ⟨bt, 0, none⟩), .pointer (some ⟨br, 0, none⟩)], .agg (opCells 5 term n s ss).toArray] w fun e w' => Dn c i j bt br w { σ with ss := normS (σ.ss.set 1 (gt ss 1)), quoted := bit σ.l 2 && σ.quoted } e w' := by
  have hlen := h.1.len
  have hl17 : (i64s σ.ss).length = 17 := by rw [i64s_len, hlen]
  have hi : (Try.prog.info? 34).map (·.size) = some (i64s σ.ss).length := by rw [hl17]; exact size_settings
  go_enter Try.func16, Try.ntmps16
  go_wp2_with (first | refine wpList_box rfl (.tmp 2) 36 rfl (opCells 5 term n s ss) rfl ?_)
  intro W B hid
  obtain ⟨c2, hP, hA, hB, hT, hc2⟩ := boxes h [.pointer (some ⟨bt, 0, none⟩), .pointer (some ⟨br, 0, none⟩)] (opCells 5 term n s ss) W B 42 36 hid.out
  obtain ⟨A, hAe⟩ : ∃ A, A = w.heap.size := ⟨_, rfl⟩
  rw [← hAe] at hA ⊢
  clear hAe
  have a0 := hA.1.cell 0 (v := .pointer (some ⟨bt, 0, none⟩)) rfl
  have b0 := hB.1.cell 0 (v := .int .i64 5) rfl
  go_wp2_with fail
  refine (hP.doP hij (fun S0 w0 hX => Get_any S0 w0 [] bt σ W hX)).mono ?_
  rintro e W1 ⟨rfl, hP1, ht1⟩
  have hA1 := hA.stay ht1 hi0
  have hB1 := hB.stay ht1 hi0
  have hT1 := hT.next hc2 ht1 (.inl rfl)
  have hc1 : ∀ k, k < w.heap.size → recol W c2 i k = c k := fun k hk => (recol_old (Nat.lt_of_lt_of_le hk hT.size)).trans (hc2 k hk)
  clear a0 b0 hB hA hP
  generalize recol W c2 i = c3 at *
  have hbk := (Bx.new W1 c3 34 z17)
  have hPz := hP1.alloc (.cells z17.toArray 34)
  have hAz := hA1.alloc (.cells z17.toArray 34)
  have hBz := hB1.alloc (.cells z17.toArray 34)
  have hTz := hT1.alloc (.cells z17.toArray 34)
  have hcz : ∀ k, k < w.heap.size → recol W1 c3 0 k = c k := fun k hk => (recol_old (Nat.lt_of_lt_of_le hk hT1.size)).trans (hc1 k hk)
  have hAlt := hA1.1.lt
  have hBlt := hB1.1.lt
  have HW1 : Hid (w.heap.size ≤ W1.heap.size) := hT1.size
  go_wp2_with (refine wpList_store_whole rfl (.tmp 11) (.tmp 40) 34 rfl W1.heap.size rfl (i64s σ.ss) rfl 34 z17 hbk.1 ?hz hi (i64s_one _) ?_)
  case hz => rw [hl17]; rfl
  intro V hBV hG hsz
  have hPV := hPz.over hG hbk.2 hi0 hj0
  have hAV := hAz.over hG (by omega)
  have hBB := hBz.over hG (by omega)
  have hTV := hTz.over hG HW1.out
  have hB7 : Bx V (recol W1 c3 0) W1.heap.size 34 (i64s σ.ss) := ⟨hBV, hbk.2⟩
  have hne1 : A ≠ W1.heap.size := by omega
  have hne2 : B ≠ W1.heap.size := by omega
  clear hPz hAz hTz hbk hBV hG hP1 hA1 hT1 hc1 hsz hBz hB1 hAlt hBlt
  generalize W1.heap.size = B7 at *
  generalize recol W1 c3 0 = c4 at *
  have a0 := hAV.1.cell 0 (v := .pointer (some ⟨bt, 0, none⟩)) rfl
  have b5 : V.cell? ⟨B, 5, none⟩ = some (.int .i64 (gt ss 1)) := hBB.1.cell 5 (by unfold opCells; rw [lit17 ss hss]; rfl)
  have d1 := hB7.1.cell 1 (v := .int .i64 (gt σ.ss 1)) (by rw [lit17 σ.ss hlen]; rfl)
  have f1 := hB7.1.frozen 1
  have hset : (i64s σ.ss).set 1 (.int .i64 (gt ss 1)) = i64s (σ.ss.set 1 (gt ss 1)) := by simp [i64s, List.map_set]
  have hB7' := hB7.1.set 1 (.int .i64 (gt ss 1))
  rw [hset] at hB7'
  have hs17 : (σ.ss.set 1 (gt ss 1)).length = 17 := by simp [hlen]
  have hg2 : gt (σ.ss.set 1 (gt ss 1)) 2 = σ.l := by simp [gt, St.l, List.getD]
  have hg0 : gt (σ.ss.set 1 (gt ss 1)) 0 = σ.i := by simp [gt, St.i, List.getD]
  have hsl : (i64s (σ.ss.set 1 (gt ss 1))).length = 17 := by rw [i64s_len, hs17]
  have his : (Try.prog.info? 34).map (·.size) = some (i64s (σ.ss.set 1 (gt ss 1))).length := by rw [hsl]; exact size_settings
  have HQ : Hid (bit σ.l 2 = bit (gt (σ.ss.set 1 (gt ss 1)) 2 % 1024) 2) := by
    show bit σ.l 2 = _
    rw [hg2]; unfold bit; rw [show σ.l % 1024 / 2 % 2 = σ.l / 2 % 2 by have := ok.l0; omega]
  have HQ0 : Hid (bit (gt (σ.ss.set 1 (gt ss 1)) 0 % 8192) 2048 = false) := by
    show bit _ 2048 = false
    rw [hg0, Int.emod_eq_of_lt ok.i0 ok.i1]; exact hf
  clear hg2 hg0
  have hP' := hPV.set0 (V := V) ⟨B7, 1, none⟩ (.int .i64 (gt ss 1)) hB7.2 hi0 hj0
  have hA' : Bx (V.setCell ⟨B7, 1, none⟩ (.int .i64 (gt ss 1))) c4 A _ _ := ⟨hAV.1.other _ _ hne1, hAV.2⟩
  have hB' : Bx (V.setCell ⟨B7, 1, none⟩ (.int .i64 (gt ss 1))) c4 B _ _ := ⟨hBB.1.other _ _ hne2, hBB.2⟩
  have hT' := hTV.set0 ⟨B7, 1, none⟩ (.int .i64 (gt ss 1)) HW1.out
  clear hset hPV hAV hBB hTV hB7
  go_wp2_with (refine wpList_load_part rfl (.tmp 11) 34 rfl B7 0 rfl (i64s (σ.ss.set 1 (gt ss 1))) _ ?hc Try.underlying34 rfl his ?next)
  case hc =>
    intro k v hv
    rw [Nat.zero_add]
    exact hB7'.cell k hv
  refine (hP'.doP hij (fun S0 w0 hX => PSet_same S0 w0 [] bt σ _ C hX ok (σ.ss.set 1 (gt ss 1)) hs17 HQ)).mono ?_
  rintro e W3 ⟨rfl, hP3, ht3⟩
  have hA3 := hA'.stay ht3 hi0
  have hB3 := hB'.stay ht3 hi0
  have hT3 := hT'.next hcz ht3 (.inl rfl)
  have hc3 : ∀ k, k < w.heap.size → recol (V.setCell ⟨B7, 1, none⟩ (.int .i64 (gt ss 1))) c4 i k = c k := fun k hk => (recol_old (Nat.lt_of_lt_of_le hk hT'.size)).trans (hcz k hk)
  clear hP' hA' hB' hT' hB7' a0 b5 d1 f1 ht3
  generalize recol (V.setCell ⟨B7, 1, none⟩ (.int .i64 (gt ss 1))) c4 i = c5 at *
  have a1 := hA3.1.cell 1 (v := .pointer (some ⟨br, 0, none⟩)) rfl
  obtain ⟨vi, vo, vu, vn, vd, S, hR0⟩ : ∃ vi vo vu vn vd, ∃ S, AtV S W3 [] br σ vi vo vu vn vd W3 := by
    obtain ⟨S, ⟨vi, vo, vu, vn, vd, h⟩, _⟩ := hP3.2
    exact ⟨vi, vo, vu, vn, vd, S, h⟩
  have hbk := (Bx.new W3 c5 34 z17)
  have hPz := hP3.alloc (.cells z17.toArray 34)
  have hBz := hB3.alloc (.cells z17.toArray 34)
  have hTz := hT3.alloc (.cells z17.toArray 34)
  have hAz := hA3.alloc (.cells z17.toArray 34)
  have hcz3 : ∀ k, k < w.heap.size → recol W3 c5 0 k = c k := fun k hk => (recol_old (Nat.lt_of_lt_of_le hk hT3.size)).trans (hc3 k hk)
  have hAlt := hA3.1.lt
  have hBlt := hB3.1.lt
  have HW3 : Hid (w.heap.size ≤ W3.heap.size) := hT3.size
  go_wp2_with (first | refine wpList_load_part rfl (.tmp 52) 34 rfl br 0 rfl (i64s σ.ss) _ ?hcb Try.underlying34 rfl hi ?nextb | refine wpList_store_whole rfl (.tmp 12) (.tmp 53) 34 rfl W3.heap.size rfl (i64s σ.ss) rfl 34 z17 hbk.1 ?hzb hi (i64s_one _) ?_)
  case hcb =>
    intro k v hv
    have hk : k < 17 := by have := (List.getElem?_eq_some_iff.1 hv).1; omega
    rw [Nat.zero_add]
    exact hR0.2.blk.cell k (by rw [List.getElem?_append_left (by omega)]; exact hv)
  case hzb => rw [hl17]; rfl
  intro V2 hBV hG hsz
  have hPV := hPz.over hG hbk.2 hi0 hj0
  have hAV := hAz.over hG (by omega)
  have hBB := hBz.over hG (by omega)
  have hTV := hTz.over hG HW3.out
  have hB8 : Bx V2 (recol W3 c5 0) W3.heap.size 34 (i64s σ.ss) := ⟨hBV, hbk.2⟩
  have hne3 : A ≠ W3.heap.size := by omega
  have hne4 : B ≠ W3.heap.size := by omega
  clear hPz hAz hTz hbk hBV hG hP3 hA3 hT3 hc3 hsz hBz hB3 hAlt hBlt a1 hR0
  generalize W3.heap.size = B8 at *
  generalize recol W3 c5 0 = c6 at *
  have a1 := hAV.1.cell 1 (v := .pointer (some ⟨br, 0, none⟩)) rfl
  have b5 : V2.cell? ⟨B, 5, none⟩ = some (.int .i64 (gt ss 1)) := hBB.1.cell 5 (by unfold opCells; rw [lit17 ss hss]; rfl)
  have d1 := hB8.1.cell 1 (v := .int .i64 (gt σ.ss 1)) (by rw [lit17 σ.ss hlen]; rfl)
  have f1 := hB8.1.frozen 1
  have hset : (i64s σ.ss).set 1 (.int .i64 (gt ss 1)) = i64s (σ.ss.set 1 (gt ss 1)) := by simp [i64s, List.map_set]
  have hB8' := hB8.1.set 1 (.int .i64 (gt ss 1))
  rw [hset] at hB8'
  have hPy := hPV.set0 (V := V2) ⟨B8, 1, none⟩ (.int .i64 (gt ss 1)) hB8.2 hi0 hj0
  have hTy := hTV.set0 ⟨B8, 1, none⟩ (.int .i64 (gt ss 1)) HW3.out
  clear hset hPV hAV hBB hTV hB8
  go_wp2_with (refine wpList_load_part rfl (.tmp 12) 34 rfl B8 0 rfl (i64s (σ.ss.set 1 (gt ss 1))) _ ?hc2 Try.underlying34 rfl his ?next2)
  case hc2 =>
    intro k v hv
    rw [Nat.zero_add]
    exact hB8'.cell k hv
  refine (hPy.doR hij (fun S0 w0 hX => Set_same S0 w0 [] br σ _ C hX ok (σ.ss.set 1 (gt ss 1)) hs17 HQ hr HQ0.out hh)).mono ?_
  rintro e W4 ⟨rfl, hP4, ht4⟩
  have HF : Hid (Dn c i j bt br w { σ with ss := normS (σ.ss.set 1 (gt ss 1)), quoted := bit σ.l 2 && σ.quoted } (.returned (.bool true)) W4) :=
    ⟨rfl, _, hP4, hTy.next hcz3 ht4 (.inr rfl), fun k hk => (recol_old (Nat.lt_of_lt_of_le hk hTy.size)).trans (hcz3 k hk)⟩
  clear hP4 ht4 hPy hTy hcz3 a1 b5 d1 f1 hB8'
  go_wp2_with (go_at_call 36; refine (num_any _ _).mono ?_; rintro e w' ⟨rfl, hw⟩; have hw := hw.symm; subst hw)
  go_ret
  exact HF.out
end
end Go.Proofs.Ytnalckkllogdaaa
