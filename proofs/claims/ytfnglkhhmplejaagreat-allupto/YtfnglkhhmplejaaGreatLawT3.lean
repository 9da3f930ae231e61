/- Walks: the law: a step on a pair: what it tells; the flags that go out. -/
import Derived.Test.YtfnglkhhmplejaaGreatLawT2
import Derived.Test.YtfnglkhhmplejaaGreatRef6
import Derived.ChangeKeysEq
namespace Go.Proofs.YtfnglkhhmplejaaGreat
open Go Go.RowKit Go.Clk
theorem info_int_some : ∃ i, Tryz.prog.info? 3 = some i := by
  obtain ⟨i0, hi, _⟩ := info_parts info_int
  exact ⟨i0, hi⟩
set_option maxHeartbeats 1000000 in
set_option maxRecDepth 100000 in
theorem eq_chars (a0 a1 a2 a3 a4 a5 a6 a7 a8 a9 a10 a11 a12 a13 : Int) (w : World) : (Op.equalIn 9999 27 (.agg #[.int .i64 a0, .int .i64 a1, .int .i64 a2, .int .i64 a3, .int .i64 a4, .int .i64 a5, .int .i64 a6, .int .i64 a7, .int .i64 a8, .int .i64 a9, .int .i64 a10, .int .i64 a11, .int .i64 a12, .int .i64 a13]) (.agg #[.int .i64 a0, .int .i64 a1, .int .i64 a2, .int .i64 a3, .int .i64 a4, .int .i64 a5, .int .i64 a6, .int .i64 a7, .int .i64 a8, .int .i64 a9, .int .i64 a10, .int .i64 a11, .int .i64 a12, .int .i64 a13])).run Tryz.prog w = .ok true w := by
  obtain ⟨i0, hi⟩ := info_int_some
  rw [show (9999 : Nat) = 9998 + 1 from rfl, run_equalIn_array w 9998 _ _ Tryz.underlying27 hi]
  have hr : List.range 14 = [0, 1, 2, 3, 4, 5, 6, 7, 8, 9, 10, 11, 12, 13] := rfl
  have hco : Tryz.prog.cellsOf 3 = 1 := by kernel_rfl
  rw [hr, hco]
  simp [Op.eqItems, part, run_equalIn_int (P := Tryz.prog) _ 9997 3 .i64 .i64 _ _ Tryz.underlying3, go_sem]
theorem OR.len {w : World} {c : Nat → Nat} {i b : Nat} {σ : St} (h : OR w c i b σ) : σ.ss.length = 17 := by obtain ⟨S, ⟨_, _, _, _, _, h, _⟩, _⟩ := h; exact h
/-- A box of the colour 0 is written over. -/
theorem Pr.over {w w' : World} {c : Nat → Nat} {i j bt br B : Nat} {σ τ : St} (h : Pr w c i j bt br σ τ) (hg : w.grownBy w' (some B)) (hB : c B = 0) (hi0 : i ≠ 0) (hj0 : j ≠ 0) : Pr w' c i j bt br σ τ :=
  ⟨h.1.stay hg.size (fun k hk hc => hg.block k hk fun e => by cases e; exact hi0 (hc.symm.trans hB)) fun _ _ => rfl, h.2.stay hg.size (fun k hk hc => hg.block k hk fun e => by cases e; exact hj0 (hc.symm.trans hB)) fun _ _ => rfl⟩
theorem Bx.over {w w' : World} {c : Nat → Nat} {B A : Nat} {e : TypeId} {cs : List Value} (h : Bx w c A e cs) (hg : w.grownBy w' (some B)) (hne : A ≠ B) : Bx w' c A e cs :=
  ⟨by unfold Blk; rw [hg.block A h.1.lt (by simpa using hne)]; exact h.1, h.2⟩
theorem Tw.over {w w1 w2 : World} {c : Nat → Nat} {i j B : Nat} (h : Tw c i j w w1) (hg : w1.grownBy w2 (some B)) (hB : w.heap.size ≤ B) : Tw c i j w w2 :=
  ⟨hg.os.trans h.os, hg.tape.trans h.tape, hg.output.trans h.output, Nat.le_trans h.size hg.size, fun k hk h1 h2 => (hg.block k (Nat.lt_of_lt_of_le hk h.size) (by simp; omega)).trans (h.block k hk h1 h2)⟩
theorem Pr.drewN {w : World} {c : Nat → Nat} {i j bt br : Nat} {σ τ : St} (h : Pr w c i j bt br σ τ) (n : Nat) : Pr (w.drewN n) c i j bt br σ τ :=
  ⟨h.1.stay (Nat.le_refl _) (fun _ _ _ => rfl) fun _ _ => rfl, h.2.stay (Nat.le_refl _) (fun _ _ _ => rfl) fun _ _ => rfl⟩

theorem Pr.set0 {V : World} {c : Nat → Nat} {i j bt br : Nat} {σ τ : St} (h : Pr V c i j bt br σ τ) (a : Addr) (v : Value) (hc : c a.block = 0) (hi0 : i ≠ 0) (hj0 : j ≠ 0) : Pr (V.setCell a v) c i j bt br σ τ :=
  ⟨h.1.stay (by simp) (fun k hk hck => heap_setCell_other V a k v (fun e => by subst e; exact hi0 (hck.symm.trans hc))) fun _ _ => rfl, h.2.stay (by simp) (fun k hk hck => heap_setCell_other V a k v (fun e => by subst e; exact hj0 (hck.symm.trans hc))) fun _ _ => rfl⟩
theorem Tw.set0 {w V : World} {c : Nat → Nat} {i j : Nat} (h : Tw c i j w V) (a : Addr) (v : Value) (ha : w.heap.size ≤ a.block) : Tw c i j w (V.setCell a v) :=
  ⟨h.os, h.tape, h.output, by have := h.size; simpa using this, fun k hk h1 h2 => (heap_setCell_other V a k v (by omega)).trans (h.block k hk h1 h2)⟩

def stL (σ : St) : List Value := [.int .i64 (σ.inq.length : Nat), .int .i64 (σ.out.length : Nat), .int .i64 σ.col, .bool σ.stopped, .bool σ.held, .bool σ.quoted]

section
variable (K : Int) (c : Nat → Nat) (i j bt br wb : Nat) (σ : St) (w : World) (term n : Int) (s : ByteArray) (ss : List Int)


set_option maxHeartbeats 4000000 in
set_option maxRecDepth 100000 in
theorem tells_get (h : Pr w c i j bt br σ σ) (hij : i ≠ j) (hi0 : i ≠ 0) (hj0 : j ≠ 0) :
    Calls Tryz.prog 71 #[.pointer (some ⟨wb, 0, none⟩), .agg #[.pointer (some ⟨bt, 0, none⟩), .pointer (some ⟨br, 0, none⟩)], .agg (opCells 1 term n s ss).toArray] w fun e w' => Dn c i j bt br w σ e w' := by
  have hlen := h.2.len
  have hl17 : (i64s σ.ss).length = 17 := by rw [i64s_len, hlen]
  have hi : (Tryz.prog.info? 29).map (·.size) = some (i64s σ.ss).length := by rw [hl17]; exact size_settings
  go_enter Tryz.func71, Tryz.ntmps71
  go_wp2_with (first | refine wpList_box rfl (.tmp 2) 60 rfl (opCells 1 term n s ss) rfl ?_)
  intro W B hid
  obtain ⟨c2, hP, hA, hB, hT, hc2⟩ := boxes h [.pointer (some ⟨bt, 0, none⟩), .pointer (some ⟨br, 0, none⟩)] (opCells 1 term n s ss) W B 85 60 hid.out
  obtain ⟨A, hAe⟩ : ∃ A, A = w.heap.size := ⟨_, rfl⟩
  rw [← hAe] at hA ⊢
  clear hAe
  have a0 := hA.1.cell 0 (v := .pointer (some ⟨bt, 0, none⟩)) rfl
  have b0 := hB.1.cell 0 (v := .int .i64 1) rfl
  go_wp2_with fail
  refine (hP.doP hij (fun S0 w0 hX => TGet S0 w0 [] bt σ W hX)).mono ?_
  rintro e W1 ⟨rfl, hP1, ht1⟩
  have hA1 := hA.stay ht1 hi0
  have hT1 := hT.next hc2 ht1 (.inl rfl)
  have hc1 : ∀ k, k < w.heap.size → recol W c2 i k = c k := fun k hk => (recol_old (Nat.lt_of_lt_of_le hk hT.size)).trans (hc2 k hk)
  clear a0 b0 hB hA hP
  generalize recol W c2 i = c3 at *
  have hbk := (Bx.new W1 c3 29 z17)
  have hPz := hP1.alloc (.cells z17.toArray 29)
  have hAz := hA1.alloc (.cells z17.toArray 29)
  have hTz := hT1.alloc (.cells z17.toArray 29)
  have hcz : ∀ k, k < w.heap.size → recol W1 c3 0 k = c k := fun k hk => (recol_old (Nat.lt_of_lt_of_le hk hT1.size)).trans (hc1 k hk)
  have hAlt := hA1.1.lt
  have HW1 : Hid (w.heap.size ≤ W1.heap.size) := hT1.size
  go_wp2_with (refine wpList_store_whole rfl (.tmp 7) (.tmp 27) 29 rfl W1.heap.size rfl (i64s σ.ss) rfl 29 z17 hbk.1 ?hz hi (i64s_one _) ?_)
  case hz => rw [hl17]; rfl
  intro V hBV hG hsz
  have hPV := hPz.over hG hbk.2 hi0 hj0
  have hAV := hAz.over hG (by omega)
  have hTV := hTz.over hG HW1.out
  have hB7 : Bx V (recol W1 c3 0) W1.heap.size 29 (i64s σ.ss) := ⟨hBV, hbk.2⟩
  clear hPz hAz hTz hbk hBV hG hP1 hA1 hT1 hc1 hsz
  generalize W1.heap.size = B7 at *
  generalize recol W1 c3 0 = c4 at *
  have a1 := hAV.1.cell 1 (v := .pointer (some ⟨br, 0, none⟩)) rfl
  have d0 := hB7.1.cell 0 (v := .int .i64 (gt σ.ss 0)) (by rw [lit17 σ.ss hlen]; rfl)
  have d1 := hB7.1.cell 1 (v := .int .i64 (gt σ.ss 1)) (by rw [lit17 σ.ss hlen]; rfl)
  have d2 := hB7.1.cell 2 (v := .int .i64 (gt σ.ss 2)) (by rw [lit17 σ.ss hlen]; rfl)
  have d3 := hB7.1.cell 3 (v := .int .i64 (gt σ.ss 3)) (by rw [lit17 σ.ss hlen]; rfl)
  have d4 := hB7.1.cell 4 (v := .int .i64 (gt σ.ss 4)) (by rw [lit17 σ.ss hlen]; rfl)
  have d5 := hB7.1.cell 5 (v := .int .i64 (gt σ.ss 5)) (by rw [lit17 σ.ss hlen]; rfl)
  have d6 := hB7.1.cell 6 (v := .int .i64 (gt σ.ss 6)) (by rw [lit17 σ.ss hlen]; rfl)
  have d7 := hB7.1.cell 7 (v := .int .i64 (gt σ.ss 7)) (by rw [lit17 σ.ss hlen]; rfl)
  have d8 := hB7.1.cell 8 (v := .int .i64 (gt σ.ss 8)) (by rw [lit17 σ.ss hlen]; rfl)
  have d9 := hB7.1.cell 9 (v := .int .i64 (gt σ.ss 9)) (by rw [lit17 σ.ss hlen]; rfl)
  have d10 := hB7.1.cell 10 (v := .int .i64 (gt σ.ss 10)) (by rw [lit17 σ.ss hlen]; rfl)
  have d11 := hB7.1.cell 11 (v := .int .i64 (gt σ.ss 11)) (by rw [lit17 σ.ss hlen]; rfl)
  have d12 := hB7.1.cell 12 (v := .int .i64 (gt σ.ss 12)) (by rw [lit17 σ.ss hlen]; rfl)
  have d13 := hB7.1.cell 13 (v := .int .i64 (gt σ.ss 13)) (by rw [lit17 σ.ss hlen]; rfl)
  have d14 := hB7.1.cell 14 (v := .int .i64 (gt σ.ss 14)) (by rw [lit17 σ.ss hlen]; rfl)
  have d15 := hB7.1.cell 15 (v := .int .i64 (gt σ.ss 15)) (by rw [lit17 σ.ss hlen]; rfl)
  have d16 := hB7.1.cell 16 (v := .int .i64 (gt σ.ss 16)) (by rw [lit17 σ.ss hlen]; rfl)
  obtain ⟨vi, vo, vu, vn, vd, hR0⟩ : ∃ vi vo vu vn vd, ∃ S, AtV S V [] br σ vi vo vu vn vd V := by
    obtain ⟨S, ⟨vi, vo, vu, vn, vd, h⟩, _⟩ := hPV.2
    exact ⟨vi, vo, vu, vn, vd, S, h⟩
  obtain ⟨S, hR0⟩ := hR0
  have r0 := hR0.head 0 (by omega)
  have r1 := hR0.head 1 (by omega)
  have r2 := hR0.head 2 (by omega)
  have r3 := hR0.head 3 (by omega)
  have r4 := hR0.head 4 (by omega)
  have r5 := hR0.head 5 (by omega)
  have r6 := hR0.head 6 (by omega)
  have r7 := hR0.head 7 (by omega)
  have r8 := hR0.head 8 (by omega)
  have r9 := hR0.head 9 (by omega)
  have r10 := hR0.head 10 (by omega)
  have r11 := hR0.head 11 (by omega)
  have r12 := hR0.head 12 (by omega)
  have r13 := hR0.head 13 (by omega)
  have r14 := hR0.head 14 (by omega)
  have r15 := hR0.head 15 (by omega)
  have r16 := hR0.head 16 (by omega)
  have HF : Hid (∀ nq, Dn c i j bt br w σ (.returned (.bool true)) (V.drewN nq)) := fun nq => ⟨rfl, c4, hPV.drewN nq, hTV.drewN nq, hcz⟩
  clear hPV hAV hTV hB7 hR0 hcz hAlt HW1 hi hl17
  have hq := eq_chars (gt σ.ss 3) (gt σ.ss 4) (gt σ.ss 5) (gt σ.ss 6) (gt σ.ss 7) (gt σ.ss 8) (gt σ.ss 9) (gt σ.ss 10) (gt σ.ss 11) (gt σ.ss 12) (gt σ.ss 13) (gt σ.ss 14) (gt σ.ss 15) (gt σ.ss 16)
  go_wp2_with fail
  go_quiet (fail)
  go_wp2
  go_ret
  exact HF.out _

set_option maxHeartbeats 2000000 in
set_option maxRecDepth 100000 in
theorem tells_drain_no (h : Pr w c i j bt br σ σ) (hij : i ≠ j) (hi0 : i ≠ 0) (hn : n < 0) :
    Calls Tryz.prog 71 #[.pointer (some ⟨wb, 0, none⟩), .agg #[.pointer (some ⟨bt, 0, none⟩), .pointer (some ⟨br, 0, none⟩)], .agg (opCells 3 term n s ss).toArray] w fun e w' => Dn c i j bt br w (σ) e w' := by
  go_enter Tryz.func71, Tryz.ntmps71
  go_wp2_with (first | refine wpList_box rfl (.tmp 2) 60 rfl (opCells 3 term n s ss) rfl ?_)
  intro W B hid
  obtain ⟨c2, hP, hA, hB, hT, hc2⟩ := boxes h [.pointer (some ⟨bt, 0, none⟩), .pointer (some ⟨br, 0, none⟩)] (opCells 3 term n s ss) W B 85 60 hid.out
  obtain ⟨A, hAe⟩ : ∃ A, A = w.heap.size := ⟨_, rfl⟩
  rw [← hAe] at hA ⊢
  clear hAe
  have a0 := hA.1.cell 0 (v := .pointer (some ⟨bt, 0, none⟩)) rfl
  have b0 := hB.1.cell 0 (v := .int .i64 3) rfl
  have b2 := hB.1.cell 2 (v := .int .i64 n) rfl
  go_wp2_with fail
  refine (hP.doP hij (fun S0 w0 hX => TDrain_no S0 w0 [] bt σ W hX n hn)).mono ?_
  rintro e W1 ⟨rfl, hP1, ht1⟩
  have hA1 := hA.stay ht1 hi0
  have hB1 := hB.stay ht1 hi0
  have a1 := hA1.1.cell 1 (v := .pointer (some ⟨br, 0, none⟩)) rfl
  have b2' := hB1.1.cell 2 (v := .int .i64 n) rfl
  clear a0 b0 b2
  go_wp2_with fail
  refine (hP1.doR hij (fun S0 w0 hX => Drain_no S0 w0 [] br σ W1 hX n hn)).mono ?_
  rintro e W2 ⟨rfl, hP2, ht2⟩
  clear a1 b2'
  have HF : Hid (Dn c i j bt br w (σ) (.returned (.bool true)) W2) :=
    ⟨rfl, _, hP2, (hT.next hc2 ht1 (.inl rfl)).next (fun k hk => (recol_old (Nat.lt_of_lt_of_le hk hT.size)).trans (hc2 k hk)) ht2 (.inr rfl),
      fun k hk => (recol_old (Nat.lt_of_lt_of_le (Nat.lt_of_lt_of_le hk hT.size) ht1.size)).trans ((recol_old (Nat.lt_of_lt_of_le hk hT.size)).trans (hc2 k hk))⟩
  go_wp2_with (go_at_call 72; refine (numT_any _ _).mono ?_; rintro e w' ⟨rfl, hw⟩; subst hw)
  go_ret
  exact HF.out

set_option maxHeartbeats 2000000 in
set_option maxRecDepth 100000 in
theorem tells_drain (h : Pr w c i j bt br σ σ) (hij : i ≠ j) (hi0 : i ≠ 0) (hn : 0 ≤ n) (hn' : n ≤ 9223372036854775807) (ok : Inv K σ) (hK : K ≤ 1099511500000) :
    Calls Tryz.prog 71 #[.pointer (some ⟨wb, 0, none⟩), .agg #[.pointer (some ⟨bt, 0, none⟩), .pointer (some ⟨br, 0, none⟩)], .agg (opCells 3 term n s ss).toArray] w fun e w' => Dn c i j bt br w ((σ.drain n.toNat).1) e w' := by
  go_enter Tryz.func71, Tryz.ntmps71
  go_wp2_with (first | refine wpList_box rfl (.tmp 2) 60 rfl (opCells 3 term n s ss) rfl ?_)
  intro W B hid
  obtain ⟨c2, hP, hA, hB, hT, hc2⟩ := boxes h [.pointer (some ⟨bt, 0, none⟩), .pointer (some ⟨br, 0, none⟩)] (opCells 3 term n s ss) W B 85 60 hid.out
  obtain ⟨A, hAe⟩ : ∃ A, A = w.heap.size := ⟨_, rfl⟩
  rw [← hAe] at hA ⊢
  clear hAe
  have a0 := hA.1.cell 0 (v := .pointer (some ⟨bt, 0, none⟩)) rfl
  have b0 := hB.1.cell 0 (v := .int .i64 3) rfl
  have b2 := hB.1.cell 2 (v := .int .i64 n) rfl
  go_wp2_with fail
  refine (hP.doP hij (fun S0 w0 hX => TDrain S0 w0 [] bt σ W K hX ok (by omega) n hn hn')).mono ?_
  rintro e W1 ⟨rfl, hP1, ht1⟩
  have hA1 := hA.stay ht1 hi0
  have hB1 := hB.stay ht1 hi0
  have a1 := hA1.1.cell 1 (v := .pointer (some ⟨br, 0, none⟩)) rfl
  have b2' := hB1.1.cell 2 (v := .int .i64 n) rfl
  clear a0 b0 b2
  go_wp2_with fail
  refine (hP1.doR hij (fun S0 w0 hX => Drain_any S0 w0 [] br σ W1 hX n hn (by have := ok.urg; omega) ok.out)).mono ?_
  rintro e W2 ⟨rfl, hP2, ht2⟩
  clear a1 b2'
  have HF : Hid (Dn c i j bt br w ((σ.drain n.toNat).1) (.returned (.bool true)) W2) :=
    ⟨rfl, _, hP2, (hT.next hc2 ht1 (.inl rfl)).next (fun k hk => (recol_old (Nat.lt_of_lt_of_le hk hT.size)).trans (hc2 k hk)) ht2 (.inr rfl),
      fun k hk => (recol_old (Nat.lt_of_lt_of_le (Nat.lt_of_lt_of_le hk hT.size) ht1.size)).trans ((recol_old (Nat.lt_of_lt_of_le hk hT.size)).trans (hc2 k hk))⟩
  go_wp2_with (go_at_call 72; refine (numT_any _ _).mono ?_; rintro e w' ⟨rfl, hw⟩; subst hw)
  go_ret
  exact HF.out
set_option maxHeartbeats 2000000 in
set_option maxRecDepth 100000 in
theorem tells_take (h : Pr w c i j bt br σ σ) (hij : i ≠ j) (hi0 : i ≠ 0) (ok : Inv K σ) :
    Calls Tryz.prog 71 #[.pointer (some ⟨wb, 0, none⟩), .agg #[.pointer (some ⟨bt, 0, none⟩), .pointer (some ⟨br, 0, none⟩)], .agg (opCells 10 term n s ss).toArray] w fun e w' => Dn c i j bt br w σ.take.1 e w' := by
  go_enter Tryz.func71, Tryz.ntmps71
  go_wp2_with (first | refine wpList_box rfl (.tmp 2) 60 rfl (opCells 10 term n s ss) rfl ?_)
  intro W B hid
  obtain ⟨c2, hP, hA, hB, hT, hc2⟩ := boxes h [.pointer (some ⟨bt, 0, none⟩), .pointer (some ⟨br, 0, none⟩)] (opCells 10 term n s ss) W B 85 60 hid.out
  obtain ⟨A, hAe⟩ : ∃ A, A = w.heap.size := ⟨_, rfl⟩
  rw [← hAe] at hA ⊢
  clear hAe
  have a0 := hA.1.cell 0 (v := .pointer (some ⟨bt, 0, none⟩)) rfl
  have b0 := hB.1.cell 0 (v := .int .i64 10) rfl
  go_wp2_with fail
  refine (hP.doP hij (fun S0 w0 hX => TTake S0 w0 [] bt σ W K hX ok)).mono ?_
  rintro e W1 ⟨rfl, hP1, ht1⟩
  have hA1 := hA.stay ht1 hi0
  have hB1 := hB.stay ht1 hi0
  have a1 := hA1.1.cell 1 (v := .pointer (some ⟨br, 0, none⟩)) rfl
  clear a0 b0
  go_wp2_with fail
  refine (hP1.doR hij (fun S0 w0 hX => Take_any S0 w0 [] br σ W1 hX)).mono ?_
  rintro e W2 ⟨rfl, hP2, ht2⟩
  clear a1
  have HF : Hid (Dn c i j bt br w σ.take.1 (.returned (.bool true)) W2) :=
    ⟨rfl, _, hP2, (hT.next hc2 ht1 (.inl rfl)).next (fun k hk => (recol_old (Nat.lt_of_lt_of_le hk hT.size)).trans (hc2 k hk)) ht2 (.inr rfl),
      fun k hk => (recol_old (Nat.lt_of_lt_of_le (Nat.lt_of_lt_of_le hk hT.size) ht1.size)).trans ((recol_old (Nat.lt_of_lt_of_le hk hT.size)).trans (hc2 k hk))⟩
  go_wp2_with (go_at_call 72; refine (numT_any _ _).mono ?_; rintro e w' ⟨rfl, hw⟩; subst hw)
  go_ret
  exact HF.out

set_option maxHeartbeats 4000000 in
set_option maxRecDepth 100000 in
theorem tells_status (h : Pr w c i j bt br σ σ) (hij : i ≠ j) (hi0 : i ≠ 0) (hj0 : j ≠ 0) :
    Calls Tryz.prog 71 #[.pointer (some ⟨wb, 0, none⟩), .agg #[.pointer (some ⟨bt, 0, none⟩), .pointer (some ⟨br, 0, none⟩)], .agg (opCells 4 term n s ss).toArray] w fun e w' => Dn c i j bt br w σ e w' := by
  go_enter Tryz.func71, Tryz.ntmps71
  go_wp2_with (first | refine wpList_box rfl (.tmp 2) 60 rfl (opCells 4 term n s ss) rfl ?_)
  intro W B hid
  obtain ⟨c2, hP, hA, hB, hT, hc2⟩ := boxes h [.pointer (some ⟨bt, 0, none⟩), .pointer (some ⟨br, 0, none⟩)] (opCells 4 term n s ss) W B 85 60 hid.out
  obtain ⟨A, hAe⟩ : ∃ A, A = w.heap.size := ⟨_, rfl⟩
  rw [← hAe] at hA ⊢
  clear hAe
  have a0 := hA.1.cell 0 (v := .pointer (some ⟨bt, 0, none⟩)) rfl
  have b0 := hB.1.cell 0 (v := .int .i64 4) rfl
  go_wp2_with fail
  refine (hP.doP hij (fun S0 w0 hX => TStatus S0 w0 [] bt σ W hX)).mono ?_
  rintro e W1 ⟨rfl, hP1, ht1⟩
  have hA1 := hA.stay ht1 hi0
  have hT1 := hT.next hc2 ht1 (.inl rfl)
  have hc1 : ∀ k, k < w.heap.size → recol W c2 i k = c k := fun k hk => (recol_old (Nat.lt_of_lt_of_le hk hT.size)).trans (hc2 k hk)
  clear a0 b0 hB hA hP
  generalize recol W c2 i = c3 at *
  have hbk := (Bx.new W1 c3 49 (stL σ))
  have hPz := hP1.alloc (.cells (stL σ).toArray 49)
  have hAz := hA1.alloc (.cells (stL σ).toArray 49)
  have hTz := hT1.alloc (.cells (stL σ).toArray 49)
  have hcz : ∀ k, k < w.heap.size → recol W1 c3 0 k = c k := fun k hk => (recol_old (Nat.lt_of_lt_of_le hk hT1.size)).trans (hc1 k hk)
  have a1 := hA1.1.cell 1 (v := .pointer (some ⟨br, 0, none⟩)) rfl
  have hAlt := hA1.1.lt
  unfold statusV
  go_wp2_with fail
  refine (hPz.doR hij (fun S0 w0 hX => Status_any S0 w0 [] br σ _ hX)).mono ?_
  rintro e W2 ⟨rfl, hP2, ht2⟩
  have hB2 := hbk.stay ht2 hj0
  have hT2 := hTz.next hcz ht2 (.inr rfl)
  have hcy : ∀ k, k < w.heap.size → recol (W1.alloc (.cells (stL σ).toArray 49)) (recol W1 c3 0) j k = c k := fun k hk => (recol_old (Nat.lt_of_lt_of_le hk hTz.size)).trans (hcz k hk)
  have s0 := hB2.1.cell 0 (v := .int .i64 (σ.inq.length : Nat)) rfl
  have s1 := hB2.1.cell 1 (v := .int .i64 (σ.out.length : Nat)) rfl
  have s2 := hB2.1.cell 2 (v := .int .i64 σ.col) rfl
  have s3 := hB2.1.cell 3 (v := .bool σ.stopped) rfl
  have s4 := hB2.1.cell 4 (v := .bool σ.held) rfl
  have s5 := hB2.1.cell 5 (v := .bool σ.quoted) rfl
  have hlt2 := hB2.1.lt
  have HF : Hid (Dn c i j bt br w σ (.returned (.bool true)) (W2.alloc (.cells (stL σ).toArray 49))) :=
    ⟨rfl, _, hP2.alloc _, hT2.alloc _, fun k hk => (recol_old (Nat.lt_of_lt_of_le hk hT2.size)).trans (hcy k hk)⟩
  clear hP2 hT2 hcy hB2 ht2 hPz hAz hTz hcz hbk hP1 hA1 hT1 hc1 a1
  unfold statusV
  go_wp2
  go_ret
  exact HF.out

set_option maxHeartbeats 4000000 in
set_option maxRecDepth 100000 in
theorem does_out (h : Pr w c i j bt br σ σ) (hij : i ≠ j) (hi0 : i ≠ 0) (hj0 : j ≠ 0) (ok : Inv K σ) (hK : K ≤ 1099511500000) (hw : Well σ) (hss : ss.length = 17) :
    Calls Tryz.prog 44 #[.pointer (some ⟨wb, 0, none⟩), .agg #[.pointer (some ⟨bt, 0, none⟩), .pointer (some ⟨br, 0, none⟩)], .agg (opCells 5 term n s ss).toArray] w fun e w' => Dn c i j bt br w (σ.set (σ.ss.set 1 (gt ss 1)) 0).1 e w' := by
  have hlen := h.2.len
  have hl17 : (i64s σ.ss).length = 17 := by rw [i64s_len, hlen]
  have hi : (Tryz.prog.info? 29).map (·.size) = some (i64s σ.ss).length := by rw [hl17]; exact size_settings
  go_enter Tryz.func44, Tryz.ntmps44
  go_wp2_with (first | refine wpList_box rfl (.tmp 2) 60 rfl (opCells 5 term n s ss) rfl ?_)
  intro W B hid
  obtain ⟨c2, hP, hA, hB, hT, hc2⟩ := boxes h [.pointer (some ⟨bt, 0, none⟩), .pointer (some ⟨br, 0, none⟩)] (opCells 5 term n s ss) W B 85 60 hid.out
  obtain ⟨A, hAe⟩ : ∃ A, A = w.heap.size := ⟨_, rfl⟩
  rw [← hAe] at hA ⊢
  clear hAe
  have a0 := hA.1.cell 0 (v := .pointer (some ⟨bt, 0, none⟩)) rfl
  have b0 := hB.1.cell 0 (v := .int .i64 5) rfl
  go_wp2_with fail
  refine (hP.doP hij (fun S0 w0 hX => TGet S0 w0 [] bt σ W hX)).mono ?_
  rintro e W1 ⟨rfl, hP1, ht1⟩
  have hA1 := hA.stay ht1 hi0
  have hB1 := hB.stay ht1 hi0
  have hT1 := hT.next hc2 ht1 (.inl rfl)
  have hc1 : ∀ k, k < w.heap.size → recol W c2 i k = c k := fun k hk => (recol_old (Nat.lt_of_lt_of_le hk hT.size)).trans (hc2 k hk)
  clear a0 b0 hB hA hP
  generalize recol W c2 i = c3 at *
  have hbk := (Bx.new W1 c3 29 z17)
  have hPz := hP1.alloc (.cells z17.toArray 29)
  have hAz := hA1.alloc (.cells z17.toArray 29)
  have hBz := hB1.alloc (.cells z17.toArray 29)
  have hTz := hT1.alloc (.cells z17.toArray 29)
  have hcz : ∀ k, k < w.heap.size → recol W1 c3 0 k = c k := fun k hk => (recol_old (Nat.lt_of_lt_of_le hk hT1.size)).trans (hc1 k hk)
  have hAlt := hA1.1.lt
  have hBlt := hB1.1.lt
  have HW1 : Hid (w.heap.size ≤ W1.heap.size) := hT1.size
  go_wp2_with (refine wpList_store_whole rfl (.tmp 11) (.tmp 40) 29 rfl W1.heap.size rfl (i64s σ.ss) rfl 29 z17 hbk.1 ?hz hi (i64s_one _) ?_)
  case hz => rw [hl17]; rfl
  intro V hBV hG hsz
  have hPV := hPz.over hG hbk.2 hi0 hj0
  have hAV := hAz.over hG (by omega)
  have hBB := hBz.over hG (by omega)
  have hTV := hTz.over hG HW1.out
  have hB7 : Bx V (recol W1 c3 0) W1.heap.size 29 (i64s σ.ss) := ⟨hBV, hbk.2⟩
  have hne1 : A ≠ W1.heap.size := by omega
  have hne2 : B ≠ W1.heap.size := by omega
  clear hPz hAz hTz hbk hBV hG hP1 hA1 hT1 hc1 hsz hBz hB1 hAlt hBlt
  generalize W1.heap.size = B7 at *
  generalize recol W1 c3 0 = c4 at *
  have a0 := hAV.1.cell 0 (v := .pointer (some ⟨bt, 0, none⟩)) rfl
  have b5 : V.cell? ⟨B, 5, none⟩ = some (.int .i64 (gt ss 1)) := hBB.1.cell 5 (by unfold opCells; rw [lit17 ss hss]; rfl)
  have d1 := hB7.1.cell 1 (v := .int .i64 (gt σ.ss 1)) (by rw [lit17 σ.ss hlen]; rfl)
  have f1 := hB7.1.frozen 1
  have hset : (i64s σ.ss).set 1 (.int .i64 (gt ss 1)) = i64s (σ.ss.set 1 (gt ss 1)) := by simp [i64s, List.map_set]
  have hB7' := hB7.1.set 1 (.int .i64 (gt ss 1))
  rw [hset] at hB7'
  have hs17 : (σ.ss.set 1 (gt ss 1)).length = 17 := by simp [hlen]
  have hsl : (i64s (σ.ss.set 1 (gt ss 1))).length = 17 := by rw [i64s_len, hs17]
  have his : (Tryz.prog.info? 29).map (·.size) = some (i64s (σ.ss.set 1 (gt ss 1))).length := by rw [hsl]; exact size_settings
  have hP' := hPV.set0 (V := V) ⟨B7, 1, none⟩ (.int .i64 (gt ss 1)) hB7.2 hi0 hj0
  have hA' : Bx (V.setCell ⟨B7, 1, none⟩ (.int .i64 (gt ss 1))) c4 A _ _ := ⟨hAV.1.other _ _ hne1, hAV.2⟩
  have hB' : Bx (V.setCell ⟨B7, 1, none⟩ (.int .i64 (gt ss 1))) c4 B _ _ := ⟨hBB.1.other _ _ hne2, hBB.2⟩
  have hT' := hTV.set0 ⟨B7, 1, none⟩ (.int .i64 (gt ss 1)) HW1.out
  clear hset hPV hAV hBB hTV hB7
  go_wp2_with (refine wpList_load_part rfl (.tmp 11) 29 rfl B7 0 rfl (i64s (σ.ss.set 1 (gt ss 1))) _ ?hc Tryz.underlying29 rfl his ?next)
  case hc =>
    intro k v hv
    rw [Nat.zero_add]
    exact hB7'.cell k hv
  refine (hP'.doP hij (fun S0 w0 hX => TSet S0 w0 [] bt σ _ K hX ok (by omega) hw (σ.ss.set 1 (gt ss 1)) hs17 0)).mono ?_
  rintro e W3 ⟨rfl, hP3, ht3⟩
  have hA3 := hA'.stay ht3 hi0
  have hB3 := hB'.stay ht3 hi0
  have hT3 := hT'.next hcz ht3 (.inl rfl)
  have hc3 : ∀ k, k < w.heap.size → recol (V.setCell ⟨B7, 1, none⟩ (.int .i64 (gt ss 1))) c4 i k = c k := fun k hk => (recol_old (Nat.lt_of_lt_of_le hk hT'.size)).trans (hcz k hk)
  clear hP' hA' hB' hT' hB7' a0 b5 d1 f1 ht3
  generalize recol (V.setCell ⟨B7, 1, none⟩ (.int .i64 (gt ss 1))) c4 i = c5 at *
  have a1 := hA3.1.cell 1 (v := .pointer (some ⟨br, 0, none⟩)) rfl
  obtain ⟨vi, vo, vu, vn, vd, S, hR0⟩ : ∃ vi vo vu vn vd, ∃ S, AtV S W3 [] br σ vi vo vu vn vd W3 := by
    obtain ⟨S, ⟨vi, vo, vu, vn, vd, h⟩, _⟩ := hP3.2
    exact ⟨vi, vo, vu, vn, vd, S, h⟩
  have hbk := (Bx.new W3 c5 29 z17)
  have hPz := hP3.alloc (.cells z17.toArray 29)
  have hBz := hB3.alloc (.cells z17.toArray 29)
  have hTz := hT3.alloc (.cells z17.toArray 29)
  have hAz := hA3.alloc (.cells z17.toArray 29)
  have hcz3 : ∀ k, k < w.heap.size → recol W3 c5 0 k = c k := fun k hk => (recol_old (Nat.lt_of_lt_of_le hk hT3.size)).trans (hc3 k hk)
  have hAlt := hA3.1.lt
  have hBlt := hB3.1.lt
  have HW3 : Hid (w.heap.size ≤ W3.heap.size) := hT3.size
  go_wp2_with (first | refine wpList_load_part rfl (.tmp 52) 29 rfl br 0 rfl (i64s σ.ss) _ ?hcb Tryz.underlying29 rfl hi ?nextb | refine wpList_store_whole rfl (.tmp 12) (.tmp 53) 29 rfl W3.heap.size rfl (i64s σ.ss) rfl 29 z17 hbk.1 ?hzb hi (i64s_one _) ?_)
  case hcb =>
    intro k v hv
    have hk : k < 17 := by have := (List.getElem?_eq_some_iff.1 hv).1; omega
    rw [Nat.zero_add]
    exact hR0.2.blk.cell k (by rw [List.getElem?_append_left (by omega)]; exact hv)
  case hzb => rw [hl17]; rfl
  intro V2 hBV hG hsz
  have hPV := hPz.over hG hbk.2 hi0 hj0
  have hAV := hAz.over hG (by omega)
  have hBB := hBz.over hG (by omega)
  have hTV := hTz.over hG HW3.out
  have hB8 : Bx V2 (recol W3 c5 0) W3.heap.size 29 (i64s σ.ss) := ⟨hBV, hbk.2⟩
  have hne3 : A ≠ W3.heap.size := by omega
  have hne4 : B ≠ W3.heap.size := by omega
  clear hPz hAz hTz hbk hBV hG hP3 hA3 hT3 hc3 hsz hBz hB3 hAlt hBlt a1 hR0
  generalize W3.heap.size = B8 at *
  generalize recol W3 c5 0 = c6 at *
  have a1 := hAV.1.cell 1 (v := .pointer (some ⟨br, 0, none⟩)) rfl
  have b5 : V2.cell? ⟨B, 5, none⟩ = some (.int .i64 (gt ss 1)) := hBB.1.cell 5 (by unfold opCells; rw [lit17 ss hss]; rfl)
  have d1 := hB8.1.cell 1 (v := .int .i64 (gt σ.ss 1)) (by rw [lit17 σ.ss hlen]; rfl)
  have f1 := hB8.1.frozen 1
  have hset : (i64s σ.ss).set 1 (.int .i64 (gt ss 1)) = i64s (σ.ss.set 1 (gt ss 1)) := by simp [i64s, List.map_set]
  have hB8' := hB8.1.set 1 (.int .i64 (gt ss 1))
  rw [hset] at hB8'
  have hPy := hPV.set0 (V := V2) ⟨B8, 1, none⟩ (.int .i64 (gt ss 1)) hB8.2 hi0 hj0
  have hTy := hTV.set0 ⟨B8, 1, none⟩ (.int .i64 (gt ss 1)) HW3.out
  clear hset hPV hAV hBB hTV hB8
  go_wp2_with (refine wpList_load_part rfl (.tmp 12) 29 rfl B8 0 rfl (i64s (σ.ss.set 1 (gt ss 1))) _ ?hc2 Tryz.underlying29 rfl his ?next2)
  case hc2 =>
    intro k v hv
    rw [Nat.zero_add]
    exact hB8'.cell k hv
  refine (hPy.doR hij (fun S0 w0 hX => RSet_any S0 w0 [] br σ _ K hX ok (by omega) (σ.ss.set 1 (gt ss 1)) hs17 0)).mono ?_
  rintro e W4 ⟨rfl, hP4, ht4⟩
  have HF : Hid (Dn c i j bt br w (σ.set (σ.ss.set 1 (gt ss 1)) 0).1 (.returned (.bool true)) W4) :=
    ⟨rfl, _, hP4, hTy.next hcz3 ht4 (.inr rfl), fun k hk => (recol_old (Nat.lt_of_lt_of_le hk hTy.size)).trans (hcz3 k hk)⟩
  clear hP4 ht4 hPy hTy hcz3 a1 b5 d1 f1 hB8'
  go_wp2_with (go_at_call 72; refine (numT_any _ _).mono ?_; rintro e w' ⟨rfl, hw⟩; subst hw)
  go_ret
  exact HF.out
end
end Go.Proofs.YtfnglkhhmplejaaGreat
