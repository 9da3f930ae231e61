/- Walks: the reference's terminal: a read ends, if it can. -/
import Derived.Test.YtfnglkhhmplejaaGreatRef20
import Derived.Deep.RegionLaw
namespace Go.Proofs.YtfnglkhhmplejaaGreat
open Go Go.RowKit Go.Clk

section
variable (S0 : List Nat) (w0 : World) (x : List Nat) (b : Nat) (σ : St) (w : World) (K : Int)

set_option maxHeartbeats 2000000 in
set_option maxRecDepth 100000 in
theorem ends_go (h : AtR S0 w0 x b σ w) (ok : Inv K σ) (hr : σ.reads = true) (he : σ.ended = false) (hy : σ.ready = true) :
    Calls Tryz.prog 123 #[.pointer (some ⟨b, 0, none⟩)] w fun r w' => r = .returned (.tuple #[]) ∧ AtR S0 w0 x b { σ with ended := true, inq := (fetch σ.n σ.inq []).1, data := (fetch σ.n σ.inq []).2 } w' := by
  obtain ⟨i0, hi, hz0, hz1, hz2⟩ := info_parts info_u8
  obtain ⟨t0, hti, htz0, htz1, htz2⟩ := info_parts info_ent
  have hR := h
  obtain ⟨vi, vo, vu, vn, vd, hV⟩ := h
  have hil := ok.inq; have n0 := ok.n0; have n1 := ok.n1
  have k25 := hV.c25
  have k26 := hV.c26
  rw [hr] at k25
  rw [he] at k26
  have HI : Hid (Inv K σ) := ok
  have HY : Hid (σ.ready = true) := hy
  clear ok hV hr he hy
  go_enter Tryz.func123, Tryz.ntmps123
  go_wp2_with fail
  refine (ready_any S0 w0 x b σ _ K hR HI.out).mono ?_
  rintro e W ⟨rfl, ⟨vi, vo, vu, vn, vd, hV⟩⟩
  rw [HY.out]
  have k28 := hV.c28
  have f28 := hV.frozen 28
  have k26 := hV.c26
  have f26 := hV.frozen 26
  have hR1 := ((hV.s_ended true).nil_data).r
  clear hV k25 hR
  go_wp2_with fail
  go_loopg [] σ.inq.length (fun k wr => ∃ (l : List Ent) (d : List UInt8), l.length = k ∧ AtR S0 w0 x b { σ with ended := true, inq := l, data := d } wr ∧ (d.length : Int) ≤ σ.n ∧ l.length ≤ 256 ∧ Hid (fetch σ.n σ.inq [] = fetch σ.n l d))
  case atStart => exact ⟨σ.inq, [], rfl, hR1, by simpa using n0, hil, rfl⟩
  case round =>
    clear hR1 k28 f28 k26 f26
    obtain ⟨l, d, hlk, ⟨vi, vo, vu, vn, vd, hV⟩, hdn, hl6, HF⟩ := hrel
    obtain ⟨oi, hsi, _, _, _⟩ := hV.lens_inq
    obtain ⟨ai, ci, rfl, hl1, hl2⟩ := hsi.shape
    have k17 := hV.c17
    dsimp only at hsi hl1 hl2 k17
    have HK : Hid (l.length = gk) := hlk
    clear hlk
    cases l with
    | nil =>
      have HT : Hid (fetch σ.n σ.inq [] = ([], d)) := HF.out
      have hR := hV.r
      simp only [List.length_nil] at k17
      clear hV hsi HF hl1 hl6
      go_wp2
      go_end0
      exact ⟨rfl, by rw [HT.out]; exact hR⟩
    | cons e r =>
      simp only [List.length_cons] at k17 hl1 hl6 hsi
      obtain ⟨ug, uoff, uc, hea, rfl⟩ := hsi.addr (by omega)
      cases hea
      have kc0 := (hsi.cells rfl 0 (u := .int .u8 (e.b.toNat : Int)) rfl).1
      have kc1 := (hsi.cells rfl 1 (u := .bool e.fin) rfl).1
      have kc2 := (hsi.cells rfl 2 (u := .bool e.file) rfl).1
      have kc3 := (hsi.cells rfl 3 (u := .int .i64 e.cells) rfl).1
      simp only [Nat.add_zero] at kc0
      have hlu := hsi.lt rfl
      have hlb := hV.lt
      clear hsi
      go_wp2_with fail
      have hB : AtV S0 w0 (wr.heap.size :: x) b { σ with ended := true, inq := e :: r, data := d } (.slice (some ⟨ug, uoff, none⟩) (r.length + 1) ci) vo vu vn vd (wr.alloc (.cells #[.int .u8 e.b.toNat, .bool e.fin, .bool e.file, .int .i64 e.cells] 118)) := hV.boxed _
      have hblk : Blk (wr.alloc (.cells #[.int .u8 e.b.toNat, .bool e.fin, .bool e.file, .int .i64 e.cells] 118)) wr.heap.size 118 [.int .u8 e.b.toNat, .bool e.fin, .bool e.file, .int .i64 e.cells] := Blk.new wr _ _
      have hB0 : w0.heap.size ≤ wr.heap.size := hV.2.kp.size
      generalize wr.alloc (.cells #[.int .u8 e.b.toNat, .bool e.fin, .bool e.file, .int .i64 e.cells] 118) = W1 at hB hblk ⊢
      generalize wr.heap.size = B at hB hblk hB0 ⊢
      clear hV kc0 kc1 kc2 kc3 k17 hlu hlb
      obtain ⟨od, hsd, _, _, _⟩ := hB.lens_data
      obtain ⟨da, dcap, rfl, hd1, hd2⟩ := hsd.shape
      have k28 := hB.c28
      have k27 := hB.c27
      have b2 := hblk.cell 2 rfl
      dsimp only at k28 k27 hd1 hd2
      clear hsd
      cases hfile : e.file with
      | true =>
        rw [hfile] at b2
        go_region
        have hC := hB.drew'
        have hblkC : Blk W1.drew B 118 [.int .u8 e.b.toNat, .bool e.fin, .bool e.file, .int .i64 e.cells] := hblk
        clear hB hblk k28 k27 b2
        generalize W1.drew = W2 at hC hblkC ⊢
        obtain ⟨oq, hsq, _, _, hput⟩ := hC.lens_inq
        have k17 := hC.c17
        have f17 := hC.frozen 17
        dsimp only at hsq k17
        simp only [List.length_cons] at hsq
        have hlC := hC.lt
        have hne : B ≠ b := hC.2.ne (by simp)
        have hbf := hblkC.cell 2 rfl
        rw [hfile] at hbf
        go_wp2_with (refine wpList_cut rfl (.tmp 57) (.const (.int .i64 1)) 101 rfl t0 Tryz.underlying101 hti htz1 rfl hsq 1 rfl (by omega) (by omega) ?_)
        intro a2 cap2 hs2
        obtain ⟨_, _, hV3⟩ := hput W2 (.slice a2 r.length cap2) r oq (grownBy_refl W2 oq) hs2 (.inr (.inl rfl))
        have hblk3 : Blk (W2.setCell ⟨b, 17, none⟩ (.slice a2 r.length cap2)) B 118 [.int .u8 e.b.toNat, .bool e.fin, .bool e.file, .int .i64 e.cells] := hblkC.other _ _ hne
        have b0 := hblk3.cell 0 rfl
        have b1 := hblk3.cell 1 rfl
        have b2 := hblk3.cell 2 rfl
        rw [hfile] at b2
        have hlB := hblk3.lt
        have hR3 := hV3.r.weaken (y := x) fun g hg => by simp [hg]
        clear hC hblkC hput hsq hs2 hblk3 hV3 b0
        cases hfin : e.fin with
        | true =>
          have HT : Hid (fetch σ.n σ.inq [] = (r, d)) := by
            show fetch σ.n σ.inq [] = _
            rw [HF.out]; unfold fetch; simp [hfile, hfin]
          rw [hfin] at b1
          clear HF
          go_wp2
          refine bodyPost_ret (results_none rfl _ _ _) rfl ?_
          exact ⟨rfl, by rw [HT.out]; exact hR3⟩
        | false =>
          have HT : Hid (fetch σ.n σ.inq [] = fetch σ.n r d) := by
            show fetch σ.n σ.inq [] = _
            rw [HF.out]; conv => lhs; unfold fetch
            simp [hfile, hfin]
          rw [hfin] at b1
          clear HF
          go_wp2
          go_roundg (gk - 1)
          case measure => have := HK.out; simp only [List.length_cons] at this; omega
          case rel => exact ⟨r, d, by have := HK.out; simp only [List.length_cons] at this; omega, hR3, hdn, by omega, HT⟩
      | false =>
        rw [hfile] at b2
        by_cases hfull : (d.length : Int) = σ.n
        · have hfb : ((d.length : Int) == σ.n) = true := beq_iff_eq.2 hfull
          have HT : Hid (fetch σ.n σ.inq [] = (e :: r, d)) := by
            show fetch σ.n σ.inq [] = _
            rw [HF.out]; unfold fetch; rw [if_pos (by rw [hfile]; simp [hfull])]
          clear HF
          go_region
          go_wp2
          refine bodyPost_ret (results_none rfl _ _ _) rfl ?_
          refine ⟨rfl, ?_⟩
          rw [HT.out]
          exact hB.drew'.r.weaken fun g hg => by simp [hg]
        · have hfb : ((d.length : Int) == σ.n) = false := beq_eq_false_iff_ne.2 hfull
          have hdl : (d.length : Int) < σ.n := by omega
          go_region
          have hC := hB.drew'
          have hblkC : Blk W1.drew B 118 [.int .u8 e.b.toNat, .bool e.fin, .bool e.file, .int .i64 e.cells] := hblk
          clear hB hblk k28 k27 b2
          generalize W1.drew = W2 at hC hblkC ⊢
          obtain ⟨oq, hsq, _, _, hput⟩ := hC.lens_inq
          have k17 := hC.c17
          have f17 := hC.frozen 17
          dsimp only at hsq k17
          simp only [List.length_cons] at hsq
          have hlC := hC.lt
          have hne : B ≠ b := hC.2.ne (by simp)
          have hbf := hblkC.cell 2 rfl
          rw [hfile] at hbf
          go_wp2_with (refine wpList_cut rfl (.tmp 57) (.const (.int .i64 1)) 101 rfl t0 Tryz.underlying101 hti htz1 rfl hsq 1 rfl (by omega) (by omega) ?_)
          intro a2 cap2 hs2
          obtain ⟨_, _, hV3⟩ := hput W2 (.slice a2 r.length cap2) r oq (grownBy_refl W2 oq) hs2 (.inr (.inl rfl))
          have hblk3 : Blk (W2.setCell ⟨b, 17, none⟩ (.slice a2 r.length cap2)) B 118 [.int .u8 e.b.toNat, .bool e.fin, .bool e.file, .int .i64 e.cells] := hblkC.other _ _ hne
          have b0 := hblk3.cell 0 rfl
          have b1 := hblk3.cell 1 rfl
          have b2 := hblk3.cell 2 rfl
          rw [hfile] at b2
          have hlB := hblk3.lt
          have hV4 := (hV3.alloc (.cells #[.int .u8 e.b.toNat] 5)).drew'
          generalize hW3 : W2.setCell ⟨b, 17, none⟩ (.slice a2 r.length cap2) = W3 at hV3 hblk3 b0 b1 b2 hlB hV4
          obtain ⟨od4, hsd4, _, hodx, hputd⟩ := hV4.lens_data
          have hblk4 : Blk ((W3.alloc (.cells #[.int .u8 e.b.toNat] 5)).drew) B 118 [.int .u8 e.b.toNat, .bool e.fin, .bool e.file, .int .i64 e.cells] := hblk3.alloc _
          have k28 := hV3.c28
          dsimp only at k28 hsd4 hputd
          have hl3 := hV3.lt
          clear hC hblkC hput hsq hs2
          go_wp2_with fail
          clear hW3 k17 f17 hbf hlC
          go_region_law (refine step_append_sl rfl (.tmp 68) (.tmp 71) 33 33 rfl hsd4 (by simp [Act.eval]) i0 _ 1 Tryz.underlying33 hi hz0 hz1 hz2 rfl (.slice (some ⟨W3.heap.size, 0, none⟩) 1 1) 1 [.int .u8 e.b.toNat] (by simp [Act.eval]) (Sl.src Tryz.underlying33 (Sl.made W3 [.int .u8 e.b.toNat] 1 5 1 rfl (by simp [maxLen])).drew (by intro u hu; simp at hu; subst hu; rfl)) (by unfold maxLen; omega) (by omega) ?_; intro a' cap' W5 own' hS hG hO; obtain ⟨q1, q2, hW6⟩ := hputd W5 (.slice a' (d.length + 1) cap') (d ++ [e.b]) own' hG (by rw [bys_app, List.length_append]; exact hS) (by rcases hO with h1 | ⟨h1, _⟩; exact .inr (.inl h1); exact .inr (.inr ⟨_, h1, Nat.le_refl _⟩)))
          all_goals
            have hR3 := hW6.r.weaken (y := x) fun g hg => by simp [hg]
            have c1 : (W5.setCell ⟨b, 28, none⟩ (.slice a' (d.length + 1) cap')).cell? ⟨B, 1, none⟩ = some (.bool e.fin) :=
              ((hblk4.grown hG (fun h => hodx B h.symm (by simp))).other ⟨b, 28, none⟩ _ hne).cell 1 rfl
            clear hputd hblk4 hodx hS hG hO hsd4 hV4 hV3 hW6
            cases hfin : e.fin with
            | true =>
              have HT : Hid (fetch σ.n σ.inq [] = (r, d ++ [e.b])) := by
                show fetch σ.n σ.inq [] = _
                rw [HF.out]; unfold fetch; simp [hfile, hfin, hfull]
              rw [hfin] at c1
              clear HF
              go_wp2
              refine bodyPost_ret (results_none rfl _ _ _) rfl ?_
              exact ⟨rfl, by rw [HT.out]; exact hR3⟩
            | false =>
              have HT : Hid (fetch σ.n σ.inq [] = fetch σ.n r (d ++ [e.b])) := by
                show fetch σ.n σ.inq [] = _
                rw [HF.out]; conv => lhs; unfold fetch
                simp [hfile, hfin, hfull]
              rw [hfin] at c1
              clear HF
              go_wp2
              go_roundg (gk - 1)
              case measure => have := HK.out; simp only [List.length_cons] at this; omega
              case rel => exact ⟨r, d ++ [e.b], by have := HK.out; simp only [List.length_cons] at this; omega, hR3, by rw [List.length_append, List.length_singleton]; omega, by omega, HT⟩

set_option maxHeartbeats 1000000 in
set_option maxRecDepth 100000 in
theorem ends_not (h : AtR S0 w0 x b σ w) (ok : Inv K σ) (hr : σ.reads = true) (he : σ.ended = false) (hy : σ.ready = false) :
    Calls Tryz.prog 123 #[.pointer (some ⟨b, 0, none⟩)] w fun r w' => r = .returned (.tuple #[]) ∧ AtR S0 w0 x b σ w' := by
  have hR := h
  obtain ⟨vi, vo, vu, vn, vd, hV⟩ := h
  have k25 := hV.c25
  have k26 := hV.c26
  rw [hr] at k25
  rw [he] at k26
  have HY : Hid (σ.ready = false) := hy
  clear hV hr he hy
  go_enter Tryz.func123, Tryz.ntmps123
  go_wp2_with fail
  refine (ready_any S0 w0 x b σ _ K hR ok).mono ?_
  rintro e W ⟨rfl, hW⟩
  rw [HY.out]
  go_wp2
  refine bodyPost_ret (results_none rfl _ _ _) rfl ?_
  exact ⟨rfl, hW⟩
set_option maxHeartbeats 1000000 in
set_option maxRecDepth 100000 in
theorem ends_done (h : AtR S0 w0 x b σ w) (hr : σ.reads = true) (he : σ.ended = true) :
    Calls Tryz.prog 123 #[.pointer (some ⟨b, 0, none⟩)] w fun r w' => r = .returned (.tuple #[]) ∧ AtR S0 w0 x b σ w' := by
  have hR := h
  obtain ⟨vi, vo, vu, vn, vd, hV⟩ := h
  have k25 := hV.c25
  have k26 := hV.c26
  rw [hr] at k25
  rw [he] at k26
  clear hV hr he
  go_enter Tryz.func123, Tryz.ntmps123
  go_wp2
  refine bodyPost_ret (results_none rfl _ _ _) rfl ?_
  exact ⟨rfl, hR⟩
theorem ends_any (h : AtR S0 w0 x b σ w) (ok : Inv K σ) :
    Calls Tryz.prog 123 #[.pointer (some ⟨b, 0, none⟩)] w fun r w' => r = .returned (.tuple #[]) ∧ AtR S0 w0 x b σ.ends w' := by
  cases hr : σ.reads with
  | false =>
    have e1 : σ.ends = σ := by unfold St.ends; simp [hr]
    rw [e1]; exact ends_idle S0 w0 x b σ w h hr
  | true =>
    cases he : σ.ended with
    | true =>
      have e1 : σ.ends = σ := by unfold St.ends; simp [he]
      rw [e1]; exact ends_done S0 w0 x b σ w h hr he
    | false =>
      cases hy : σ.ready with
      | false =>
        have e1 : σ.ends = σ := by unfold St.ends; simp [hy]
        rw [e1]; exact ends_not S0 w0 x b σ w K h ok hr he hy
      | true =>
        have e1 : σ.ends = { σ with ended := true, inq := (fetch σ.n σ.inq []).1, data := (fetch σ.n σ.inq []).2 } := by unfold St.ends; simp [hr, he, hy]
        rw [e1]; exact ends_go S0 w0 x b σ w K h ok hr he hy
end
end Go.Proofs.YtfnglkhhmplejaaGreat
