/- Walks: the program: something is laid down. -/
import Derived.Test.YtfnglkhhmplejaaGreatP9
import Derived.Deep.DeepCutAuto
namespace Go.Proofs.YtfnglkhhmplejaaGreat
open Go Go.RowKit Go.Clk

theorem info_pent : (Tryz.prog.info? 112).map (fun i => (i.zero, i.size, i.bytes)) = some (some (.agg #[.int .u8 0, .bool false, .bool false, .int .i64 0]), 4, 16) := by kernel_rfl
def plost (σ : St) : St := if σ.I 4096 then (σ.put [7]).1 else σ

section
variable (S0 : List Nat) (w0 : World) (x : List Nat) (b : Nat) (σ : St) (w : World) (K : Int)

set_option maxHeartbeats 2000000 in
set_option maxRecDepth 100000 in
theorem Add_any (h : AtP S0 w0 x b σ w) (hil : σ.inq.length ≤ 256) (e : Ent) :
    Calls Tryz.prog 104 #[.pointer (some ⟨b, 17, none⟩), .agg #[.int .u8 e.b.toNat, .bool e.file, .bool e.fin, .int .i64 e.cells]] w fun r w' => r = .returned (.tuple #[]) ∧ AtP S0 w0 x b { σ with inq := σ.inq ++ [e] } w' := by
  obtain ⟨t0, hti, htz0, htz1, htz2⟩ := info_parts info_pent
  obtain ⟨vi, vu, vo, vs, hV⟩ := h
  go_enter Tryz.func104, Tryz.ntmps104
  go_wp2_with (refine wpList_box rfl (.tmp 1) 112 rfl [.int .u8 e.b.toNat, .bool e.file, .bool e.fin, .int .i64 e.cells] rfl ?_)
  intro W B hid
  have hB : PV S0 w0 (B :: x) b σ vi vu vo vs W := by obtain ⟨rfl, rfl⟩ := hid.out; exact hV.boxed _
  have hblk : Blk W B 112 [.int .u8 e.b.toNat, .bool e.file, .bool e.fin, .int .i64 e.cells] := by obtain ⟨rfl, rfl⟩ := hid.out; exact Blk.new w _ _
  clear hid hV
  have hV4 := (hB.alloc (.cells #[.int .u8 e.b.toNat, .bool e.file, .bool e.fin, .int .i64 e.cells] 112)).drew
  obtain ⟨oi, hsi, _, _, hput⟩ := hV4.lens_in
  obtain ⟨ai, ci, rfl, hl1, hl2⟩ := hsi.shape
  have k17 := hB.c_in
  have b0 := hblk.cell 0 rfl
  have b1 := hblk.cell 1 rfl
  have b2 := hblk.cell 2 rfl
  have b3 := hblk.cell 3 rfl
  have hlB := hblk.lt
  have hlb := hB.lt
  clear hB hblk hV4
  go_wp2_with fail
  go_region_law (refine step_append_sl rfl (.tmp 7) (.tmp 9) 69 69 rfl hsi (by simp [Act.eval]) t0 _ 16 Tryz.underlying69 hti htz0 htz1 htz2 rfl (.slice (some ⟨W.heap.size, 0, none⟩) 1 1) 1 [.int .u8 e.b.toNat, .bool e.file, .bool e.fin, .int .i64 e.cells] (by simp [Act.eval]) (Sl.src Tryz.underlying69 (Sl.made W [.int .u8 e.b.toNat, .bool e.file, .bool e.fin, .int .i64 e.cells] 1 112 4 rfl (by simp [maxLen])).drew (by intro u hu; simp at hu; rcases hu with rfl | rfl | rfl | rfl <;> rfl)) (by unfold maxLen; omega) (by omega) ?_; intro a' cap' W5 own' hS hG hO; obtain ⟨q1, q2, hW6⟩ := hput W5 (.slice a' (σ.inq.length + 1) cap') (σ.inq ++ [e]) own' hG (by rw [pents_app, List.length_append]; exact hS) (by rcases hO with h1 | ⟨h1, _⟩; exact .inr (.inl h1); exact .inr (.inr ⟨_, h1, Nat.le_refl _⟩)))
  all_goals go_wp2
  all_goals go_end0
  all_goals exact ⟨rfl, hW6.r.weaken fun g hg => by simp [hg]⟩

theorem Add_at (h : AtP S0 w0 x b σ w) (hil : σ.inq.length ≤ 256) (e : Ent) (cs : Array Value) (hcs : cs = #[.int .u8 e.b.toNat, .bool e.file, .bool e.fin, .int .i64 e.cells]) :
    Calls Tryz.prog 104 #[.pointer (some ⟨b, 17, none⟩), .agg cs] w fun r w' => r = .returned (.tuple #[]) ∧ AtP S0 w0 x b { σ with inq := σ.inq ++ [e] } w' := by
  subst hcs; exact Add_any S0 w0 x b σ w h hil e
theorem lays_lost (e : Ent) (h : σ.most e.fin ≤ σ.inq.length) : σ.lays e = plost σ := by unfold St.lays plost; rw [if_pos h]

set_option maxHeartbeats 2000000 in
set_option maxRecDepth 100000 in
theorem enter_any (h : AtP S0 w0 x b σ w) (ok : Inv K σ) (hK : K ≤ 1099511627776) (e : Ent) (cs : Array Value) (hcs : cs = #[.int .u8 e.b.toNat, .bool e.file, .bool e.fin, .int .i64 e.cells]) :
    Calls Tryz.prog 75 #[.pointer (some ⟨b, 0, none⟩), .agg cs] w fun r w' => r = .returned (.tuple #[]) ∧ AtP S0 w0 x b (σ.lays e) w' := by
  subst hcs
  obtain ⟨vi, vu, vo, vs, hV⟩ := h
  have l0 := ok.ok.l0; have l1 := ok.ok.l1; have i0' := ok.ok.i0; have i1' := ok.ok.i1; have hil := ok.inq
  have a4096 := has4096 σ.i i0' i1'
  go_enter Tryz.func75, Tryz.ntmps75
  go_wp2_with (refine wpList_box rfl (.tmp 1) 112 rfl [.int .u8 e.b.toNat, .bool e.file, .bool e.fin, .int .i64 e.cells] rfl ?_)
  intro W B hid
  have hB : PV S0 w0 (B :: x) b σ vi vu vo vs W := by obtain ⟨rfl, rfl⟩ := hid.out; exact hV.boxed _
  have hblk : Blk W B 112 [.int .u8 e.b.toNat, .bool e.file, .bool e.fin, .int .i64 e.cells] := by obtain ⟨rfl, rfl⟩ := hid.out; exact Blk.new w _ _
  have hB0 : w0.heap.size ≤ B := by obtain ⟨rfl, rfl⟩ := hid.out; exact hV.2.kp.size
  clear hid hV
  obtain ⟨oi, hsi, _, _, _⟩ := hB.lens_in
  obtain ⟨ai, ci, rfl, hl1, hl2⟩ := hsi.shape
  have k17 := hB.c_in
  have k2 := hB.cl
  have b0 := hblk.cell 0 rfl
  have b1 := hblk.cell 1 rfl
  have b2 := hblk.cell 2 rfl
  have b3 := hblk.cell 3 rfl
  have hlB := hblk.lt
  have hlb := hB.lt
  have HI : Hid (Inv K σ) := ok
  clear ok hsi
  have hR := hB.r
  go_upto_region 1 with fail
  go_cut [12] (fun s12 wx => s12 = .bool (decide (σ.most e.fin ≤ σ.inq.length)) ∧ AtP S0 w0 (B :: x) b σ wx ∧ Blk wx B 112 [.int .u8 e.b.toNat, .bool e.file, .bool e.fin, .int .i64 e.cells])
  case first =>
    have hm1 : AtP S0 w0 (B :: x) b σ ((W.alloc (.cells #[.int .u8 e.b.toNat, .bool e.file, .bool e.fin, .int .i64 e.cells] 112)).drew) := ((hB.alloc _).drew).r
    have hm2 : Blk ((W.alloc (.cells #[.int .u8 e.b.toNat, .bool e.file, .bool e.fin, .int .i64 e.cells] 112)).drew) B 112 [.int .u8 e.b.toNat, .bool e.file, .bool e.fin, .int .i64 e.cells] := hblk.alloc _
    go_region_with (go_at_call 102; refine (most_any b σ _ (by exact k2) (by exact hlb) l0 l1 _ _ _ _).mono ?_; rintro e w' ⟨rfl, rfl⟩)
    all_goals (go_wp2_with fail; go_meet; exact ⟨rfl, hm1, hm2⟩)
  case rest =>
  clear hB hblk k17 k2 b0 b1 b2 b3 hlB hlb hR
  obtain ⟨rfl, hR, hblk⟩ := hcut
  by_cases hfull : σ.most e.fin ≤ σ.inq.length
  · have hd : decide (σ.most e.fin ≤ σ.inq.length) = true := decide_eq_true hfull
    have HL : Hid (σ.lays e = plost σ) := lays_lost σ e hfull
    rw [hd]
    have k0 : wc.cell? ⟨b, 0, none⟩ = some (.int .i64 σ.i) := by obtain ⟨vi, vu, vo, vs, hV⟩ := hR; exact hV.ci
    cases hbell : bit σ.i 4096 with
    | true =>
      have HT : Hid (plost σ = (σ.put [7]).1) := by show plost σ = _; unfold plost St.I; rw [if_pos hbell]
      rw [hbell] at a4096
      go_wp2_with (go_at_call 52; refine (Has_any _ _ _).mono ?_; rintro e w' ⟨rfl, rfl⟩)
      refine (putOut_new S0 w0 (B :: x) b σ _ K hR HI.out hK [7] (by simp) _ rfl _ rfl).mono ?_
      rintro e W2 ⟨rfl, hW⟩
      go_wp2
      refine bodyPost_ret (results_none rfl _ _ _) rfl ?_
      exact ⟨rfl, by rw [HL.out, HT.out]; exact hW.weaken fun g hg => by simp [hg]⟩
    | false =>
      have HT : Hid (plost σ = σ) := by show plost σ = _; unfold plost St.I; rw [if_neg (by rw [hbell]; decide)]
      rw [hbell] at a4096
      go_wp2_with (go_at_call 52; refine (Has_any _ _ _).mono ?_; rintro e w' ⟨rfl, rfl⟩)
      refine bodyPost_ret (results_none rfl _ _ _) rfl ?_
      exact ⟨rfl, by rw [HL.out, HT.out]; exact hR.weaken fun g hg => by simp [hg]⟩
  · have hd : decide (σ.most e.fin ≤ σ.inq.length) = false := decide_eq_false hfull
    rw [hd]
    have b0 := hblk.cell 0 rfl
    have b1 := hblk.cell 1 rfl
    have b2 := hblk.cell 2 rfl
    have b3 := hblk.cell 3 rfl
    have hlB := hblk.lt
    have hm := most_le σ e.fin
    cases hfile : e.file with
    | true =>
      have HL : Hid (σ.lays e = { σ with inq := σ.inq ++ [e], wait := 0 }) := by show σ.lays e = _; unfold St.lays; rw [if_neg hfull, if_pos hfile]
      rw [hfile] at b1
      have hRd := hR.drew
      have hcs : Hid ((#[.int .u8 e.b.toNat, .bool true, .bool e.fin, .int .i64 e.cells] : Array Value) = #[.int .u8 e.b.toNat, .bool e.file, .bool e.fin, .int .i64 e.cells]) := by rw [hfile]; exact rfl
      go_wp2_with fail
      go_region_with (go_at_call 104; refine (Add_at S0 w0 (B :: x) b σ _ hRd hil e _ hcs.out).mono ?_; rintro r W2 ⟨rfl, hW2⟩; obtain ⟨vi, vu, vo, vs, hV9⟩ := hW2; have k9 := hV9.c_wait; have f9 := hV9.frozen 23; have hW9 := (hV9.s_wait 0).r; clear hV9)
      all_goals go_wp2
      all_goals go_end0
      all_goals exact ⟨rfl, by rw [HL.out]; exact hW9.weaken fun g hg => by simp [hg]⟩
    | false =>
      have HL : Hid (σ.lays e = { σ.echo1 e.b with inq := σ.inq ++ [{ e with cells := σ.cellsOf e.b }], wait := 0 }) := by show σ.lays e = _; unfold St.lays; rw [if_neg hfull, if_neg (by rw [hfile]; decide)]
      rw [hfile] at b1
      obtain ⟨S, hSR, hS1, hS2, hS3, hback⟩ := hR.rebase
      have hBS : B ∉ S := hS2 B (by simp)
      go_wp2_with fail
      refine (PEcho_any S _ (B :: x) b σ _ K hSR HI.out hK e.b _ rfl).mono ?_
      rintro r V ⟨rfl, hE⟩
      have hblkV := hE.kp.blk hblk hBS
      have hVb := hback _ _ hE
      clear hback hE hSR hS1 hS2 hS3 hBS hR b0 b1 b2 b3 hblk
      obtain ⟨vi, vu, vo, vs, hV0⟩ := hVb
      have hVW := hV0.poke (g := B) (by simp) hB0 3 (.int .i64 (σ.cellsOf e.b))
      have hblkW := hblkV.set 3 (.int .i64 (σ.cellsOf e.b))
      have b3 := hblkV.cell 3 rfl
      have f3 := hblkV.frozen 3
      have d0 := hblkW.cell 0 rfl
      have d1 := hblkW.cell 1 rfl
      have d2 := hblkW.cell 2 rfl
      have d3 := hblkW.cell 3 rfl
      rw [hfile] at d1
      clear hblkV hV0
      have hRd := hVW.drew.r
      have hcs : Hid ((#[.int .u8 e.b.toNat, .bool false, .bool e.fin, .int .i64 (σ.cellsOf e.b)] : Array Value) = #[.int .u8 ({ e with cells := σ.cellsOf e.b } : Ent).b.toNat, .bool ({ e with cells := σ.cellsOf e.b } : Ent).file, .bool ({ e with cells := σ.cellsOf e.b } : Ent).fin, .int .i64 ({ e with cells := σ.cellsOf e.b } : Ent).cells]) := by show _ = _; simp [hfile]
      have hil2 : (σ.echo1 e.b).inq.length ≤ 256 := (HI.out.echo1 e.b).inq
      have HQ : Hid ((σ.echo1 e.b).inq = σ.inq) := by obtain ⟨o9, k9, h9⟩ := echo1_frame σ e.b; show (σ.echo1 e.b).inq = σ.inq; rw [h9]
      have hlB2 := hblkW.lt
      go_wp2_with fail
      go_region_with (go_at_call 104; refine (Add_at S0 w0 (B :: x) b (σ.echo1 e.b) _ hRd hil2 { e with cells := σ.cellsOf e.b } _ hcs.out).mono ?_; rintro r W2 ⟨rfl, hW2⟩; obtain ⟨vi, vu, vo, vs, hV9⟩ := hW2; have k9 := hV9.c_wait; have f9 := hV9.frozen 23; have hW9 := (hV9.s_wait 0).r; clear hV9)
      all_goals go_wp2
      all_goals go_end0
      all_goals
        refine ⟨rfl, ?_⟩
        rw [HL.out]
        have hw3 := hW9.weaken (y := x) fun g hg => by simp [hg]
        rw [HQ.out] at hw3
        exact hw3
end
end Go.Proofs.YtfnglkhhmplejaaGreat
