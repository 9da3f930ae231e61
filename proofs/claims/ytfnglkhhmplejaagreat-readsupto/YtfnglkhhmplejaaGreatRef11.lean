/- Walks: the reference's terminal: something is laid down. (Written by mkRef11.py.) -/
import Derived.Test.YtfnglkhhmplejaaGreatR9
namespace Go.Proofs.YtfnglkhhmplejaaGreat
open Go Go.RowKit Go.Clk

theorem info_ent : (Tryz.prog.info? 118).map (fun i => (i.zero, i.size, i.bytes)) = some (some (.agg #[.int .u8 0, .bool false, .bool false, .int .i64 0]), 4, 16) := by kernel_rfl
theorem _root_.Go.Clk.Blk.grown {w w1 : World} {b : Nat} {e : TypeId} {cs : List Value} {o : Option Nat} (h : Blk w b e cs) (hg : w.grownBy w1 o) (hn : some b ≠ o) : Blk w1 b e cs := by
  unfold Blk; rw [hg.block b h.lt hn]; exact h
def lost (σ : St) : St := if σ.I 4096 then (σ.put [7]).1 else σ
theorem AtV.poke {S0 : List Nat} {w0 w : World} {x : List Nat} {b : Nat} {σ : St} {vi vo vu vn vd : Value} (h : AtV S0 w0 x b σ vi vo vu vn vd w) {g : Nat} (hg : g ∈ x) (h0 : w0.heap.size ≤ g) (k : Nat) (v : Value) : AtV S0 w0 x b σ vi vo vu vn vd (w.setCell ⟨g, k, none⟩ v) :=
  ⟨h.1, h.2.same (h.2.kp.set ⟨g, k, none⟩ v (.inr h0)) (by simp) fun j _ hx => heap_setCell_other w ⟨g, k, none⟩ j v fun e => hx (by rw [e]; exact hg)⟩

section
variable (S0 : List Nat) (w0 : World) (x : List Nat) (b : Nat) (σ : St) (w : World) (K : Int)

set_option maxHeartbeats 2000000 in
set_option maxRecDepth 100000 in
theorem lays_full_a (h : AtR S0 w0 x b σ w) (ok : Inv K σ) (hK : K ≤ 1099511627776) (c : UInt8) (fin file : Bool) (cl : Int) (h2 : bit σ.l 2 = false) (hfull : 256 ≤ σ.inq.length) :
    Calls Tryz.prog 147 #[.pointer (some ⟨b, 0, none⟩), .agg #[.int .u8 c.toNat, .bool fin, .bool file, .int .i64 cl]] w fun r w' => r = .returned (.tuple #[]) ∧ AtR S0 w0 x b (lost σ) w' := by
  obtain ⟨vi, vo, vu, vn, vd, hV⟩ := h
  have l0 := ok.ok.l0; have l1 := ok.ok.l1; have i0' := ok.ok.i0; have i1' := ok.ok.i1
  go_enter Tryz.func147, Tryz.ntmps147
  go_wp2_with (refine wpList_box rfl (.tmp 1) 118 rfl [.int .u8 c.toNat, .bool fin, .bool file, .int .i64 cl] rfl ?_)
  intro W B hid
  have hB : AtV S0 w0 (B :: x) b σ vi vo vu vn vd W := by obtain ⟨rfl, rfl⟩ := hid.out; exact hV.boxed _
  have hblk : Blk W B 118 [.int .u8 c.toNat, .bool fin, .bool file, .int .i64 cl] := by obtain ⟨rfl, rfl⟩ := hid.out; exact Blk.new w _ _
  clear hid hV
  have k2 := hB.cl
  have k0 := hB.ci
  obtain ⟨oi, hsi, _, _, _⟩ := hB.lens_inq
  obtain ⟨ai, ci, rfl, hl1, hl2⟩ := hsi.shape
  have k17 := hB.c17
  have b1 := hblk.cell 1 rfl
  have hil := ok.inq
  have HI : Hid (Inv K σ) := ok
  clear ok hsi hblk
  by_cases hbell : bit σ.i 4096 = true
  · have HT : Hid (lost σ = (σ.put [7]).1) := by show lost σ = _; unfold lost St.I; rw [if_pos hbell]
    go_wp2_with (first | (go_at_call 89; refine (local_any b σ.l _ _ k2 l0 l1 (by omega) (by omega)).mono ?_; rintro e w' ⟨rfl, rfl⟩) | (go_at_call 124; refine (in_any b σ.i _ _ k0 i0' i1' (by omega) (by omega)).mono ?_; rintro e w' ⟨rfl, rfl⟩))
    refine (Put_new S0 w0 (B :: x) b σ _ K hB.r HI.out hK [7] (by simp) _ rfl _ rfl).mono ?_
    rintro e W2 ⟨rfl, hW⟩
    go_wp2
    refine bodyPost_ret (results_none rfl _ _ _) rfl ?_
    exact ⟨rfl, by rw [HT.out]; exact hW.weaken fun g hg => by simp [hg]⟩
  · have hb' : bit σ.i 4096 = false := by simpa using hbell
    have HT : Hid (lost σ = σ) := by show lost σ = _; unfold lost St.I; rw [if_neg hbell]
    clear hbell
    go_wp2_with (first | (go_at_call 89; refine (local_any b σ.l _ _ k2 l0 l1 (by omega) (by omega)).mono ?_; rintro e w' ⟨rfl, rfl⟩) | (go_at_call 124; refine (in_any b σ.i _ _ k0 i0' i1' (by omega) (by omega)).mono ?_; rintro e w' ⟨rfl, rfl⟩))
    refine bodyPost_ret (results_none rfl _ _ _) rfl ?_
    exact ⟨rfl, by rw [HT.out]; exact hB.r.weaken fun g hg => by simp [hg]⟩

set_option maxHeartbeats 2000000 in
set_option maxRecDepth 100000 in
theorem lays_full_b (h : AtR S0 w0 x b σ w) (ok : Inv K σ) (hK : K ≤ 1099511627776) (c : UInt8) (file : Bool) (cl : Int) (h2 : bit σ.l 2 = true) (hfull : 256 ≤ σ.inq.length) :
    Calls Tryz.prog 147 #[.pointer (some ⟨b, 0, none⟩), .agg #[.int .u8 c.toNat, .bool true, .bool file, .int .i64 cl]] w fun r w' => r = .returned (.tuple #[]) ∧ AtR S0 w0 x b (lost σ) w' := by
  obtain ⟨vi, vo, vu, vn, vd, hV⟩ := h
  have l0 := ok.ok.l0; have l1 := ok.ok.l1; have i0' := ok.ok.i0; have i1' := ok.ok.i1
  go_enter Tryz.func147, Tryz.ntmps147
  go_wp2_with (refine wpList_box rfl (.tmp 1) 118 rfl [.int .u8 c.toNat, .bool true, .bool file, .int .i64 cl] rfl ?_)
  intro W B hid
  have hB : AtV S0 w0 (B :: x) b σ vi vo vu vn vd W := by obtain ⟨rfl, rfl⟩ := hid.out; exact hV.boxed _
  have hblk : Blk W B 118 [.int .u8 c.toNat, .bool true, .bool file, .int .i64 cl] := by obtain ⟨rfl, rfl⟩ := hid.out; exact Blk.new w _ _
  clear hid hV
  have k2 := hB.cl
  have k0 := hB.ci
  obtain ⟨oi, hsi, _, _, _⟩ := hB.lens_inq
  obtain ⟨ai, ci, rfl, hl1, hl2⟩ := hsi.shape
  have k17 := hB.c17
  have b1 := hblk.cell 1 rfl
  have hil := ok.inq
  have HI : Hid (Inv K σ) := ok
  clear ok hsi hblk
  by_cases hbell : bit σ.i 4096 = true
  · have HT : Hid (lost σ = (σ.put [7]).1) := by show lost σ = _; unfold lost St.I; rw [if_pos hbell]
    go_wp2_with (first | (go_at_call 89; refine (local_any b σ.l _ _ k2 l0 l1 (by omega) (by omega)).mono ?_; rintro e w' ⟨rfl, rfl⟩) | (go_at_call 124; refine (in_any b σ.i _ _ k0 i0' i1' (by omega) (by omega)).mono ?_; rintro e w' ⟨rfl, rfl⟩))
    refine (Put_new S0 w0 (B :: x) b σ _ K hB.r HI.out hK [7] (by simp) _ rfl _ rfl).mono ?_
    rintro e W2 ⟨rfl, hW⟩
    go_wp2
    refine bodyPost_ret (results_none rfl _ _ _) rfl ?_
    exact ⟨rfl, by rw [HT.out]; exact hW.weaken fun g hg => by simp [hg]⟩
  · have hb' : bit σ.i 4096 = false := by simpa using hbell
    have HT : Hid (lost σ = σ) := by show lost σ = _; unfold lost St.I; rw [if_neg hbell]
    clear hbell
    go_wp2_with (first | (go_at_call 89; refine (local_any b σ.l _ _ k2 l0 l1 (by omega) (by omega)).mono ?_; rintro e w' ⟨rfl, rfl⟩) | (go_at_call 124; refine (in_any b σ.i _ _ k0 i0' i1' (by omega) (by omega)).mono ?_; rintro e w' ⟨rfl, rfl⟩))
    refine bodyPost_ret (results_none rfl _ _ _) rfl ?_
    exact ⟨rfl, by rw [HT.out]; exact hB.r.weaken fun g hg => by simp [hg]⟩

set_option maxHeartbeats 2000000 in
set_option maxRecDepth 100000 in
theorem lays_full_c (h : AtR S0 w0 x b σ w) (ok : Inv K σ) (hK : K ≤ 1099511627776) (c : UInt8) (file : Bool) (cl : Int) (h2 : bit σ.l 2 = true) (hfull : 255 ≤ σ.inq.length) :
    Calls Tryz.prog 147 #[.pointer (some ⟨b, 0, none⟩), .agg #[.int .u8 c.toNat, .bool false, .bool file, .int .i64 cl]] w fun r w' => r = .returned (.tuple #[]) ∧ AtR S0 w0 x b (lost σ) w' := by
  obtain ⟨vi, vo, vu, vn, vd, hV⟩ := h
  have l0 := ok.ok.l0; have l1 := ok.ok.l1; have i0' := ok.ok.i0; have i1' := ok.ok.i1
  go_enter Tryz.func147, Tryz.ntmps147
  go_wp2_with (refine wpList_box rfl (.tmp 1) 118 rfl [.int .u8 c.toNat, .bool false, .bool file, .int .i64 cl] rfl ?_)
  intro W B hid
  have hB : AtV S0 w0 (B :: x) b σ vi vo vu vn vd W := by obtain ⟨rfl, rfl⟩ := hid.out; exact hV.boxed _
  have hblk : Blk W B 118 [.int .u8 c.toNat, .bool false, .bool file, .int .i64 cl] := by obtain ⟨rfl, rfl⟩ := hid.out; exact Blk.new w _ _
  clear hid hV
  have k2 := hB.cl
  have k0 := hB.ci
  obtain ⟨oi, hsi, _, _, _⟩ := hB.lens_inq
  obtain ⟨ai, ci, rfl, hl1, hl2⟩ := hsi.shape
  have k17 := hB.c17
  have b1 := hblk.cell 1 rfl
  have hil := ok.inq
  have HI : Hid (Inv K σ) := ok
  clear ok hsi hblk
  by_cases hbell : bit σ.i 4096 = true
  · have HT : Hid (lost σ = (σ.put [7]).1) := by show lost σ = _; unfold lost St.I; rw [if_pos hbell]
    go_wp2_with (first | (go_at_call 89; refine (local_any b σ.l _ _ k2 l0 l1 (by omega) (by omega)).mono ?_; rintro e w' ⟨rfl, rfl⟩) | (go_at_call 124; refine (in_any b σ.i _ _ k0 i0' i1' (by omega) (by omega)).mono ?_; rintro e w' ⟨rfl, rfl⟩))
    refine (Put_new S0 w0 (B :: x) b σ _ K hB.r HI.out hK [7] (by simp) _ rfl _ rfl).mono ?_
    rintro e W2 ⟨rfl, hW⟩
    go_wp2
    refine bodyPost_ret (results_none rfl _ _ _) rfl ?_
    exact ⟨rfl, by rw [HT.out]; exact hW.weaken fun g hg => by simp [hg]⟩
  · have hb' : bit σ.i 4096 = false := by simpa using hbell
    have HT : Hid (lost σ = σ) := by show lost σ = _; unfold lost St.I; rw [if_neg hbell]
    clear hbell
    go_wp2_with (first | (go_at_call 89; refine (local_any b σ.l _ _ k2 l0 l1 (by omega) (by omega)).mono ?_; rintro e w' ⟨rfl, rfl⟩) | (go_at_call 124; refine (in_any b σ.i _ _ k0 i0' i1' (by omega) (by omega)).mono ?_; rintro e w' ⟨rfl, rfl⟩))
    refine bodyPost_ret (results_none rfl _ _ _) rfl ?_
    exact ⟨rfl, by rw [HT.out]; exact hB.r.weaken fun g hg => by simp [hg]⟩

set_option maxHeartbeats 2000000 in
set_option maxRecDepth 100000 in
theorem lays_file_a (h : AtR S0 w0 x b σ w) (ok : Inv K σ) (_hK : K ≤ 1099511627776) (c : UInt8) (fin : Bool) (cl : Int) (h2 : bit σ.l 2 = false) (hroom : σ.inq.length < 256) :
    Calls Tryz.prog 147 #[.pointer (some ⟨b, 0, none⟩), .agg #[.int .u8 c.toNat, .bool fin, .bool true, .int .i64 cl]] w fun r w' => r = .returned (.tuple #[]) ∧ AtR S0 w0 x b { σ with inq := σ.inq ++ [⟨c, fin, true, cl⟩], wait := 0 } w' := by
  obtain ⟨t0, hi, hz0, hz1, hz2⟩ := info_parts info_ent
  obtain ⟨vi, vo, vu, vn, vd, hV⟩ := h
  have l0 := ok.ok.l0; have l1 := ok.ok.l1
  go_enter Tryz.func147, Tryz.ntmps147
  go_wp2_with (refine wpList_box rfl (.tmp 1) 118 rfl [.int .u8 c.toNat, .bool fin, .bool true, .int .i64 cl] rfl ?_)
  intro W B hid
  have hB : AtV S0 w0 (B :: x) b σ vi vo vu vn vd W := by obtain ⟨rfl, rfl⟩ := hid.out; exact hV.boxed _
  have hblk : Blk W B 118 [.int .u8 c.toNat, .bool fin, .bool true, .int .i64 cl] := by obtain ⟨rfl, rfl⟩ := hid.out; exact Blk.new w _ _
  have hB0 : w0.heap.size ≤ B := by obtain ⟨rfl, rfl⟩ := hid.out; exact hV.2.kp.size
  clear hid hV
  have k2 := hB.cl
  obtain ⟨oi, hsi, _, _, _⟩ := hB.lens_inq
  obtain ⟨ai, ci, rfl, hl1, hl2⟩ := hsi.shape
  have k17 := hB.c17
  have b0 := hblk.cell 0 rfl
  have b1 := hblk.cell 1 rfl
  have b2 := hblk.cell 2 rfl
  have hil := ok.inq
  have HI : Hid (Inv K σ) := ok
  clear ok hsi
  have b3 := hblk.cell 3 rfl
  have hVW := hB
  have hsi := hVW.lens_inq
  obtain ⟨oi, hsi, _, _, _⟩ := hsi
  clear hB
  go_wp2_with (first | (go_at_call 89; refine (local_any b σ.l _ _ k2 l0 l1 (by omega) (by omega)).mono ?_; rintro e w' ⟨rfl, rfl⟩) | (at_builtin; refine wpList_append_sl rfl (.tmp 39) (.tmp 43) 101 101 rfl (Sl.nil _ 118 4) rfl t0 (.agg #[.int .u8 0, .bool false, .bool false, .int .i64 0]) 16 Tryz.underlying101 hi hz0 hz1 hz2 rfl (.slice ai σ.inq.length ci) σ.inq.length (ents σ.inq) rfl ?src ?b1 ?b2 ?next))
  case src => exact hsi.src Tryz.underlying101 (ents_one _)
  case b1 => unfold maxLen; omega
  case b2 => omega
  case next =>
    intro a' cap' w1 oc hs1 hg1 ho1
    have hblk1 := hblk.grown hg1 (by simp)
    have hbel : ∀ g, g ∈ x → g < w1.heap.size ∧ ∀ k, oc = some k → g ≠ k := fun g hg => ⟨Nat.lt_of_lt_of_le (hVW.2.below (by simp [hg])) hg1.size, fun k hk e => by have := hVW.2.below (g := g) (by simp [hg]); rcases ho1 with h | ⟨h, _⟩ <;> rw [h] at hk <;> cases hk; omega⟩
    have hoc : ∀ g, oc = some g → w0.heap.size ≤ g := fun g e => by have := hVW.2.kp.size; rcases ho1 with h | ⟨h, _⟩ <;> rw [h] at e <;> cases e; exact this
    have hV1 := hVW.fresh hg1 ho1
    clear hVW hsi hg1 ho1 hblk b0 b1 b2 b3 k17 k2
    have d0 := hblk1.cell 0 rfl
    have d1 := hblk1.cell 1 rfl
    have d2 := hblk1.cell 2 rfl
    have d3 := hblk1.cell 3 rfl
    have hlB := hblk1.lt
    clear hblk1
    have hV2 := hV1.alloc (.cells #[.int .u8 c.toNat, .bool fin, .bool true, .int .i64 cl] 118)
    have hs1' := hs1.alloc (.cells #[.int .u8 c.toNat, .bool fin, .bool true, .int .i64 cl] 118)
    clear hs1
    have hb1 := hV1.lt
    go_wp2_with (at_builtin; refine wpList_append_sl rfl (.tmp 46) (.tmp 48) 101 101 rfl hs1' rfl t0 (.agg #[.int .u8 0, .bool false, .bool false, .int .i64 0]) 16 Tryz.underlying101 hi hz0 hz1 hz2 rfl (.slice (some ⟨w1.heap.size, 0, none⟩) 1 1) 1 [.int .u8 c.toNat, .bool fin, .bool true, .int .i64 cl] rfl ?src2 ?b12 ?b22 ?next2)
    case src2 => exact (Sl.made w1 [.int .u8 c.toNat, .bool fin, .bool true, .int .i64 cl] 1 118 4 rfl (by simp [maxLen])).src Tryz.underlying101 (by intro u hu; simp at hu; rcases hu with rfl | rfl | rfl | rfl <;> rfl)
    case b12 => unfold maxLen; omega
    case b22 => omega
    case next2 =>
      intro a2 cap2 w2 oc2 hs2 hg2 ho2
      have hV3 := hV2.local (x := B :: x) hg2 (ol' := oc2) (by simpa using ho2) hoc
      have HA : Hid (∀ g, oc2 = some g → (g ∈ oc2.toList ++ B :: x) ∧ (g ∈ S0 ∨ w0.heap.size ≤ g) ∧ g ∉ x) := by
        intro g e
        have hk := hV1.2.kp.size
        rcases ho2 with h1 | ⟨h1, _⟩
        · rw [h1] at e
          exact ⟨by simp [h1, e], .inr (hoc g e), fun hc => (hbel g hc).2 g e rfl⟩
        · rw [h1] at e; cases e
          refine ⟨by simp [h1], .inr (by first | omega | (simp; omega)), fun hc => ?_⟩
          have := (hbel _ hc).1
          first | omega | (simp at this)
      have hS3 : Sl w2 118 4 (.slice a2 (σ.inq.length + 1) cap2) (σ.inq ++ [(⟨c, fin, true, cl⟩ : Ent)]).length (ents (σ.inq ++ [(⟨c, fin, true, cl⟩ : Ent)])) oc2 := by
        rw [ents_app, List.length_append]; exact hs2
      have hV4 := hV3.adopt_inq (.slice a2 (σ.inq.length + 1) cap2) (σ.inq ++ [(⟨c, fin, true, cl⟩ : Ent)]) oc2 x hS3 HA.out (fun z hz => by simp [hz])
      have k17 := hV3.c17
      have f17 := hV3.frozen 17
      have k29 := hV3.c29
      have f29 := hV3.frozen 29
      have hR := (hV4.s_wait 0).r
      clear hV1 hV2 hV3 hV4 hS3 hs2 hg2 ho2 HA hs1' hbel hoc d0 d1 d2 d3
      go_wp2
      go_end0
      exact ⟨rfl, hR⟩

set_option maxHeartbeats 2000000 in
set_option maxRecDepth 100000 in
theorem lays_file_b (h : AtR S0 w0 x b σ w) (ok : Inv K σ) (_hK : K ≤ 1099511627776) (c : UInt8)  (cl : Int) (h2 : bit σ.l 2 = true) (hroom : σ.inq.length < 256) :
    Calls Tryz.prog 147 #[.pointer (some ⟨b, 0, none⟩), .agg #[.int .u8 c.toNat, .bool true, .bool true, .int .i64 cl]] w fun r w' => r = .returned (.tuple #[]) ∧ AtR S0 w0 x b { σ with inq := σ.inq ++ [⟨c, true, true, cl⟩], wait := 0 } w' := by
  obtain ⟨t0, hi, hz0, hz1, hz2⟩ := info_parts info_ent
  obtain ⟨vi, vo, vu, vn, vd, hV⟩ := h
  have l0 := ok.ok.l0; have l1 := ok.ok.l1
  go_enter Tryz.func147, Tryz.ntmps147
  go_wp2_with (refine wpList_box rfl (.tmp 1) 118 rfl [.int .u8 c.toNat, .bool true, .bool true, .int .i64 cl] rfl ?_)
  intro W B hid
  have hB : AtV S0 w0 (B :: x) b σ vi vo vu vn vd W := by obtain ⟨rfl, rfl⟩ := hid.out; exact hV.boxed _
  have hblk : Blk W B 118 [.int .u8 c.toNat, .bool true, .bool true, .int .i64 cl] := by obtain ⟨rfl, rfl⟩ := hid.out; exact Blk.new w _ _
  have hB0 : w0.heap.size ≤ B := by obtain ⟨rfl, rfl⟩ := hid.out; exact hV.2.kp.size
  clear hid hV
  have k2 := hB.cl
  obtain ⟨oi, hsi, _, _, _⟩ := hB.lens_inq
  obtain ⟨ai, ci, rfl, hl1, hl2⟩ := hsi.shape
  have k17 := hB.c17
  have b0 := hblk.cell 0 rfl
  have b1 := hblk.cell 1 rfl
  have b2 := hblk.cell 2 rfl
  have hil := ok.inq
  have HI : Hid (Inv K σ) := ok
  clear ok hsi
  have b3 := hblk.cell 3 rfl
  have hVW := hB
  have hsi := hVW.lens_inq
  obtain ⟨oi, hsi, _, _, _⟩ := hsi
  clear hB
  go_wp2_with (first | (go_at_call 89; refine (local_any b σ.l _ _ k2 l0 l1 (by omega) (by omega)).mono ?_; rintro e w' ⟨rfl, rfl⟩) | (at_builtin; refine wpList_append_sl rfl (.tmp 39) (.tmp 43) 101 101 rfl (Sl.nil _ 118 4) rfl t0 (.agg #[.int .u8 0, .bool false, .bool false, .int .i64 0]) 16 Tryz.underlying101 hi hz0 hz1 hz2 rfl (.slice ai σ.inq.length ci) σ.inq.length (ents σ.inq) rfl ?src ?b1 ?b2 ?next))
  case src => exact hsi.src Tryz.underlying101 (ents_one _)
  case b1 => unfold maxLen; omega
  case b2 => omega
  case next =>
    intro a' cap' w1 oc hs1 hg1 ho1
    have hblk1 := hblk.grown hg1 (by simp)
    have hbel : ∀ g, g ∈ x → g < w1.heap.size ∧ ∀ k, oc = some k → g ≠ k := fun g hg => ⟨Nat.lt_of_lt_of_le (hVW.2.below (by simp [hg])) hg1.size, fun k hk e => by have := hVW.2.below (g := g) (by simp [hg]); rcases ho1 with h | ⟨h, _⟩ <;> rw [h] at hk <;> cases hk; omega⟩
    have hoc : ∀ g, oc = some g → w0.heap.size ≤ g := fun g e => by have := hVW.2.kp.size; rcases ho1 with h | ⟨h, _⟩ <;> rw [h] at e <;> cases e; exact this
    have hV1 := hVW.fresh hg1 ho1
    clear hVW hsi hg1 ho1 hblk b0 b1 b2 b3 k17 k2
    have d0 := hblk1.cell 0 rfl
    have d1 := hblk1.cell 1 rfl
    have d2 := hblk1.cell 2 rfl
    have d3 := hblk1.cell 3 rfl
    have hlB := hblk1.lt
    clear hblk1
    have hV2 := hV1.alloc (.cells #[.int .u8 c.toNat, .bool true, .bool true, .int .i64 cl] 118)
    have hs1' := hs1.alloc (.cells #[.int .u8 c.toNat, .bool true, .bool true, .int .i64 cl] 118)
    clear hs1
    have hb1 := hV1.lt
    go_wp2_with (at_builtin; refine wpList_append_sl rfl (.tmp 46) (.tmp 48) 101 101 rfl hs1' rfl t0 (.agg #[.int .u8 0, .bool false, .bool false, .int .i64 0]) 16 Tryz.underlying101 hi hz0 hz1 hz2 rfl (.slice (some ⟨w1.heap.size, 0, none⟩) 1 1) 1 [.int .u8 c.toNat, .bool true, .bool true, .int .i64 cl] rfl ?src2 ?b12 ?b22 ?next2)
    case src2 => exact (Sl.made w1 [.int .u8 c.toNat, .bool true, .bool true, .int .i64 cl] 1 118 4 rfl (by simp [maxLen])).src Tryz.underlying101 (by intro u hu; simp at hu; rcases hu with rfl | rfl | rfl | rfl <;> rfl)
    case b12 => unfold maxLen; omega
    case b22 => omega
    case next2 =>
      intro a2 cap2 w2 oc2 hs2 hg2 ho2
      have hV3 := hV2.local (x := B :: x) hg2 (ol' := oc2) (by simpa using ho2) hoc
      have HA : Hid (∀ g, oc2 = some g → (g ∈ oc2.toList ++ B :: x) ∧ (g ∈ S0 ∨ w0.heap.size ≤ g) ∧ g ∉ x) := by
        intro g e
        have hk := hV1.2.kp.size
        rcases ho2 with h1 | ⟨h1, _⟩
        · rw [h1] at e
          exact ⟨by simp [h1, e], .inr (hoc g e), fun hc => (hbel g hc).2 g e rfl⟩
        · rw [h1] at e; cases e
          refine ⟨by simp [h1], .inr (by first | omega | (simp; omega)), fun hc => ?_⟩
          have := (hbel _ hc).1
          first | omega | (simp at this)
      have hS3 : Sl w2 118 4 (.slice a2 (σ.inq.length + 1) cap2) (σ.inq ++ [(⟨c, true, true, cl⟩ : Ent)]).length (ents (σ.inq ++ [(⟨c, true, true, cl⟩ : Ent)])) oc2 := by
        rw [ents_app, List.length_append]; exact hs2
      have hV4 := hV3.adopt_inq (.slice a2 (σ.inq.length + 1) cap2) (σ.inq ++ [(⟨c, true, true, cl⟩ : Ent)]) oc2 x hS3 HA.out (fun z hz => by simp [hz])
      have k17 := hV3.c17
      have f17 := hV3.frozen 17
      have k29 := hV3.c29
      have f29 := hV3.frozen 29
      have hR := (hV4.s_wait 0).r
      clear hV1 hV2 hV3 hV4 hS3 hs2 hg2 ho2 HA hs1' hbel hoc d0 d1 d2 d3
      go_wp2
      go_end0
      exact ⟨rfl, hR⟩

set_option maxHeartbeats 2000000 in
set_option maxRecDepth 100000 in
theorem lays_file_c (h : AtR S0 w0 x b σ w) (ok : Inv K σ) (_hK : K ≤ 1099511627776) (c : UInt8)  (cl : Int) (h2 : bit σ.l 2 = true) (hroom : σ.inq.length < 255) :
    Calls Tryz.prog 147 #[.pointer (some ⟨b, 0, none⟩), .agg #[.int .u8 c.toNat, .bool false, .bool true, .int .i64 cl]] w fun r w' => r = .returned (.tuple #[]) ∧ AtR S0 w0 x b { σ with inq := σ.inq ++ [⟨c, false, true, cl⟩], wait := 0 } w' := by
  obtain ⟨t0, hi, hz0, hz1, hz2⟩ := info_parts info_ent
  obtain ⟨vi, vo, vu, vn, vd, hV⟩ := h
  have l0 := ok.ok.l0; have l1 := ok.ok.l1
  go_enter Tryz.func147, Tryz.ntmps147
  go_wp2_with (refine wpList_box rfl (.tmp 1) 118 rfl [.int .u8 c.toNat, .bool false, .bool true, .int .i64 cl] rfl ?_)
  intro W B hid
  have hB : AtV S0 w0 (B :: x) b σ vi vo vu vn vd W := by obtain ⟨rfl, rfl⟩ := hid.out; exact hV.boxed _
  have hblk : Blk W B 118 [.int .u8 c.toNat, .bool false, .bool true, .int .i64 cl] := by obtain ⟨rfl, rfl⟩ := hid.out; exact Blk.new w _ _
  have hB0 : w0.heap.size ≤ B := by obtain ⟨rfl, rfl⟩ := hid.out; exact hV.2.kp.size
  clear hid hV
  have k2 := hB.cl
  obtain ⟨oi, hsi, _, _, _⟩ := hB.lens_inq
  obtain ⟨ai, ci, rfl, hl1, hl2⟩ := hsi.shape
  have k17 := hB.c17
  have b0 := hblk.cell 0 rfl
  have b1 := hblk.cell 1 rfl
  have b2 := hblk.cell 2 rfl
  have hil := ok.inq
  have HI : Hid (Inv K σ) := ok
  clear ok hsi
  have b3 := hblk.cell 3 rfl
  have hVW := hB
  have hsi := hVW.lens_inq
  obtain ⟨oi, hsi, _, _, _⟩ := hsi
  clear hB
  go_wp2_with (first | (go_at_call 89; refine (local_any b σ.l _ _ k2 l0 l1 (by omega) (by omega)).mono ?_; rintro e w' ⟨rfl, rfl⟩) | (at_builtin; refine wpList_append_sl rfl (.tmp 39) (.tmp 43) 101 101 rfl (Sl.nil _ 118 4) rfl t0 (.agg #[.int .u8 0, .bool false, .bool false, .int .i64 0]) 16 Tryz.underlying101 hi hz0 hz1 hz2 rfl (.slice ai σ.inq.length ci) σ.inq.length (ents σ.inq) rfl ?src ?b1 ?b2 ?next))
  case src => exact hsi.src Tryz.underlying101 (ents_one _)
  case b1 => unfold maxLen; omega
  case b2 => omega
  case next =>
    intro a' cap' w1 oc hs1 hg1 ho1
    have hblk1 := hblk.grown hg1 (by simp)
    have hbel : ∀ g, g ∈ x → g < w1.heap.size ∧ ∀ k, oc = some k → g ≠ k := fun g hg => ⟨Nat.lt_of_lt_of_le (hVW.2.below (by simp [hg])) hg1.size, fun k hk e => by have := hVW.2.below (g := g) (by simp [hg]); rcases ho1 with h | ⟨h, _⟩ <;> rw [h] at hk <;> cases hk; omega⟩
    have hoc : ∀ g, oc = some g → w0.heap.size ≤ g := fun g e => by have := hVW.2.kp.size; rcases ho1 with h | ⟨h, _⟩ <;> rw [h] at e <;> cases e; exact this
    have hV1 := hVW.fresh hg1 ho1
    clear hVW hsi hg1 ho1 hblk b0 b1 b2 b3 k17 k2
    have d0 := hblk1.cell 0 rfl
    have d1 := hblk1.cell 1 rfl
    have d2 := hblk1.cell 2 rfl
    have d3 := hblk1.cell 3 rfl
    have hlB := hblk1.lt
    clear hblk1
    have hV2 := hV1.alloc (.cells #[.int .u8 c.toNat, .bool false, .bool true, .int .i64 cl] 118)
    have hs1' := hs1.alloc (.cells #[.int .u8 c.toNat, .bool false, .bool true, .int .i64 cl] 118)
    clear hs1
    have hb1 := hV1.lt
    go_wp2_with (at_builtin; refine wpList_append_sl rfl (.tmp 46) (.tmp 48) 101 101 rfl hs1' rfl t0 (.agg #[.int .u8 0, .bool false, .bool false, .int .i64 0]) 16 Tryz.underlying101 hi hz0 hz1 hz2 rfl (.slice (some ⟨w1.heap.size, 0, none⟩) 1 1) 1 [.int .u8 c.toNat, .bool false, .bool true, .int .i64 cl] rfl ?src2 ?b12 ?b22 ?next2)
    case src2 => exact (Sl.made w1 [.int .u8 c.toNat, .bool false, .bool true, .int .i64 cl] 1 118 4 rfl (by simp [maxLen])).src Tryz.underlying101 (by intro u hu; simp at hu; rcases hu with rfl | rfl | rfl | rfl <;> rfl)
    case b12 => unfold maxLen; omega
    case b22 => omega
    case next2 =>
      intro a2 cap2 w2 oc2 hs2 hg2 ho2
      have hV3 := hV2.local (x := B :: x) hg2 (ol' := oc2) (by simpa using ho2) hoc
      have HA : Hid (∀ g, oc2 = some g → (g ∈ oc2.toList ++ B :: x) ∧ (g ∈ S0 ∨ w0.heap.size ≤ g) ∧ g ∉ x) := by
        intro g e
        have hk := hV1.2.kp.size
        rcases ho2 with h1 | ⟨h1, _⟩
        · rw [h1] at e
          exact ⟨by simp [h1, e], .inr (hoc g e), fun hc => (hbel g hc).2 g e rfl⟩
        · rw [h1] at e; cases e
          refine ⟨by simp [h1], .inr (by first | omega | (simp; omega)), fun hc => ?_⟩
          have := (hbel _ hc).1
          first | omega | (simp at this)
      have hS3 : Sl w2 118 4 (.slice a2 (σ.inq.length + 1) cap2) (σ.inq ++ [(⟨c, false, true, cl⟩ : Ent)]).length (ents (σ.inq ++ [(⟨c, false, true, cl⟩ : Ent)])) oc2 := by
        rw [ents_app, List.length_append]; exact hs2
      have hV4 := hV3.adopt_inq (.slice a2 (σ.inq.length + 1) cap2) (σ.inq ++ [(⟨c, false, true, cl⟩ : Ent)]) oc2 x hS3 HA.out (fun z hz => by simp [hz])
      have k17 := hV3.c17
      have f17 := hV3.frozen 17
      have k29 := hV3.c29
      have f29 := hV3.frozen 29
      have hR := (hV4.s_wait 0).r
      clear hV1 hV2 hV3 hV4 hS3 hs2 hg2 ho2 HA hs1' hbel hoc d0 d1 d2 d3
      go_wp2
      go_end0
      exact ⟨rfl, hR⟩

set_option maxHeartbeats 2000000 in
set_option maxRecDepth 100000 in
theorem lays_byte_a (h : AtR S0 w0 x b σ w) (ok : Inv K σ) (hK : K ≤ 1099511627776) (c : UInt8) (fin : Bool) (cl : Int) (h2 : bit σ.l 2 = false) (hroom : σ.inq.length < 256) :
    Calls Tryz.prog 147 #[.pointer (some ⟨b, 0, none⟩), .agg #[.int .u8 c.toNat, .bool fin, .bool false, .int .i64 cl]] w fun r w' => r = .returned (.tuple #[]) ∧ AtR S0 w0 x b { σ.echo1 c with inq := σ.inq ++ [⟨c, fin, false, σ.cellsOf c⟩], wait := 0 } w' := by
  obtain ⟨t0, hi, hz0, hz1, hz2⟩ := info_parts info_ent
  obtain ⟨vi, vo, vu, vn, vd, hV⟩ := h
  have l0 := ok.ok.l0; have l1 := ok.ok.l1
  go_enter Tryz.func147, Tryz.ntmps147
  go_wp2_with (refine wpList_box rfl (.tmp 1) 118 rfl [.int .u8 c.toNat, .bool fin, .bool false, .int .i64 cl] rfl ?_)
  intro W B hid
  have hB : AtV S0 w0 (B :: x) b σ vi vo vu vn vd W := by obtain ⟨rfl, rfl⟩ := hid.out; exact hV.boxed _
  have hblk : Blk W B 118 [.int .u8 c.toNat, .bool fin, .bool false, .int .i64 cl] := by obtain ⟨rfl, rfl⟩ := hid.out; exact Blk.new w _ _
  have hB0 : w0.heap.size ≤ B := by obtain ⟨rfl, rfl⟩ := hid.out; exact hV.2.kp.size
  clear hid hV
  have k2 := hB.cl
  obtain ⟨oi, hsi, _, _, _⟩ := hB.lens_inq
  obtain ⟨ai, ci, rfl, hl1, hl2⟩ := hsi.shape
  have k17 := hB.c17
  have b0 := hblk.cell 0 rfl
  have b1 := hblk.cell 1 rfl
  have b2 := hblk.cell 2 rfl
  have hil := ok.inq
  have HI : Hid (Inv K σ) := ok
  clear ok hsi
  go_wp2_with (go_at_call 89; refine (local_any b σ.l _ _ k2 l0 l1 (by omega) (by omega)).mono ?_; rintro e w' ⟨rfl, rfl⟩)
  obtain ⟨S, hSR, hS1, hS2, hS3, hback⟩ := hB.r.rebase
  have hBS : B ∉ S := hS2 B (by simp)
  refine (Echo_any S _ (B :: x) b σ _ K hSR HI.out hK c _ rfl).mono ?_
  rintro e V ⟨rfl, hE⟩
  have hblkV := hE.kp.blk hblk hBS
  obtain ⟨yi, yo, yu, yn, yd, hV0⟩ := hback _ _ hE
  have hVW := hV0.poke (g := B) (by simp) hB0 3 (.int .i64 (σ.cellsOf c))
  have hblkW := hblkV.set 3 (.int .i64 (σ.cellsOf c))
  have b3 := hblkV.cell 3 rfl
  have f3 := hblkV.frozen 3
  clear hback hE hSR hS1 hS2 hS3 hBS hB k17 b0 b1 b2 k2 hblk hblkV hV0
  obtain ⟨o9, c9, hfr⟩ := echo1_frame σ c
  rw [hfr] at hVW
  have HF : Hid (σ.echo1 c = { σ with out := o9, col := c9 }) := hfr
  clear hfr
  obtain ⟨oi, hsi, _, _, _⟩ := hVW.lens_inq
  obtain ⟨ai, ci, rfl, hl1, hl2⟩ := hsi.shape
  dsimp only at hsi hl1 hl2
  have k17 := hVW.c17
  dsimp only at k17
  have b30 := hblkW.cell 0 rfl
  have b31 := hblkW.cell 1 rfl
  have b32 := hblkW.cell 2 rfl
  have b33 := hblkW.cell 3 rfl
  have hlV := hVW.lt
  go_wp2_with (at_builtin; refine wpList_append_sl rfl (.tmp 39) (.tmp 43) 101 101 rfl (Sl.nil _ 118 4) rfl t0 (.agg #[.int .u8 0, .bool false, .bool false, .int .i64 0]) 16 Tryz.underlying101 hi hz0 hz1 hz2 rfl (.slice ai σ.inq.length ci) σ.inq.length (ents σ.inq) rfl ?src ?b1 ?b2 ?next)
  case src => exact hsi.src Tryz.underlying101 (ents_one _)
  case b1 => unfold maxLen; omega
  case b2 => omega
  case next =>
    intro a' cap' w1 oc hs1 hg1 ho1
    have hsz : (V.setCell ⟨B, 3, none⟩ (.int .i64 (σ.cellsOf c))).heap.size = V.heap.size := by simp
    rw [← hsz] at ho1
    have hblk1 := hblkW.grown hg1 (by simp)
    simp only [List.set_cons_succ, List.set_cons_zero] at hblk1
    have hbel : ∀ g, g ∈ x → g < w1.heap.size ∧ ∀ k, oc = some k → g ≠ k := fun g hg => ⟨Nat.lt_of_lt_of_le (hVW.2.below (by simp [hg])) hg1.size, fun k hk e => by have := hVW.2.below (g := g) (by simp [hg]); rcases ho1 with h | ⟨h, _⟩ <;> rw [h] at hk <;> cases hk; omega⟩
    have hoc : ∀ g, oc = some g → w0.heap.size ≤ g := fun g e => by have := hVW.2.kp.size; rcases ho1 with h | ⟨h, _⟩ <;> rw [h] at e <;> cases e; exact this
    have hV1 := hVW.fresh hg1 ho1
    clear hVW hsi hg1 ho1 hblkW b30 b31 b32 b33 k17 b3 f3
    have d0 := hblk1.cell 0 rfl
    have d1 := hblk1.cell 1 rfl
    have d2 := hblk1.cell 2 rfl
    have d3 := hblk1.cell 3 rfl
    have hlB := hblk1.lt
    clear hblk1
    have hV2 := hV1.alloc (.cells #[.int .u8 c.toNat, .bool fin, .bool false, .int .i64 (σ.cellsOf c)] 118)
    have hs1' := hs1.alloc (.cells #[.int .u8 c.toNat, .bool fin, .bool false, .int .i64 (σ.cellsOf c)] 118)
    clear hs1
    have hb1 := hV1.lt
    go_wp2_with (at_builtin; refine wpList_append_sl rfl (.tmp 46) (.tmp 48) 101 101 rfl hs1' rfl t0 (.agg #[.int .u8 0, .bool false, .bool false, .int .i64 0]) 16 Tryz.underlying101 hi hz0 hz1 hz2 rfl (.slice (some ⟨w1.heap.size, 0, none⟩) 1 1) 1 [.int .u8 c.toNat, .bool fin, .bool false, .int .i64 (σ.cellsOf c)] rfl ?src2 ?b12 ?b22 ?next2)
    case src2 => exact (Sl.made w1 [.int .u8 c.toNat, .bool fin, .bool false, .int .i64 (σ.cellsOf c)] 1 118 4 rfl (by simp [maxLen])).src Tryz.underlying101 (by intro u hu; simp at hu; rcases hu with rfl | rfl | rfl | rfl <;> rfl)
    case b12 => unfold maxLen; omega
    case b22 => omega
    case next2 =>
      intro a2 cap2 w2 oc2 hs2 hg2 ho2
      have hV3 := hV2.local (x := B :: x) hg2 (ol' := oc2) (by simpa using ho2) hoc
      have HA : Hid (∀ g, oc2 = some g → (g ∈ oc2.toList ++ B :: x) ∧ (g ∈ S0 ∨ w0.heap.size ≤ g) ∧ g ∉ x) := by
        intro g e
        have hk := hV1.2.kp.size
        rcases ho2 with h1 | ⟨h1, _⟩
        · rw [h1] at e
          exact ⟨by simp [h1, e], .inr (hoc g e), fun hc => (hbel g hc).2 g e rfl⟩
        · rw [h1] at e; cases e
          refine ⟨by simp [h1], .inr (by first | omega | (simp; omega)), fun hc => ?_⟩
          have := (hbel _ hc).1
          first | omega | (simp at this)
      have hS3 : Sl w2 118 4 (.slice a2 (σ.inq.length + 1) cap2) (σ.inq ++ [(⟨c, fin, false, (σ.cellsOf c)⟩ : Ent)]).length (ents (σ.inq ++ [(⟨c, fin, false, (σ.cellsOf c)⟩ : Ent)])) oc2 := by
        rw [ents_app, List.length_append]; exact hs2
      have hV4 := hV3.adopt_inq (.slice a2 (σ.inq.length + 1) cap2) (σ.inq ++ [(⟨c, fin, false, (σ.cellsOf c)⟩ : Ent)]) oc2 x hS3 HA.out (fun z hz => by simp [hz])
      have k17 := hV3.c17
      have f17 := hV3.frozen 17
      have k29 := hV3.c29
      have f29 := hV3.frozen 29
      have hR := (hV4.s_wait 0).r
      clear hV1 hV2 hV3 hV4 hS3 hs2 hg2 ho2 HA hs1' hbel hoc d0 d1 d2 d3
      go_wp2
      go_end0
      exact ⟨rfl, by rw [HF.out]; exact hR⟩

set_option maxHeartbeats 2000000 in
set_option maxRecDepth 100000 in
theorem lays_byte_b (h : AtR S0 w0 x b σ w) (ok : Inv K σ) (hK : K ≤ 1099511627776) (c : UInt8)  (cl : Int) (h2 : bit σ.l 2 = true) (hroom : σ.inq.length < 256) :
    Calls Tryz.prog 147 #[.pointer (some ⟨b, 0, none⟩), .agg #[.int .u8 c.toNat, .bool true, .bool false, .int .i64 cl]] w fun r w' => r = .returned (.tuple #[]) ∧ AtR S0 w0 x b { σ.echo1 c with inq := σ.inq ++ [⟨c, true, false, σ.cellsOf c⟩], wait := 0 } w' := by
  obtain ⟨t0, hi, hz0, hz1, hz2⟩ := info_parts info_ent
  obtain ⟨vi, vo, vu, vn, vd, hV⟩ := h
  have l0 := ok.ok.l0; have l1 := ok.ok.l1
  go_enter Tryz.func147, Tryz.ntmps147
  go_wp2_with (refine wpList_box rfl (.tmp 1) 118 rfl [.int .u8 c.toNat, .bool true, .bool false, .int .i64 cl] rfl ?_)
  intro W B hid
  have hB : AtV S0 w0 (B :: x) b σ vi vo vu vn vd W := by obtain ⟨rfl, rfl⟩ := hid.out; exact hV.boxed _
  have hblk : Blk W B 118 [.int .u8 c.toNat, .bool true, .bool false, .int .i64 cl] := by obtain ⟨rfl, rfl⟩ := hid.out; exact Blk.new w _ _
  have hB0 : w0.heap.size ≤ B := by obtain ⟨rfl, rfl⟩ := hid.out; exact hV.2.kp.size
  clear hid hV
  have k2 := hB.cl
  obtain ⟨oi, hsi, _, _, _⟩ := hB.lens_inq
  obtain ⟨ai, ci, rfl, hl1, hl2⟩ := hsi.shape
  have k17 := hB.c17
  have b0 := hblk.cell 0 rfl
  have b1 := hblk.cell 1 rfl
  have b2 := hblk.cell 2 rfl
  have hil := ok.inq
  have HI : Hid (Inv K σ) := ok
  clear ok hsi
  go_wp2_with (go_at_call 89; refine (local_any b σ.l _ _ k2 l0 l1 (by omega) (by omega)).mono ?_; rintro e w' ⟨rfl, rfl⟩)
  obtain ⟨S, hSR, hS1, hS2, hS3, hback⟩ := hB.r.rebase
  have hBS : B ∉ S := hS2 B (by simp)
  refine (Echo_any S _ (B :: x) b σ _ K hSR HI.out hK c _ rfl).mono ?_
  rintro e V ⟨rfl, hE⟩
  have hblkV := hE.kp.blk hblk hBS
  obtain ⟨yi, yo, yu, yn, yd, hV0⟩ := hback _ _ hE
  have hVW := hV0.poke (g := B) (by simp) hB0 3 (.int .i64 (σ.cellsOf c))
  have hblkW := hblkV.set 3 (.int .i64 (σ.cellsOf c))
  have b3 := hblkV.cell 3 rfl
  have f3 := hblkV.frozen 3
  clear hback hE hSR hS1 hS2 hS3 hBS hB k17 b0 b1 b2 k2 hblk hblkV hV0
  obtain ⟨o9, c9, hfr⟩ := echo1_frame σ c
  rw [hfr] at hVW
  have HF : Hid (σ.echo1 c = { σ with out := o9, col := c9 }) := hfr
  clear hfr
  obtain ⟨oi, hsi, _, _, _⟩ := hVW.lens_inq
  obtain ⟨ai, ci, rfl, hl1, hl2⟩ := hsi.shape
  dsimp only at hsi hl1 hl2
  have k17 := hVW.c17
  dsimp only at k17
  have b30 := hblkW.cell 0 rfl
  have b31 := hblkW.cell 1 rfl
  have b32 := hblkW.cell 2 rfl
  have b33 := hblkW.cell 3 rfl
  have hlV := hVW.lt
  go_wp2_with (at_builtin; refine wpList_append_sl rfl (.tmp 39) (.tmp 43) 101 101 rfl (Sl.nil _ 118 4) rfl t0 (.agg #[.int .u8 0, .bool false, .bool false, .int .i64 0]) 16 Tryz.underlying101 hi hz0 hz1 hz2 rfl (.slice ai σ.inq.length ci) σ.inq.length (ents σ.inq) rfl ?src ?b1 ?b2 ?next)
  case src => exact hsi.src Tryz.underlying101 (ents_one _)
  case b1 => unfold maxLen; omega
  case b2 => omega
  case next =>
    intro a' cap' w1 oc hs1 hg1 ho1
    have hsz : (V.setCell ⟨B, 3, none⟩ (.int .i64 (σ.cellsOf c))).heap.size = V.heap.size := by simp
    rw [← hsz] at ho1
    have hblk1 := hblkW.grown hg1 (by simp)
    simp only [List.set_cons_succ, List.set_cons_zero] at hblk1
    have hbel : ∀ g, g ∈ x → g < w1.heap.size ∧ ∀ k, oc = some k → g ≠ k := fun g hg => ⟨Nat.lt_of_lt_of_le (hVW.2.below (by simp [hg])) hg1.size, fun k hk e => by have := hVW.2.below (g := g) (by simp [hg]); rcases ho1 with h | ⟨h, _⟩ <;> rw [h] at hk <;> cases hk; omega⟩
    have hoc : ∀ g, oc = some g → w0.heap.size ≤ g := fun g e => by have := hVW.2.kp.size; rcases ho1 with h | ⟨h, _⟩ <;> rw [h] at e <;> cases e; exact this
    have hV1 := hVW.fresh hg1 ho1
    clear hVW hsi hg1 ho1 hblkW b30 b31 b32 b33 k17 b3 f3
    have d0 := hblk1.cell 0 rfl
    have d1 := hblk1.cell 1 rfl
    have d2 := hblk1.cell 2 rfl
    have d3 := hblk1.cell 3 rfl
    have hlB := hblk1.lt
    clear hblk1
    have hV2 := hV1.alloc (.cells #[.int .u8 c.toNat, .bool true, .bool false, .int .i64 (σ.cellsOf c)] 118)
    have hs1' := hs1.alloc (.cells #[.int .u8 c.toNat, .bool true, .bool false, .int .i64 (σ.cellsOf c)] 118)
    clear hs1
    have hb1 := hV1.lt
    go_wp2_with (at_builtin; refine wpList_append_sl rfl (.tmp 46) (.tmp 48) 101 101 rfl hs1' rfl t0 (.agg #[.int .u8 0, .bool false, .bool false, .int .i64 0]) 16 Tryz.underlying101 hi hz0 hz1 hz2 rfl (.slice (some ⟨w1.heap.size, 0, none⟩) 1 1) 1 [.int .u8 c.toNat, .bool true, .bool false, .int .i64 (σ.cellsOf c)] rfl ?src2 ?b12 ?b22 ?next2)
    case src2 => exact (Sl.made w1 [.int .u8 c.toNat, .bool true, .bool false, .int .i64 (σ.cellsOf c)] 1 118 4 rfl (by simp [maxLen])).src Tryz.underlying101 (by intro u hu; simp at hu; rcases hu with rfl | rfl | rfl | rfl <;> rfl)
    case b12 => unfold maxLen; omega
    case b22 => omega
    case next2 =>
      intro a2 cap2 w2 oc2 hs2 hg2 ho2
      have hV3 := hV2.local (x := B :: x) hg2 (ol' := oc2) (by simpa using ho2) hoc
      have HA : Hid (∀ g, oc2 = some g → (g ∈ oc2.toList ++ B :: x) ∧ (g ∈ S0 ∨ w0.heap.size ≤ g) ∧ g ∉ x) := by
        intro g e
        have hk := hV1.2.kp.size
        rcases ho2 with h1 | ⟨h1, _⟩
        · rw [h1] at e
          exact ⟨by simp [h1, e], .inr (hoc g e), fun hc => (hbel g hc).2 g e rfl⟩
        · rw [h1] at e; cases e
          refine ⟨by simp [h1], .inr (by first | omega | (simp; omega)), fun hc => ?_⟩
          have := (hbel _ hc).1
          first | omega | (simp at this)
      have hS3 : Sl w2 118 4 (.slice a2 (σ.inq.length + 1) cap2) (σ.inq ++ [(⟨c, true, false, (σ.cellsOf c)⟩ : Ent)]).length (ents (σ.inq ++ [(⟨c, true, false, (σ.cellsOf c)⟩ : Ent)])) oc2 := by
        rw [ents_app, List.length_append]; exact hs2
      have hV4 := hV3.adopt_inq (.slice a2 (σ.inq.length + 1) cap2) (σ.inq ++ [(⟨c, true, false, (σ.cellsOf c)⟩ : Ent)]) oc2 x hS3 HA.out (fun z hz => by simp [hz])
      have k17 := hV3.c17
      have f17 := hV3.frozen 17
      have k29 := hV3.c29
      have f29 := hV3.frozen 29
      have hR := (hV4.s_wait 0).r
      clear hV1 hV2 hV3 hV4 hS3 hs2 hg2 ho2 HA hs1' hbel hoc d0 d1 d2 d3
      go_wp2
      go_end0
      exact ⟨rfl, by rw [HF.out]; exact hR⟩

set_option maxHeartbeats 2000000 in
set_option maxRecDepth 100000 in
theorem lays_byte_c (h : AtR S0 w0 x b σ w) (ok : Inv K σ) (hK : K ≤ 1099511627776) (c : UInt8)  (cl : Int) (h2 : bit σ.l 2 = true) (hroom : σ.inq.length < 255) :
    Calls Tryz.prog 147 #[.pointer (some ⟨b, 0, none⟩), .agg #[.int .u8 c.toNat, .bool false, .bool false, .int .i64 cl]] w fun r w' => r = .returned (.tuple #[]) ∧ AtR S0 w0 x b { σ.echo1 c with inq := σ.inq ++ [⟨c, false, false, σ.cellsOf c⟩], wait := 0 } w' := by
  obtain ⟨t0, hi, hz0, hz1, hz2⟩ := info_parts info_ent
  obtain ⟨vi, vo, vu, vn, vd, hV⟩ := h
  have l0 := ok.ok.l0; have l1 := ok.ok.l1
  go_enter Tryz.func147, Tryz.ntmps147
  go_wp2_with (refine wpList_box rfl (.tmp 1) 118 rfl [.int .u8 c.toNat, .bool false, .bool false, .int .i64 cl] rfl ?_)
  intro W B hid
  have hB : AtV S0 w0 (B :: x) b σ vi vo vu vn vd W := by obtain ⟨rfl, rfl⟩ := hid.out; exact hV.boxed _
  have hblk : Blk W B 118 [.int .u8 c.toNat, .bool false, .bool false, .int .i64 cl] := by obtain ⟨rfl, rfl⟩ := hid.out; exact Blk.new w _ _
  have hB0 : w0.heap.size ≤ B := by obtain ⟨rfl, rfl⟩ := hid.out; exact hV.2.kp.size
  clear hid hV
  have k2 := hB.cl
  obtain ⟨oi, hsi, _, _, _⟩ := hB.lens_inq
  obtain ⟨ai, ci, rfl, hl1, hl2⟩ := hsi.shape
  have k17 := hB.c17
  have b0 := hblk.cell 0 rfl
  have b1 := hblk.cell 1 rfl
  have b2 := hblk.cell 2 rfl
  have hil := ok.inq
  have HI : Hid (Inv K σ) := ok
  clear ok hsi
  go_wp2_with (go_at_call 89; refine (local_any b σ.l _ _ k2 l0 l1 (by omega) (by omega)).mono ?_; rintro e w' ⟨rfl, rfl⟩)
  obtain ⟨S, hSR, hS1, hS2, hS3, hback⟩ := hB.r.rebase
  have hBS : B ∉ S := hS2 B (by simp)
  refine (Echo_any S _ (B :: x) b σ _ K hSR HI.out hK c _ rfl).mono ?_
  rintro e V ⟨rfl, hE⟩
  have hblkV := hE.kp.blk hblk hBS
  obtain ⟨yi, yo, yu, yn, yd, hV0⟩ := hback _ _ hE
  have hVW := hV0.poke (g := B) (by simp) hB0 3 (.int .i64 (σ.cellsOf c))
  have hblkW := hblkV.set 3 (.int .i64 (σ.cellsOf c))
  have b3 := hblkV.cell 3 rfl
  have f3 := hblkV.frozen 3
  clear hback hE hSR hS1 hS2 hS3 hBS hB k17 b0 b1 b2 k2 hblk hblkV hV0
  obtain ⟨o9, c9, hfr⟩ := echo1_frame σ c
  rw [hfr] at hVW
  have HF : Hid (σ.echo1 c = { σ with out := o9, col := c9 }) := hfr
  clear hfr
  obtain ⟨oi, hsi, _, _, _⟩ := hVW.lens_inq
  obtain ⟨ai, ci, rfl, hl1, hl2⟩ := hsi.shape
  dsimp only at hsi hl1 hl2
  have k17 := hVW.c17
  dsimp only at k17
  have b30 := hblkW.cell 0 rfl
  have b31 := hblkW.cell 1 rfl
  have b32 := hblkW.cell 2 rfl
  have b33 := hblkW.cell 3 rfl
  have hlV := hVW.lt
  go_wp2_with (at_builtin; refine wpList_append_sl rfl (.tmp 39) (.tmp 43) 101 101 rfl (Sl.nil _ 118 4) rfl t0 (.agg #[.int .u8 0, .bool false, .bool false, .int .i64 0]) 16 Tryz.underlying101 hi hz0 hz1 hz2 rfl (.slice ai σ.inq.length ci) σ.inq.length (ents σ.inq) rfl ?src ?b1 ?b2 ?next)
  case src => exact hsi.src Tryz.underlying101 (ents_one _)
  case b1 => unfold maxLen; omega
  case b2 => omega
  case next =>
    intro a' cap' w1 oc hs1 hg1 ho1
    have hsz : (V.setCell ⟨B, 3, none⟩ (.int .i64 (σ.cellsOf c))).heap.size = V.heap.size := by simp
    rw [← hsz] at ho1
    have hblk1 := hblkW.grown hg1 (by simp)
    simp only [List.set_cons_succ, List.set_cons_zero] at hblk1
    have hbel : ∀ g, g ∈ x → g < w1.heap.size ∧ ∀ k, oc = some k → g ≠ k := fun g hg => ⟨Nat.lt_of_lt_of_le (hVW.2.below (by simp [hg])) hg1.size, fun k hk e => by have := hVW.2.below (g := g) (by simp [hg]); rcases ho1 with h | ⟨h, _⟩ <;> rw [h] at hk <;> cases hk; omega⟩
    have hoc : ∀ g, oc = some g → w0.heap.size ≤ g := fun g e => by have := hVW.2.kp.size; rcases ho1 with h | ⟨h, _⟩ <;> rw [h] at e <;> cases e; exact this
    have hV1 := hVW.fresh hg1 ho1
    clear hVW hsi hg1 ho1 hblkW b30 b31 b32 b33 k17 b3 f3
    have d0 := hblk1.cell 0 rfl
    have d1 := hblk1.cell 1 rfl
    have d2 := hblk1.cell 2 rfl
    have d3 := hblk1.cell 3 rfl
    have hlB := hblk1.lt
    clear hblk1
    have hV2 := hV1.alloc (.cells #[.int .u8 c.toNat, .bool false, .bool false, .int .i64 (σ.cellsOf c)] 118)
    have hs1' := hs1.alloc (.cells #[.int .u8 c.toNat, .bool false, .bool false, .int .i64 (σ.cellsOf c)] 118)
    clear hs1
    have hb1 := hV1.lt
    go_wp2_with (at_builtin; refine wpList_append_sl rfl (.tmp 46) (.tmp 48) 101 101 rfl hs1' rfl t0 (.agg #[.int .u8 0, .bool false, .bool false, .int .i64 0]) 16 Tryz.underlying101 hi hz0 hz1 hz2 rfl (.slice (some ⟨w1.heap.size, 0, none⟩) 1 1) 1 [.int .u8 c.toNat, .bool false, .bool false, .int .i64 (σ.cellsOf c)] rfl ?src2 ?b12 ?b22 ?next2)
    case src2 => exact (Sl.made w1 [.int .u8 c.toNat, .bool false, .bool false, .int .i64 (σ.cellsOf c)] 1 118 4 rfl (by simp [maxLen])).src Tryz.underlying101 (by intro u hu; simp at hu; rcases hu with rfl | rfl | rfl | rfl <;> rfl)
    case b12 => unfold maxLen; omega
    case b22 => omega
    case next2 =>
      intro a2 cap2 w2 oc2 hs2 hg2 ho2
      have hV3 := hV2.local (x := B :: x) hg2 (ol' := oc2) (by simpa using ho2) hoc
      have HA : Hid (∀ g, oc2 = some g → (g ∈ oc2.toList ++ B :: x) ∧ (g ∈ S0 ∨ w0.heap.size ≤ g) ∧ g ∉ x) := by
        intro g e
        have hk := hV1.2.kp.size
        rcases ho2 with h1 | ⟨h1, _⟩
        · rw [h1] at e
          exact ⟨by simp [h1, e], .inr (hoc g e), fun hc => (hbel g hc).2 g e rfl⟩
        · rw [h1] at e; cases e
          refine ⟨by simp [h1], .inr (by first | omega | (simp; omega)), fun hc => ?_⟩
          have := (hbel _ hc).1
          first | omega | (simp at this)
      have hS3 : Sl w2 118 4 (.slice a2 (σ.inq.length + 1) cap2) (σ.inq ++ [(⟨c, false, false, (σ.cellsOf c)⟩ : Ent)]).length (ents (σ.inq ++ [(⟨c, false, false, (σ.cellsOf c)⟩ : Ent)])) oc2 := by
        rw [ents_app, List.length_append]; exact hs2
      have hV4 := hV3.adopt_inq (.slice a2 (σ.inq.length + 1) cap2) (σ.inq ++ [(⟨c, false, false, (σ.cellsOf c)⟩ : Ent)]) oc2 x hS3 HA.out (fun z hz => by simp [hz])
      have k17 := hV3.c17
      have f17 := hV3.frozen 17
      have k29 := hV3.c29
      have f29 := hV3.frozen 29
      have hR := (hV4.s_wait 0).r
      clear hV1 hV2 hV3 hV4 hS3 hs2 hg2 ho2 HA hs1' hbel hoc d0 d1 d2 d3
      go_wp2
      go_end0
      exact ⟨rfl, by rw [HF.out]; exact hR⟩
end
end Go.Proofs.YtfnglkhhmplejaaGreat
