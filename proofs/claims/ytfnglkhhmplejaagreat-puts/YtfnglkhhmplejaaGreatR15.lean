/- Walks: the reference's terminal: Erase, Werase, Kill. (Written by mkRef15.py.) -/
import Derived.Test.YtfnglkhhmplejaaGreatRef14
import Derived.Test.YtfnglkhhmplejaaGreatBase2
namespace Go.Proofs.YtfnglkhhmplejaaGreat
open Go Go.RowKit Go.Clk

section
variable (S0 : List Nat) (w0 : World) (x : List Nat) (b : Nat) (σ : St) (w : World) (K : Int)
set_option maxHeartbeats 1000000 in
set_option maxRecDepth 100000 in
theorem rubs_0 (h : AtR S0 w0 x b σ w) (ok : Inv K σ) (hK : K ≤ 1099511627776) (n : Nat) (hn : n ≤ σ.inq.length) (c : UInt8) (h0 : bit σ.l 4 = false) :
    Calls Tryz.prog 150 #[.pointer (some ⟨b, 0, none⟩), .int .i64 (n : Nat), .int .u8 c.toNat] w fun r w' => r = .returned (.tuple #[]) ∧ AtR S0 w0 x b (St.rub false n σ) w' := by
  have hR := h
  obtain ⟨vi, vo, vu, vn, vd, hV⟩ := h
  have l0 := ok.ok.l0; have l1 := ok.ok.l1
  have k2 := hV.cl
  have HI : Hid (Inv K σ) := ok
  clear ok
  go_enter Tryz.func150, Tryz.ntmps150
  go_wp2_with (go_at_call 89; refine (local_any b σ.l _ _ k2 l0 l1 (by omega) (by omega)).mono ?_; rintro e w' ⟨rfl, rfl⟩)
  all_goals
    refine (rub_any S0 w0 x b σ _ K hR HI.out hK n hn false _ rfl).mono ?_
    rintro e W ⟨rfl, hR0⟩
    have I0 : Hid (Inv K (St.rub false n σ)) := HI.out.rub _ _
    clear hV k2
    go_wp2
    all_goals go_end0
    all_goals exact ⟨rfl, hR0⟩
set_option maxHeartbeats 1000000 in
set_option maxRecDepth 100000 in
theorem rubs_1 (h : AtR S0 w0 x b σ w) (ok : Inv K σ) (hK : K ≤ 1099511627776) (n : Nat) (hn : n ≤ σ.inq.length) (c : UInt8) (h0 : bit σ.l 4 = true) (h1 : bit σ.l 8 = true) :
    Calls Tryz.prog 150 #[.pointer (some ⟨b, 0, none⟩), .int .i64 (n : Nat), .int .u8 c.toNat] w fun r w' => r = .returned (.tuple #[]) ∧ AtR S0 w0 x b (St.rub true n σ) w' := by
  have hR := h
  obtain ⟨vi, vo, vu, vn, vd, hV⟩ := h
  have l0 := ok.ok.l0; have l1 := ok.ok.l1
  have k2 := hV.cl
  have HI : Hid (Inv K σ) := ok
  clear ok
  go_enter Tryz.func150, Tryz.ntmps150
  go_wp2_with (go_at_call 89; refine (local_any b σ.l _ _ k2 l0 l1 (by omega) (by omega)).mono ?_; rintro e w' ⟨rfl, rfl⟩)
  all_goals
    refine (rub_any S0 w0 x b σ _ K hR HI.out hK n hn true _ rfl).mono ?_
    rintro e W ⟨rfl, hR0⟩
    have I0 : Hid (Inv K (St.rub true n σ)) := HI.out.rub _ _
    clear hV k2
    go_wp2
    all_goals go_end0
    all_goals exact ⟨rfl, hR0⟩
set_option maxHeartbeats 1000000 in
set_option maxRecDepth 100000 in
theorem rubs_2 (h : AtR S0 w0 x b σ w) (ok : Inv K σ) (hK : K ≤ 1099511627776)  (c : UInt8) (h0 : bit σ.l 4 = true) (h1 : bit σ.l 8 = false) :
    Calls Tryz.prog 150 #[.pointer (some ⟨b, 0, none⟩), .int .i64 (0 : Nat), .int .u8 c.toNat] w fun r w' => r = .returned (.tuple #[]) ∧ AtR S0 w0 x b (St.rub false 0 σ) w' := by
  have hR := h
  obtain ⟨vi, vo, vu, vn, vd, hV⟩ := h
  have l0 := ok.ok.l0; have l1 := ok.ok.l1
  have k2 := hV.cl
  have HI : Hid (Inv K σ) := ok
  clear ok
  go_enter Tryz.func150, Tryz.ntmps150
  go_wp2_with (go_at_call 89; refine (local_any b σ.l _ _ k2 l0 l1 (by omega) (by omega)).mono ?_; rintro e w' ⟨rfl, rfl⟩)
  all_goals
    refine (rub_any S0 w0 x b σ _ K hR HI.out hK 0 (Nat.zero_le _) false _ rfl).mono ?_
    rintro e W ⟨rfl, hR0⟩
    have I0 : Hid (Inv K (St.rub false 0 σ)) := HI.out.rub _ _
    clear hV k2
    go_wp2
    all_goals go_end0
    all_goals exact ⟨rfl, hR0⟩
set_option maxHeartbeats 1000000 in
set_option maxRecDepth 100000 in
theorem rubs_3 (h : AtR S0 w0 x b σ w) (ok : Inv K σ) (hK : K ≤ 1099511627776) (n : Nat) (hn : n ≤ σ.inq.length) (hz : 0 < n) (c : UInt8) (h0 : bit σ.l 4 = true) (h1 : bit σ.l 8 = false) :
    Calls Tryz.prog 150 #[.pointer (some ⟨b, 0, none⟩), .int .i64 (n : Nat), .int .u8 c.toNat] w fun r w' => r = .returned (.tuple #[]) ∧ AtR S0 w0 x b ((St.rub false n σ).echo1 c) w' := by
  have hR := h
  obtain ⟨vi, vo, vu, vn, vd, hV⟩ := h
  have l0 := ok.ok.l0; have l1 := ok.ok.l1
  have k2 := hV.cl
  have HI : Hid (Inv K σ) := ok
  have hz1 : (0 : Int) < (n : Int) := by omega
  have hz2 : ¬ (n : Int) ≤ 0 := by omega
  clear ok
  go_enter Tryz.func150, Tryz.ntmps150
  go_wp2_with (go_at_call 89; refine (local_any b σ.l _ _ k2 l0 l1 (by omega) (by omega)).mono ?_; rintro e w' ⟨rfl, rfl⟩)
  all_goals
    refine (rub_any S0 w0 x b σ _ K hR HI.out hK n hn false _ rfl).mono ?_
    rintro e W ⟨rfl, hR0⟩
    have I0 : Hid (Inv K (St.rub false n σ)) := HI.out.rub _ _
    clear hV k2
    go_wp2_with fail
    refine (Echo_any S0 w0 x b (St.rub false n σ) _ K hR0 I0.out hK c _ rfl).mono ?_
    rintro e W1 ⟨rfl, hR1⟩
    go_wp2
    all_goals go_end0
    all_goals exact ⟨rfl, hR1⟩
theorem rubs_any (h : AtR S0 w0 x b σ w) (ok : Inv K σ) (hK : K ≤ 1099511627776) (n : Nat) (hn : n ≤ σ.inq.length) (c : UInt8) (ni : Int) (hni : ni = (n : Int)) :
    Calls Tryz.prog 150 #[.pointer (some ⟨b, 0, none⟩), .int .i64 ni, .int .u8 c.toNat] w fun r w' => r = .returned (.tuple #[]) ∧ AtR S0 w0 x b (σ.rubs n c) w' := by
  subst hni
  cases h0 : bit σ.l 4 with
  | false =>
    have e1 : σ.rubs n c = St.rub false n σ := by unfold St.rubs St.L; simp [h0]
    rw [e1]; exact rubs_0 S0 w0 x b σ w K h ok hK n hn c h0
  | true =>
    cases h1 : bit σ.l 8 with
    | true =>
      have e1 : σ.rubs n c = St.rub true n σ := by unfold St.rubs St.L; simp [h0, h1]
      rw [e1]; exact rubs_1 S0 w0 x b σ w K h ok hK n hn c h0 h1
    | false =>
      rcases Nat.eq_zero_or_pos n with rfl | hz
      · have e1 : σ.rubs 0 c = St.rub false 0 σ := by unfold St.rubs St.L; simp [h0, h1]
        rw [e1]; exact rubs_2 S0 w0 x b σ w K h ok hK c h0 h1
      · have e1 : σ.rubs n c = (St.rub false n σ).echo1 c := by unfold St.rubs St.L; simp [h0, h1, hz]
        rw [e1]; exact rubs_3 S0 w0 x b σ w K h ok hK n hn hz c h0 h1
set_option maxHeartbeats 1000000 in
set_option maxRecDepth 100000 in
theorem kills_0 (h : AtR S0 w0 x b σ w) (ok : Inv K σ) (hK : K ≤ 1099511627776) (n : Nat) (hn : n ≤ σ.inq.length) (c : UInt8) (h0 : bit σ.l 4 = false) :
    Calls Tryz.prog 151 #[.pointer (some ⟨b, 0, none⟩), .int .i64 (n : Nat), .int .u8 c.toNat] w fun r w' => r = .returned (.tuple #[]) ∧ AtR S0 w0 x b (St.rub false n σ) w' := by
  have hR := h
  obtain ⟨vi, vo, vu, vn, vd, hV⟩ := h
  have l0 := ok.ok.l0; have l1 := ok.ok.l1
  have k2 := hV.cl
  have HI : Hid (Inv K σ) := ok
  clear ok
  go_enter Tryz.func151, Tryz.ntmps151
  go_wp2_with (go_at_call 89; refine (local_any b σ.l _ _ k2 l0 l1 (by omega) (by omega)).mono ?_; rintro e w' ⟨rfl, rfl⟩)
  all_goals
    refine (rub_any S0 w0 x b σ _ K hR HI.out hK n hn false _ rfl).mono ?_
    rintro e W ⟨rfl, hR0⟩
    have I0 : Hid (Inv K (St.rub false n σ)) := HI.out.rub _ _
    clear hV k2
    go_wp2
    all_goals go_end0
    all_goals exact ⟨rfl, hR0⟩
set_option maxHeartbeats 1000000 in
set_option maxRecDepth 100000 in
theorem kills_1 (h : AtR S0 w0 x b σ w) (ok : Inv K σ) (hK : K ≤ 1099511627776) (n : Nat) (hn : n ≤ σ.inq.length) (c : UInt8) (h0 : bit σ.l 4 = true) (h1 : bit σ.l 8 = true) (h2 : bit σ.l 128 = true) :
    Calls Tryz.prog 151 #[.pointer (some ⟨b, 0, none⟩), .int .i64 (n : Nat), .int .u8 c.toNat] w fun r w' => r = .returned (.tuple #[]) ∧ AtR S0 w0 x b (St.rub true n σ) w' := by
  have hR := h
  obtain ⟨vi, vo, vu, vn, vd, hV⟩ := h
  have l0 := ok.ok.l0; have l1 := ok.ok.l1
  have k2 := hV.cl
  have HI : Hid (Inv K σ) := ok
  clear ok
  go_enter Tryz.func151, Tryz.ntmps151
  go_wp2_with (go_at_call 89; refine (local_any b σ.l _ _ k2 l0 l1 (by omega) (by omega)).mono ?_; rintro e w' ⟨rfl, rfl⟩)
  all_goals
    refine (rub_any S0 w0 x b σ _ K hR HI.out hK n hn true _ rfl).mono ?_
    rintro e W ⟨rfl, hR0⟩
    have I0 : Hid (Inv K (St.rub true n σ)) := HI.out.rub _ _
    clear hV k2
    go_wp2
    all_goals go_end0
    all_goals exact ⟨rfl, hR0⟩
set_option maxHeartbeats 1000000 in
set_option maxRecDepth 100000 in
theorem kills_2 (h : AtR S0 w0 x b σ w) (ok : Inv K σ) (hK : K ≤ 1099511627776) (n : Nat) (hn : n ≤ σ.inq.length) (c : UInt8) (h0 : bit σ.l 4 = true) (h1 : bit σ.l 8 = false) (h2 : bit σ.l 16 = true) :
    Calls Tryz.prog 151 #[.pointer (some ⟨b, 0, none⟩), .int .i64 (n : Nat), .int .u8 c.toNat] w fun r w' => r = .returned (.tuple #[]) ∧ AtR S0 w0 x b (((St.rub false n σ).echo1 c).put [10]).1 w' := by
  have hR := h
  obtain ⟨vi, vo, vu, vn, vd, hV⟩ := h
  have l0 := ok.ok.l0; have l1 := ok.ok.l1
  have k2 := hV.cl
  have HI : Hid (Inv K σ) := ok
  clear ok
  go_enter Tryz.func151, Tryz.ntmps151
  go_wp2_with (go_at_call 89; refine (local_any b σ.l _ _ k2 l0 l1 (by omega) (by omega)).mono ?_; rintro e w' ⟨rfl, rfl⟩)
  all_goals
    refine (rub_any S0 w0 x b σ _ K hR HI.out hK n hn false _ rfl).mono ?_
    rintro e W ⟨rfl, hR0⟩
    have I0 : Hid (Inv K (St.rub false n σ)) := HI.out.rub _ _
    clear hV k2
    go_wp2_with fail
    refine (Echo_any S0 w0 x b (St.rub false n σ) _ K hR0 I0.out hK c _ rfl).mono ?_
    rintro e W1 ⟨rfl, hR1⟩
    go_wp2_with fail
    refine (Put_new S0 w0 x b ((St.rub false n σ).echo1 c) _ K hR1 (I0.out.echo1 c) hK [10] (by simp) _ rfl _ rfl).mono ?_
    rintro e W2 ⟨rfl, hR2⟩
    go_wp2
    all_goals go_end0
    all_goals exact ⟨rfl, hR2⟩
set_option maxHeartbeats 1000000 in
set_option maxRecDepth 100000 in
theorem kills_3 (h : AtR S0 w0 x b σ w) (ok : Inv K σ) (hK : K ≤ 1099511627776) (n : Nat) (hn : n ≤ σ.inq.length) (c : UInt8) (h0 : bit σ.l 4 = true) (h1 : bit σ.l 8 = false) (h2 : bit σ.l 16 = false) :
    Calls Tryz.prog 151 #[.pointer (some ⟨b, 0, none⟩), .int .i64 (n : Nat), .int .u8 c.toNat] w fun r w' => r = .returned (.tuple #[]) ∧ AtR S0 w0 x b ((St.rub false n σ).echo1 c) w' := by
  have hR := h
  obtain ⟨vi, vo, vu, vn, vd, hV⟩ := h
  have l0 := ok.ok.l0; have l1 := ok.ok.l1
  have k2 := hV.cl
  have HI : Hid (Inv K σ) := ok
  clear ok
  go_enter Tryz.func151, Tryz.ntmps151
  go_wp2_with (go_at_call 89; refine (local_any b σ.l _ _ k2 l0 l1 (by omega) (by omega)).mono ?_; rintro e w' ⟨rfl, rfl⟩)
  all_goals
    refine (rub_any S0 w0 x b σ _ K hR HI.out hK n hn false _ rfl).mono ?_
    rintro e W ⟨rfl, hR0⟩
    have I0 : Hid (Inv K (St.rub false n σ)) := HI.out.rub _ _
    clear hV k2
    go_wp2_with fail
    refine (Echo_any S0 w0 x b (St.rub false n σ) _ K hR0 I0.out hK c _ rfl).mono ?_
    rintro e W1 ⟨rfl, hR1⟩
    go_wp2
    all_goals go_end0
    all_goals exact ⟨rfl, hR1⟩
set_option maxHeartbeats 1000000 in
set_option maxRecDepth 100000 in
theorem kills_4 (h : AtR S0 w0 x b σ w) (ok : Inv K σ) (hK : K ≤ 1099511627776) (n : Nat) (hn : n ≤ σ.inq.length) (c : UInt8) (h0 : bit σ.l 4 = true) (h1 : bit σ.l 8 = true) (h2 : bit σ.l 128 = false) (h3 : bit σ.l 16 = true) :
    Calls Tryz.prog 151 #[.pointer (some ⟨b, 0, none⟩), .int .i64 (n : Nat), .int .u8 c.toNat] w fun r w' => r = .returned (.tuple #[]) ∧ AtR S0 w0 x b (((St.rub false n σ).echo1 c).put [10]).1 w' := by
  have hR := h
  obtain ⟨vi, vo, vu, vn, vd, hV⟩ := h
  have l0 := ok.ok.l0; have l1 := ok.ok.l1
  have k2 := hV.cl
  have HI : Hid (Inv K σ) := ok
  clear ok
  go_enter Tryz.func151, Tryz.ntmps151
  go_wp2_with (go_at_call 89; refine (local_any b σ.l _ _ k2 l0 l1 (by omega) (by omega)).mono ?_; rintro e w' ⟨rfl, rfl⟩)
  all_goals
    refine (rub_any S0 w0 x b σ _ K hR HI.out hK n hn false _ rfl).mono ?_
    rintro e W ⟨rfl, hR0⟩
    have I0 : Hid (Inv K (St.rub false n σ)) := HI.out.rub _ _
    clear hV k2
    go_wp2_with fail
    refine (Echo_any S0 w0 x b (St.rub false n σ) _ K hR0 I0.out hK c _ rfl).mono ?_
    rintro e W1 ⟨rfl, hR1⟩
    go_wp2_with fail
    refine (Put_new S0 w0 x b ((St.rub false n σ).echo1 c) _ K hR1 (I0.out.echo1 c) hK [10] (by simp) _ rfl _ rfl).mono ?_
    rintro e W2 ⟨rfl, hR2⟩
    go_wp2
    all_goals go_end0
    all_goals exact ⟨rfl, hR2⟩
set_option maxHeartbeats 1000000 in
set_option maxRecDepth 100000 in
theorem kills_5 (h : AtR S0 w0 x b σ w) (ok : Inv K σ) (hK : K ≤ 1099511627776) (n : Nat) (hn : n ≤ σ.inq.length) (c : UInt8) (h0 : bit σ.l 4 = true) (h1 : bit σ.l 8 = true) (h2 : bit σ.l 128 = false) (h3 : bit σ.l 16 = false) :
    Calls Tryz.prog 151 #[.pointer (some ⟨b, 0, none⟩), .int .i64 (n : Nat), .int .u8 c.toNat] w fun r w' => r = .returned (.tuple #[]) ∧ AtR S0 w0 x b ((St.rub false n σ).echo1 c) w' := by
  have hR := h
  obtain ⟨vi, vo, vu, vn, vd, hV⟩ := h
  have l0 := ok.ok.l0; have l1 := ok.ok.l1
  have k2 := hV.cl
  have HI : Hid (Inv K σ) := ok
  clear ok
  go_enter Tryz.func151, Tryz.ntmps151
  go_wp2_with (go_at_call 89; refine (local_any b σ.l _ _ k2 l0 l1 (by omega) (by omega)).mono ?_; rintro e w' ⟨rfl, rfl⟩)
  all_goals
    refine (rub_any S0 w0 x b σ _ K hR HI.out hK n hn false _ rfl).mono ?_
    rintro e W ⟨rfl, hR0⟩
    have I0 : Hid (Inv K (St.rub false n σ)) := HI.out.rub _ _
    clear hV k2
    go_wp2_with fail
    refine (Echo_any S0 w0 x b (St.rub false n σ) _ K hR0 I0.out hK c _ rfl).mono ?_
    rintro e W1 ⟨rfl, hR1⟩
    go_wp2
    all_goals go_end0
    all_goals exact ⟨rfl, hR1⟩
theorem kills_any (h : AtR S0 w0 x b σ w) (ok : Inv K σ) (hK : K ≤ 1099511627776) (n : Nat) (hn : n ≤ σ.inq.length) (c : UInt8) (ni : Int) (hni : ni = (n : Int)) :
    Calls Tryz.prog 151 #[.pointer (some ⟨b, 0, none⟩), .int .i64 ni, .int .u8 c.toNat] w fun r w' => r = .returned (.tuple #[]) ∧ AtR S0 w0 x b (σ.kills n c) w' := by
  subst hni
  cases h0 : bit σ.l 4 with
  | false =>
    have e1 : σ.kills n c = St.rub false n σ := by unfold St.kills St.L; simp [h0]
    rw [e1]; exact kills_0 S0 w0 x b σ w K h ok hK n hn c h0
  | true =>
    cases h1 : bit σ.l 8 with
    | true =>
      cases h2 : bit σ.l 128 with
      | true =>
        have e1 : σ.kills n c = St.rub true n σ := by unfold St.kills St.L; simp [h0, h1, h2]
        rw [e1]; exact kills_1 S0 w0 x b σ w K h ok hK n hn c h0 h1 h2
      | false =>
        cases h3 : bit σ.l 16 with
        | true =>
          have e1 : σ.kills n c = (((St.rub false n σ).echo1 c).put [10]).1 := by unfold St.kills St.L; simp [h0, h1, h2, h3]
          rw [e1]; exact kills_4 S0 w0 x b σ w K h ok hK n hn c h0 h1 h2 h3
        | false =>
          have e1 : σ.kills n c = (St.rub false n σ).echo1 c := by unfold St.kills St.L; simp [h0, h1, h2, h3]
          rw [e1]; exact kills_5 S0 w0 x b σ w K h ok hK n hn c h0 h1 h2 h3
    | false =>
      cases h3 : bit σ.l 16 with
      | true =>
        have e1 : σ.kills n c = (((St.rub false n σ).echo1 c).put [10]).1 := by unfold St.kills St.L; simp [h0, h1, h3]
        rw [e1]; exact kills_2 S0 w0 x b σ w K h ok hK n hn c h0 h1 h3
      | false =>
        have e1 : σ.kills n c = (St.rub false n σ).echo1 c := by unfold St.kills St.L; simp [h0, h1, h3]
        rw [e1]; exact kills_3 S0 w0 x b σ w K h ok hK n hn c h0 h1 h3
end
end Go.Proofs.YtfnglkhhmplejaaGreat
namespace Go.Clk
open Go Go.RowKit
theorem ents_set (l : List Ent) : ∀ (q : Nat) (h : q < l.length) (c : Int), ents (l.set q { l[q] with cells := c }) = (ents l).set (q * 4 + 3) (.int .i64 c) := by
  induction l with
  | nil => intro q h; simp at h
  | cons a l ih =>
    intro q h c
    cases q with
    | zero => simp [ents, entCells]
    | succ q =>
      have h' : q < l.length := by simpa using h
      have e1 := ih q h' c
      have e2 : ∀ (a : Ent) (l : List Ent), ents (a :: l) = entCells a ++ ents l := fun a l => List.flatMap_cons
      rw [List.set_cons_succ, e2, e2, List.set_append_right _ _ (by simp [entCells]; omega)]
      congr 1
      have e3 : (q + 1) * 4 + 3 - (entCells a).length = q * 4 + 3 := by simp [entCells]; omega
      rw [e3, ← e1]
      simp
end Go.Clk
namespace Go.Proofs.YtfnglkhhmplejaaGreat
open Go Go.RowKit Go.Clk
theorem AtV.turn_inq {S0 : List Nat} {w0 w : World} {x : List Nat} {b : Nat} {σ : St} {vi vo vu vn vd : Value} (h : AtV S0 w0 x b σ vi vo vu vn vd w) : ∃ o, Sl w 118 4 vi σ.inq.length (ents σ.inq) o ∧ o ≠ some b ∧
    ∀ (w1 : World) (xs : List Ent), w.grownBy w1 o → Sl w1 118 4 vi xs.length (ents xs) o → AtV S0 w0 x b { σ with inq := xs } vi vo vu vn vd w1 := by
  obtain ⟨o, h1, h2, h3, _, h5⟩ := h.2.lens 0 rfl
  exact ⟨o, h1, h2, fun w1 xs hg hs => ⟨h.1, h5 w1 ⟨_, 4, vi, xs.length, ents xs⟩ o hg hs (.inr (.inl rfl))⟩⟩
end Go.Proofs.YtfnglkhhmplejaaGreat
