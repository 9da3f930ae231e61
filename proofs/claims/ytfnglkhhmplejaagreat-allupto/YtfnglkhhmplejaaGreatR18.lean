/- Walks: the reference's terminal: what a byte means to a line, whatever it is. -/
import Derived.Test.YtfnglkhhmplejaaGreatRef17a
import Derived.Test.YtfnglkhhmplejaaGreatRef17b
import Derived.Test.YtfnglkhhmplejaaGreatRef17c
import Derived.Test.YtfnglkhhmplejaaGreatRef17d
import Derived.Test.YtfnglkhhmplejaaGreatRef17e
import Derived.Test.YtfnglkhhmplejaaGreatRef17f
import Derived.Deep.DeepCutAuto
namespace Go.Proofs.YtfnglkhhmplejaaGreat
open Go Go.RowKit Go.Clk

theorem edits_no (σ : St) (c : UInt8) (h : (σ.edits c).2 = false) : (σ.edits c).1 = σ := by
  unfold St.edits at h ⊢
  repeat' split at h
  all_goals first | cases h | skip
  simp only [*]
  rfl
theorem ref_sigs_no (σ : St) (c : UInt8) (h : (σ.sigs c).2 = false) : (σ.sigs c).1 = σ := by
  unfold St.sigs at h ⊢
  repeat' split at h
  all_goals first | cases h | skip
  all_goals simp only [*]; rfl

section
variable (S0 : List Nat) (w0 : World) (x : List Nat) (b : Nat) (σ : St) (w : World) (K : Int)

theorem edits_any (h : AtR S0 w0 x b σ w) (ok : Inv K σ) (hK : K ≤ 1099511627776) (c : UInt8) (n : Int) (hn : n = (c.toNat : Int)) :
    Calls Tryz.prog 129 #[.pointer (some ⟨b, 0, none⟩), .int .u8 n] w fun r w' => r = .returned (.bool (σ.edits c).2) ∧ AtR S0 w0 x b (σ.edits c).1 w' := by
  subst hn
  unfold St.edits St.L
  cases h3 : σ.isC c 3 with
  | true => exact edits_erase S0 w0 x b σ w K h ok hK c h3
  | false =>
  cases h5 : σ.isC c 5 with
  | true => exact edits_kill S0 w0 x b σ w K h ok hK c h3 h5
  | false =>
  cases hX : bit σ.l 512 with
  | false =>
    cases h6 : σ.isC c 6 with
    | true => exact edits_eof_a S0 w0 x b σ w K h ok hK c h3 h5 hX h6
    | false =>
      cases hN : ((c.toNat : Int) == 10) with
      | true => exact edits_nl_a S0 w0 x b σ w K h ok hK c h3 h5 hX h6 hN
      | false =>
        cases h7 : σ.isC c 7 with
        | true => exact edits_eol_a S0 w0 x b σ w K h ok hK c h3 h5 hX h6 hN h7
        | false => exact edits_none_a S0 w0 x b σ w K h ok hK c h3 h5 hX h6 hN h7
  | true =>
  cases h4 : σ.isC c 4 with
  | true => exact edits_werase S0 w0 x b σ w K h ok hK c h3 h5 hX h4
  | false =>
  cases h10 : σ.isC c 10 with
  | true =>
    unfold St.quote St.L
    cases hL4 : bit σ.l 4 with
    | false => exact edits_q1 S0 w0 x b σ w K h ok hK c h3 h5 hX h4 h10 hL4
    | true =>
      cases hL64 : bit σ.l 64 with
      | false => exact edits_q2 S0 w0 x b σ w K h ok hK c h3 h5 hX h4 h10 hL4 hL64
      | true => exact edits_q3 S0 w0 x b σ w K h ok hK c h3 h5 hX h4 h10 hL4 hL64
  | false =>
  cases hL4 : bit σ.l 4 with
  | false =>
    cases h6 : σ.isC c 6 with
    | true => exact edits_eof_b S0 w0 x b σ w K h ok hK c h3 h5 hX h4 h10 hL4 h6
    | false =>
      cases hN : ((c.toNat : Int) == 10) with
      | true => exact edits_nl_b S0 w0 x b σ w K h ok hK c h3 h5 hX h4 h10 hL4 h6 hN
      | false =>
        cases h7 : σ.isC c 7 with
        | true => exact edits_eol_b S0 w0 x b σ w K h ok hK c h3 h5 hX h4 h10 hL4 h6 hN h7
        | false => exact edits_none_b S0 w0 x b σ w K h ok hK c h3 h5 hX h4 h10 hL4 h6 hN h7
  | true =>
  cases h11 : σ.isC c 11 with
  | true => exact edits_reprint S0 w0 x b σ w K h ok hK c h3 h5 hX h4 h10 hL4 h11
  | false =>
    cases h6 : σ.isC c 6 with
    | true => exact edits_eof_c S0 w0 x b σ w K h ok hK c h3 h5 hX h4 h10 hL4 h11 h6
    | false =>
      cases hN : ((c.toNat : Int) == 10) with
      | true => exact edits_nl_c S0 w0 x b σ w K h ok hK c h3 h5 hX h4 h10 hL4 h11 h6 hN
      | false =>
        cases h7 : σ.isC c 7 with
        | true => exact edits_eol_c S0 w0 x b σ w K h ok hK c h3 h5 hX h4 h10 hL4 h11 h6 hN h7
        | false => exact edits_none_c S0 w0 x b σ w K h ok hK c h3 h5 hX h4 h10 hL4 h11 h6 hN h7
end
end Go.Proofs.YtfnglkhhmplejaaGreat
namespace Go.Proofs.YtfnglkhhmplejaaGreat
open Go Go.RowKit Go.Clk

theorem mod128 (c : UInt8) : ((c % 128).toNat : Int) = (c.toNat : Int) % 128 := by
  rw [UInt8.toNat_mod]; rfl
theorem add32 (c : UInt8) (h : (c.toNat : Int) ≤ 90) : ((c + 32).toNat : Int) = (c.toNat : Int) + 32 := by
  rw [UInt8.toNat_add]
  have : (32 : UInt8).toNat = 32 := rfl
  omega

section
variable (S0 : List Nat) (w0 : World) (x : List Nat) (b : Nat) (σ : St) (w : World) (K : Int)
theorem flows_at (h : AtR S0 w0 x b σ w) (ok : Inv K σ) (c : UInt8) (n : Int) (hn : n = (c.toNat : Int)) :
    Calls Tryz.prog 127 #[.pointer (some ⟨b, 0, none⟩), .int .u8 n] w fun r w' => r = .returned (.bool (σ.flows c).2) ∧ AtR S0 w0 x b (σ.flows c).1 w' := by
  subst hn; exact flows_any S0 w0 x b σ w K h ok c

set_option maxHeartbeats 2000000 in
set_option maxRecDepth 100000 in
theorem good_any (h : AtR S0 w0 x b σ w) (ok : Inv K σ) (hK : K ≤ 1099511600000) (c : UInt8) :
    Calls Tryz.prog 94 #[.pointer (some ⟨b, 0, none⟩), .int .u8 c.toNat] w fun r w' => r = .returned (.tuple #[]) ∧ AtR S0 w0 x b (σ.good c) w' := by
  have hR := h
  obtain ⟨vi, vo, vu, vn, vd, hV⟩ := h
  have l0 := ok.ok.l0; have l1 := ok.ok.l1; have i0' := ok.ok.i0; have i1' := ok.ok.i1
  have k0 := hV.ci
  have HI : Hid (Inv K σ) := ok
  have hc8 := UInt8.toNat_lt c
  clear ok
  go_enter Tryz.func94, Tryz.ntmps94
  go_upto_if 17 with (go_at_call 124; refine (in_any b σ.i _ _ k0 i0' i1' (by omega) (by omega)).mono ?_; rintro e w' ⟨rfl, rfl⟩)
  go_cut [1, 4, 5] (fun s1 _ _ wx => ∃ e : UInt8, s1 = .int .u8 (e.toNat : Int) ∧ AtR S0 w0 x b σ wx ∧ Hid (σ.good c = σ.good2 (σ.small e)))
  case first =>
    cases h16 : bit σ.i 16 with
    | true =>
      have HG : Hid (σ.good c = σ.good2 (σ.small (c % 128))) := by show σ.good c = _; unfold St.good St.I; rw [if_pos h16]
      go_wp2
      go_meet
      case rel => exact ⟨c % 128, by rw [mod128], hR, HG⟩
    | false =>
      cases h8 : bit σ.i 8 with
      | false =>
        have HG : Hid (σ.good c = σ.good2 (σ.small c)) := by show σ.good c = _; unfold St.good St.I; simp [h16, h8]
        go_wp2
        go_meet
        case rel => exact ⟨c, rfl, hR, HG⟩
      | true =>
        cases hm : ((c.toNat : Int) == 255) with
        | false =>
          have HG : Hid (σ.good c = σ.good2 (σ.small c)) := by show σ.good c = _; unfold St.good St.I; simp [h16, h8, hm]
          go_wp2
          go_meet
          case rel => exact ⟨c, rfl, hR, HG⟩
        | true =>
          have HG : Hid (σ.good c = (σ.plain 255).plain 255) := by show σ.good c = _; unfold St.good St.I; simp [h16, h8, hm]
          go_wp2_with fail
          refine (plain_any S0 w0 x b σ _ K hR HI.out (by omega) 255 _ rfl).mono ?_
          rintro e W1 ⟨rfl, hW1⟩
          go_wp2_with fail
          refine (plain_any S0 w0 x b _ _ K hW1 (HI.out.plain 255) (by omega) 255 _ rfl).mono ?_
          rintro e W2 ⟨rfl, hW2⟩
          go_wp2
          refine bodyPost_ret (results_none rfl _ _ _) rfl ?_
          exact ⟨rfl, by rw [HG.out]; exact hW2⟩
  case rest =>
    clear hR hV k0
    obtain ⟨e, rfl, hR, HG⟩ := hcut
    have he8 := UInt8.toNat_lt e
    have hR' := hR
    obtain ⟨vi, vo, vu, vn, vd, hV⟩ := hR'
    have k0 := hV.ci
    have k2 := hV.cl
    have HS : Hid (σ.small e = if (bit σ.i 256 && bit σ.l 512) && (decide (65 ≤ (e.toNat : Int)) && decide ((e.toNat : Int) ≤ 90)) then e + 32 else e) := rfl
    go_upto_region 9 with (first | (go_at_call 124; refine (in_any b σ.i _ _ k0 i0' i1' (by omega) (by omega)).mono ?_; rintro e w' ⟨rfl, rfl⟩) | (go_at_call 89; refine (local_any b σ.l _ _ k2 l0 l1 (by omega) (by omega)).mono ?_; rintro e w' ⟨rfl, rfl⟩))
    go_cut [6, 7, 44] (fun _ _ s44 wx => s44 = .bool ((bit σ.i 256 && bit σ.l 512) && (decide (65 ≤ (e.toNat : Int)) && decide ((e.toNat : Int) ≤ 90))) ∧ AtR S0 w0 x b σ wx)
    case first =>
      clear HG HS hV k0 k2
      cases h256 : bit σ.i 256 with
      | false =>
        go_wp2
        all_goals go_meet
        case rel => exact ⟨by simp [h256], hR⟩
      | true =>
        cases h512 : bit σ.l 512 with
        | false =>
          go_wp2
          all_goals go_meet
          case rel => exact ⟨by simp [h512], hR⟩
        | true =>
          by_cases h65 : 65 ≤ (e.toNat : Int)
          · go_wp2
            all_goals go_meet
            case rel => exact ⟨by simp [h256, h512, h65], hR⟩
          · go_wp2
            all_goals go_meet
            case rel => exact ⟨by simp; intros; omega, hR⟩
    case rest =>
    clear hR hV k0 k2
    obtain ⟨rfl, hR⟩ := hcut
    go_upto_if 44 with fail
    go_cut [1, 44] (fun s1 _ wx => ∃ d : UInt8, s1 = .int .u8 (d.toNat : Int) ∧ AtR S0 w0 x b σ wx ∧ Hid (σ.good c = σ.good2 d))
    case first =>
      cases hb : ((bit σ.i 256 && bit σ.l 512) && (decide (65 ≤ (e.toNat : Int)) && decide ((e.toNat : Int) ≤ 90))) with
      | true =>
        have HD : Hid (σ.good c = σ.good2 (e + 32)) := by show σ.good c = _; rw [HG.out, HS.out, if_pos hb]
        have h90 : (e.toNat : Int) ≤ 90 := by simp only [Bool.and_eq_true, decide_eq_true_eq] at hb; exact hb.2.2
        clear HG HS
        go_wp2
        go_meet
        case rel => exact ⟨e + 32, by rw [add32 e h90], hR, HD⟩
      | false =>
        have HD : Hid (σ.good c = σ.good2 e) := by show σ.good c = _; rw [HG.out, HS.out, if_neg (by rw [hb]; decide)]
        clear HG HS
        go_wp2
        go_meet
        case rel => exact ⟨e, rfl, hR, HD⟩
    case rest =>
    clear hR HG HS he8
    obtain ⟨d, rfl, hR, HG⟩ := hcut
    have hd8 := UInt8.toNat_lt d
    have hR' := hR
    obtain ⟨vi, vo, vu, vn, vd, hV⟩ := hR'
    have k23 := hV.c23
    have f23 := hV.frozen 23
    cases hq : σ.quoted with
    | true =>
      have HT : Hid (σ.good c = ({ σ with quoted := false } : St).plain d) := by show σ.good c = _; rw [HG.out]; unfold St.good2; rw [if_pos hq]
      rw [hq] at k23
      have hQ := (hV.s_quoted false).r
      go_wp2_with fail
      refine (plain_any S0 w0 x b _ _ K hQ (HI.out.quoted_ false) (by omega) d _ rfl).mono ?_
      rintro e W1 ⟨rfl, hW1⟩
      go_wp2
      refine bodyPost_ret (results_none rfl _ _ _) rfl ?_
      exact ⟨rfl, by rw [HT.out]; exact hW1⟩
    | false =>
      have HT : Hid (σ.good c = σ.heed d) := by show σ.good c = _; rw [HG.out]; unfold St.good2; rw [if_neg (by rw [hq]; decide)]
      rw [hq] at k23
      clear HG f23
      go_wp2_with fail
      refine (flows_at S0 w0 x b σ _ K hR HI.out d _ rfl).mono ?_
      rintro e W1 ⟨rfl, hW1⟩
      cases hf : (σ.flows d).2 with
      | true =>
        have HU : Hid (σ.good c = (σ.flows d).1) := by show σ.good c = _; rw [HT.out]; unfold St.heed; rw [if_pos hf]
        clear HT hR hV k23
        go_wp2
        refine bodyPost_ret (results_none rfl _ _ _) rfl ?_
        exact ⟨rfl, by rw [HU.out]; exact hW1⟩
      | false =>
        have HU : Hid (σ.good c = if ((σ.flows d).1.sigs d).2 then ((σ.flows d).1.sigs d).1 else (σ.flows d).1.late d) := by show σ.good c = _; rw [HT.out]; unfold St.heed; rw [if_neg (by rw [hf]; decide)]
        have HJ : Hid (Inv K (σ.flows d).1) := HI.out.flows d
        clear HT hR hV k23
        go_wp2_with fail
        refine (signals_any S0 w0 x b _ _ K hW1 HJ.out (by omega) d).mono ?_
        rintro e W2 ⟨rfl, hW2⟩
        cases hs : ((σ.flows d).1.sigs d).2 with
        | true =>
          have HT : Hid (σ.good c = ((σ.flows d).1.sigs d).1) := by show σ.good c = _; rw [HU.out, if_pos hs]
          clear HU
          go_wp2
          refine bodyPost_ret (results_none rfl _ _ _) rfl ?_
          exact ⟨rfl, by rw [HT.out]; exact hW2⟩
        | false =>
          have HT : Hid (σ.good c = (σ.flows d).1.late d) := by show σ.good c = _; rw [HU.out, if_neg (by rw [hs]; decide)]
          rw [ref_sigs_no _ _ hs] at hW2
          clear HU hW1
          obtain ⟨τ, hτ⟩ : ∃ τ, (σ.flows d).1 = τ := ⟨_, rfl⟩
          rw [hτ] at HT HJ hW2
          clear hτ hs hf
          have j0 := HJ.out.ok.i0; have j1 := HJ.out.ok.i1; have m0 := HJ.out.ok.l0; have m1 := HJ.out.ok.l1
          have hR := hW2
          obtain ⟨vi, vo, vu, vn, vd, hV⟩ := hW2
          have k0 := hV.ci
          have k2 := hV.cl
          clear hV
          have HL : Hid (τ.late d = if ((d.toNat : Int) == 13) && bit τ.i 64 then τ else if ((d.toNat : Int) == 13) && bit τ.i 128 then τ.line 10 else if ((d.toNat : Int) == 10) && bit τ.i 32 then τ.line 13 else τ.line d) := rfl
          cases h13 : ((d.toNat : Int) == 13) with
          | true =>
            have h10 : ((d.toNat : Int) == 10) = false := by have := beq_iff_eq.1 h13; rw [this]; rfl
            cases h64 : bit τ.i 64 with
            | true =>
              have HX : Hid (σ.good c = τ) := by show σ.good c = _; rw [HT.out, HL.out, h13, h64]; rfl
              clear HT HL
              go_wp2_with (first | (go_at_call 124; refine (in_any b τ.i _ _ k0 j0 j1 (by omega) (by omega)).mono ?_; rintro e w' ⟨rfl, rfl⟩) | (go_at_call 89; refine (local_any b τ.l _ _ k2 m0 m1 (by omega) (by omega)).mono ?_; rintro e w' ⟨rfl, rfl⟩))
              refine bodyPost_ret (results_none rfl _ _ _) rfl ?_
              exact ⟨rfl, by rw [HX.out]; exact hR⟩
            | false =>
              cases h128 : bit τ.i 128 with
              | true =>
                have HX : Hid (σ.good c = τ.line 10) := by show σ.good c = _; rw [HT.out, HL.out, h13, h64, h128]; rfl
                clear HT HL
                have HN : Hid (τ.line 10 = if bit τ.l 2 then (if (τ.edits 10).2 then (τ.edits 10).1 else τ.plain 10) else τ.plain 10) := rfl
                cases h2 : bit τ.l 2 with
                | false =>
                  have HM : Hid (σ.good c = τ.plain 10) := by show σ.good c = _; rw [HX.out, HN.out, if_neg (by rw [h2]; decide)]
                  clear HX HN
                  go_wp2_with (first | (go_at_call 124; refine (in_any b τ.i _ _ k0 j0 j1 (by omega) (by omega)).mono ?_; rintro e w' ⟨rfl, rfl⟩) | (go_at_call 89; refine (local_any b τ.l _ _ k2 m0 m1 (by omega) (by omega)).mono ?_; rintro e w' ⟨rfl, rfl⟩))
                  refine (plain_any S0 w0 x b τ _ K hR HJ.out (by omega) 10 _ (by first | rfl | simp_all)).mono ?_
                  rintro e W3 ⟨rfl, hW3⟩
                  go_wp2
                  go_end0
                  exact ⟨rfl, by rw [HM.out]; exact hW3⟩
                | true =>
                  have HM : Hid (σ.good c = if (τ.edits 10).2 then (τ.edits 10).1 else τ.plain 10) := by show σ.good c = _; rw [HX.out, HN.out, if_pos h2]
                  clear HX HN
                  go_wp2_with (first | (go_at_call 124; refine (in_any b τ.i _ _ k0 j0 j1 (by omega) (by omega)).mono ?_; rintro e w' ⟨rfl, rfl⟩) | (go_at_call 89; refine (local_any b τ.l _ _ k2 m0 m1 (by omega) (by omega)).mono ?_; rintro e w' ⟨rfl, rfl⟩))
                  refine (edits_any S0 w0 x b τ _ K hR HJ.out (by omega) 10 _ (by first | rfl | simp_all)).mono ?_
                  rintro e W3 ⟨rfl, hW3⟩
                  cases he : (τ.edits 10).2 with
                  | true =>
                    have HO : Hid (σ.good c = (τ.edits 10).1) := by show σ.good c = _; rw [HM.out, if_pos he]
                    clear HM
                    go_wp2
                    go_end0
                    exact ⟨rfl, by rw [HO.out]; exact hW3⟩
                  | false =>
                    have HO : Hid (σ.good c = τ.plain 10) := by show σ.good c = _; rw [HM.out, if_neg (by rw [he]; decide)]
                    rw [edits_no _ _ he] at hW3
                    clear HM he
                    go_wp2_with fail
                    refine (plain_any S0 w0 x b τ _ K hW3 HJ.out (by omega) 10 _ (by first | rfl | simp_all)).mono ?_
                    rintro e W4 ⟨rfl, hW4⟩
                    go_wp2
                    go_end0
                    exact ⟨rfl, by rw [HO.out]; exact hW4⟩

              | false =>
                have HX : Hid (σ.good c = τ.line d) := by show σ.good c = _; rw [HT.out, HL.out, h13, h64, h128, h10]; rfl
                clear HT HL
                have HN : Hid (τ.line d = if bit τ.l 2 then (if (τ.edits d).2 then (τ.edits d).1 else τ.plain d) else τ.plain d) := rfl
                cases h2 : bit τ.l 2 with
                | false =>
                  have HM : Hid (σ.good c = τ.plain d) := by show σ.good c = _; rw [HX.out, HN.out, if_neg (by rw [h2]; decide)]
                  clear HX HN
                  go_wp2_with (first | (go_at_call 124; refine (in_any b τ.i _ _ k0 j0 j1 (by omega) (by omega)).mono ?_; rintro e w' ⟨rfl, rfl⟩) | (go_at_call 89; refine (local_any b τ.l _ _ k2 m0 m1 (by omega) (by omega)).mono ?_; rintro e w' ⟨rfl, rfl⟩))
                  refine (plain_any S0 w0 x b τ _ K hR HJ.out (by omega) d _ (by first | rfl | simp_all)).mono ?_
                  rintro e W3 ⟨rfl, hW3⟩
                  go_wp2
                  go_end0
                  exact ⟨rfl, by rw [HM.out]; exact hW3⟩
                | true =>
                  have HM : Hid (σ.good c = if (τ.edits d).2 then (τ.edits d).1 else τ.plain d) := by show σ.good c = _; rw [HX.out, HN.out, if_pos h2]
                  clear HX HN
                  go_wp2_with (first | (go_at_call 124; refine (in_any b τ.i _ _ k0 j0 j1 (by omega) (by omega)).mono ?_; rintro e w' ⟨rfl, rfl⟩) | (go_at_call 89; refine (local_any b τ.l _ _ k2 m0 m1 (by omega) (by omega)).mono ?_; rintro e w' ⟨rfl, rfl⟩))
                  refine (edits_any S0 w0 x b τ _ K hR HJ.out (by omega) d _ (by first | rfl | simp_all)).mono ?_
                  rintro e W3 ⟨rfl, hW3⟩
                  cases he : (τ.edits d).2 with
                  | true =>
                    have HO : Hid (σ.good c = (τ.edits d).1) := by show σ.good c = _; rw [HM.out, if_pos he]
                    clear HM
                    go_wp2
                    go_end0
                    exact ⟨rfl, by rw [HO.out]; exact hW3⟩
                  | false =>
                    have HO : Hid (σ.good c = τ.plain d) := by show σ.good c = _; rw [HM.out, if_neg (by rw [he]; decide)]
                    rw [edits_no _ _ he] at hW3
                    clear HM he
                    go_wp2_with fail
                    refine (plain_any S0 w0 x b τ _ K hW3 HJ.out (by omega) d _ (by first | rfl | simp_all)).mono ?_
                    rintro e W4 ⟨rfl, hW4⟩
                    go_wp2
                    go_end0
                    exact ⟨rfl, by rw [HO.out]; exact hW4⟩

          | false =>
            cases h10 : ((d.toNat : Int) == 10) with
            | true =>
              cases h32 : bit τ.i 32 with
              | true =>
                have HX : Hid (σ.good c = τ.line 13) := by show σ.good c = _; rw [HT.out, HL.out, h13, h10, h32]; rfl
                clear HT HL
                have HN : Hid (τ.line 13 = if bit τ.l 2 then (if (τ.edits 13).2 then (τ.edits 13).1 else τ.plain 13) else τ.plain 13) := rfl
                cases h2 : bit τ.l 2 with
                | false =>
                  have HM : Hid (σ.good c = τ.plain 13) := by show σ.good c = _; rw [HX.out, HN.out, if_neg (by rw [h2]; decide)]
                  clear HX HN
                  go_wp2_with (first | (go_at_call 124; refine (in_any b τ.i _ _ k0 j0 j1 (by omega) (by omega)).mono ?_; rintro e w' ⟨rfl, rfl⟩) | (go_at_call 89; refine (local_any b τ.l _ _ k2 m0 m1 (by omega) (by omega)).mono ?_; rintro e w' ⟨rfl, rfl⟩))
                  refine (plain_any S0 w0 x b τ _ K hR HJ.out (by omega) 13 _ (by first | rfl | simp_all)).mono ?_
                  rintro e W3 ⟨rfl, hW3⟩
                  go_wp2
                  go_end0
                  exact ⟨rfl, by rw [HM.out]; exact hW3⟩
                | true =>
                  have HM : Hid (σ.good c = if (τ.edits 13).2 then (τ.edits 13).1 else τ.plain 13) := by show σ.good c = _; rw [HX.out, HN.out, if_pos h2]
                  clear HX HN
                  go_wp2_with (first | (go_at_call 124; refine (in_any b τ.i _ _ k0 j0 j1 (by omega) (by omega)).mono ?_; rintro e w' ⟨rfl, rfl⟩) | (go_at_call 89; refine (local_any b τ.l _ _ k2 m0 m1 (by omega) (by omega)).mono ?_; rintro e w' ⟨rfl, rfl⟩))
                  refine (edits_any S0 w0 x b τ _ K hR HJ.out (by omega) 13 _ (by first | rfl | simp_all)).mono ?_
                  rintro e W3 ⟨rfl, hW3⟩
                  cases he : (τ.edits 13).2 with
                  | true =>
                    have HO : Hid (σ.good c = (τ.edits 13).1) := by show σ.good c = _; rw [HM.out, if_pos he]
                    clear HM
                    go_wp2
                    go_end0
                    exact ⟨rfl, by rw [HO.out]; exact hW3⟩
                  | false =>
                    have HO : Hid (σ.good c = τ.plain 13) := by show σ.good c = _; rw [HM.out, if_neg (by rw [he]; decide)]
                    rw [edits_no _ _ he] at hW3
                    clear HM he
                    go_wp2_with fail
                    refine (plain_any S0 w0 x b τ _ K hW3 HJ.out (by omega) 13 _ (by first | rfl | simp_all)).mono ?_
                    rintro e W4 ⟨rfl, hW4⟩
                    go_wp2
                    go_end0
                    exact ⟨rfl, by rw [HO.out]; exact hW4⟩

              | false =>
                have HX : Hid (σ.good c = τ.line d) := by show σ.good c = _; rw [HT.out, HL.out, h13, h10, h32]; rfl
                clear HT HL
                have HN : Hid (τ.line d = if bit τ.l 2 then (if (τ.edits d).2 then (τ.edits d).1 else τ.plain d) else τ.plain d) := rfl
                cases h2 : bit τ.l 2 with
                | false =>
                  have HM : Hid (σ.good c = τ.plain d) := by show σ.good c = _; rw [HX.out, HN.out, if_neg (by rw [h2]; decide)]
                  clear HX HN
                  go_wp2_with (first | (go_at_call 124; refine (in_any b τ.i _ _ k0 j0 j1 (by omega) (by omega)).mono ?_; rintro e w' ⟨rfl, rfl⟩) | (go_at_call 89; refine (local_any b τ.l _ _ k2 m0 m1 (by omega) (by omega)).mono ?_; rintro e w' ⟨rfl, rfl⟩))
                  refine (plain_any S0 w0 x b τ _ K hR HJ.out (by omega) d _ (by first | rfl | simp_all)).mono ?_
                  rintro e W3 ⟨rfl, hW3⟩
                  go_wp2
                  go_end0
                  exact ⟨rfl, by rw [HM.out]; exact hW3⟩
                | true =>
                  have HM : Hid (σ.good c = if (τ.edits d).2 then (τ.edits d).1 else τ.plain d) := by show σ.good c = _; rw [HX.out, HN.out, if_pos h2]
                  clear HX HN
                  go_wp2_with (first | (go_at_call 124; refine (in_any b τ.i _ _ k0 j0 j1 (by omega) (by omega)).mono ?_; rintro e w' ⟨rfl, rfl⟩) | (go_at_call 89; refine (local_any b τ.l _ _ k2 m0 m1 (by omega) (by omega)).mono ?_; rintro e w' ⟨rfl, rfl⟩))
                  refine (edits_any S0 w0 x b τ _ K hR HJ.out (by omega) d _ (by first | rfl | simp_all)).mono ?_
                  rintro e W3 ⟨rfl, hW3⟩
                  cases he : (τ.edits d).2 with
                  | true =>
                    have HO : Hid (σ.good c = (τ.edits d).1) := by show σ.good c = _; rw [HM.out, if_pos he]
                    clear HM
                    go_wp2
                    go_end0
                    exact ⟨rfl, by rw [HO.out]; exact hW3⟩
                  | false =>
                    have HO : Hid (σ.good c = τ.plain d) := by show σ.good c = _; rw [HM.out, if_neg (by rw [he]; decide)]
                    rw [edits_no _ _ he] at hW3
                    clear HM he
                    go_wp2_with fail
                    refine (plain_any S0 w0 x b τ _ K hW3 HJ.out (by omega) d _ (by first | rfl | simp_all)).mono ?_
                    rintro e W4 ⟨rfl, hW4⟩
                    go_wp2
                    go_end0
                    exact ⟨rfl, by rw [HO.out]; exact hW4⟩

            | false =>
              have HX : Hid (σ.good c = τ.line d) := by show σ.good c = _; rw [HT.out, HL.out, h13, h10]; rfl
              clear HT HL
              have HN : Hid (τ.line d = if bit τ.l 2 then (if (τ.edits d).2 then (τ.edits d).1 else τ.plain d) else τ.plain d) := rfl
              cases h2 : bit τ.l 2 with
              | false =>
                have HM : Hid (σ.good c = τ.plain d) := by show σ.good c = _; rw [HX.out, HN.out, if_neg (by rw [h2]; decide)]
                clear HX HN
                go_wp2_with (first | (go_at_call 124; refine (in_any b τ.i _ _ k0 j0 j1 (by omega) (by omega)).mono ?_; rintro e w' ⟨rfl, rfl⟩) | (go_at_call 89; refine (local_any b τ.l _ _ k2 m0 m1 (by omega) (by omega)).mono ?_; rintro e w' ⟨rfl, rfl⟩))
                refine (plain_any S0 w0 x b τ _ K hR HJ.out (by omega) d _ (by first | rfl | simp_all)).mono ?_
                rintro e W3 ⟨rfl, hW3⟩
                go_wp2
                go_end0
                exact ⟨rfl, by rw [HM.out]; exact hW3⟩
              | true =>
                have HM : Hid (σ.good c = if (τ.edits d).2 then (τ.edits d).1 else τ.plain d) := by show σ.good c = _; rw [HX.out, HN.out, if_pos h2]
                clear HX HN
                go_wp2_with (first | (go_at_call 124; refine (in_any b τ.i _ _ k0 j0 j1 (by omega) (by omega)).mono ?_; rintro e w' ⟨rfl, rfl⟩) | (go_at_call 89; refine (local_any b τ.l _ _ k2 m0 m1 (by omega) (by omega)).mono ?_; rintro e w' ⟨rfl, rfl⟩))
                refine (edits_any S0 w0 x b τ _ K hR HJ.out (by omega) d _ (by first | rfl | simp_all)).mono ?_
                rintro e W3 ⟨rfl, hW3⟩
                cases he : (τ.edits d).2 with
                | true =>
                  have HO : Hid (σ.good c = (τ.edits d).1) := by show σ.good c = _; rw [HM.out, if_pos he]
                  clear HM
                  go_wp2
                  go_end0
                  exact ⟨rfl, by rw [HO.out]; exact hW3⟩
                | false =>
                  have HO : Hid (σ.good c = τ.plain d) := by show σ.good c = _; rw [HM.out, if_neg (by rw [he]; decide)]
                  rw [edits_no _ _ he] at hW3
                  clear HM he
                  go_wp2_with fail
                  refine (plain_any S0 w0 x b τ _ K hW3 HJ.out (by omega) d _ (by first | rfl | simp_all)).mono ?_
                  rintro e W4 ⟨rfl, hW4⟩
                  go_wp2
                  go_end0
                  exact ⟨rfl, by rw [HO.out]; exact hW4⟩

end
end Go.Proofs.YtfnglkhhmplejaaGreat
