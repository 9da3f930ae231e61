/- Walks: clackkeep.Paused. -/
import Derived.Test.YtfnglkhhmplejaaKTt
import Derived.Deep.DeepCutAuto
import Derived.Deep.CutBlock
import Derived.BigQuiet
import Derived.Deep.QuietTactic
import Derived.Deep.RegionWith
namespace Go.Clk
open Go
/-- At most 30 bytes of a text. -/
def cut30 (s : ByteArray) : ByteArray := if 30 < s.size then s.extract 0 30 else s
theorem str_nil_empty : (str ([] : List UInt8)).toList.isEmpty = true := by
  unfold str ByteArray.toList ByteArray.toList.loop
  simp [ByteArray.size]
theorem cut30_size (s : ByteArray) : (cut30 s).size ≤ 30 := by
  unfold cut30
  split
  · rw [ByteArray.size_extract]; omega
  · omega
end Go.Clk
namespace Go.Proofs.Ytfnglkhhmplejaa
open Go Go.RowKit Go.Clk
set_option maxHeartbeats 20000000 in
set_option maxRecDepth 100000 in
theorem paused_walk (w : World) (sa ra : Option Addr) (scap rcap : Nat) (ps : List ByteArray) (rs : List Int) (hP : Strs w sa ps) (hR0 : Ints w ra rs) (hl : ps.length ≤ 8796093022208) (_hrl : rs.length ≤ 17592186044416) :
    Calls Try.prog 6 #[.slice sa ps.length scap, .slice ra rs.length rcap] w fun e w' => e = .returned (.bool true) ∧ Below w.heap.size w w' := by
  have HB1 := begin_any w
  have HB2 : Hid (∀ W, Calls Try.prog 9 #[] W fun e w' => ∃ b, e = .returned (.pointer (some ⟨b, 0, none⟩)) ∧ AtT [] W [] b newS w') := fun W => begin_any W
  have HP : Hid (Strs w sa ps) := hP
  have HR0 : Hid (Ints w ra rs) := hR0
  clear hP hR0
  go_enter Try.func6, Try.ntmps6
  go_wp2_with (go_at_call 9; refine HB1.mono ?_; clear HB1; rintro e W1 ⟨b1, rfl, hW1⟩)
  refine (HB2.out _).mono ?_
  rintro e W2 ⟨b2, rfl, hW2⟩
  have hT0 : Tt w W2 b1 b2 newS newS := Tt.made hW1 hW2
  clear hW1 hW2 HB2
  go_wp2_with fail
  go_loopg [7, 8, 9, 10, 11, 12, 13, 14, 15] ps.length (fun kk onev twov stv iv _ _ _ _ _ wr => ∃ (j : Nat) (l1 o : List UInt8) (c : Int) (st : Bool) (σ τ : St), j + kk = ps.length ∧ onev = .string (str l1) ∧ twov = .string (str (l1 ++ o)) ∧ stv = .bool st ∧ iv = .int .i64 j ∧ Tt w wr b1 b2 σ τ ∧ Hid (Pa o c st σ) ∧ Hid (Pa [] c false τ) ∧ Hid (InvC (4096 * (j : Int)) 0 σ) ∧ Hid (InvC (4096 * (j : Int)) 0 τ) ∧ Hid (Well σ) ∧ Hid (Well τ) ∧ (l1 ++ o).length ≤ 60 * j ∧ o.length ≤ 60 * (j % 3) ∧ (st = false → o = []) ∧ (j % 3 = 0 → st = false))
  case atStart => exact ⟨0, [], [], 0, false, newS, newS, by omega, rfl, rfl, rfl, rfl, hT0, Pa.new, Pa.new, InvC.new, InvC.new, Well.new, Well.new, by simp, by simp, fun _ => rfl, fun _ => rfl⟩
  case round =>
    clear hT0
    obtain ⟨j, l1, o, c, st, σ, τ, hj, rfl, rfl, rfl, rfl, hT, hpa, hpb, hia, hib, hwa, hwb, hlen, holen, hso, hst0⟩ := hrel
    have HSO : Hid (st = false → o = []) := hso
    have HST : Hid (j % 3 = 0 → st = false) := hst0
    clear hso hst0
    by_cases hlt : j < ps.length
    · have hlt' : (j : Int) < (ps.length : Int) := by omega
      obtain ⟨s, hs⟩ : ∃ s, ps[j]? = some s := ⟨ps[j], List.getElem?_eq_getElem hlt⟩
      obtain ⟨hss, g, off, rfl, hg, hcell⟩ := HP.out j s hs
      have HCell : Hid (∀ W σ τ, Tt w W b1 b2 σ τ → W.cell? ⟨g, off + j, none⟩ = some (.string s)) := fun W σ τ hW => (hW.kp.cell (a := ⟨g, off + j, none⟩) hg (by simp)).trans hcell
      clear hcell hs
      -- the number
      obtain ⟨kn, hkn, hcut1⟩ : ∃ kn : Nat, kn < 6 ∧ ((¬ (j : Int) < (rs.length : Int) ∧ kn = 0) ∨ ((j : Int) < (rs.length : Int) ∧ ∃ rv g2 off2, ra = some ⟨g2, off2, none⟩ ∧ (∀ W σ τ, Tt w W b1 b2 σ τ → W.cell? ⟨g2, off2 + j, none⟩ = some (.int .i64 rv)) ∧ ∀ W, Calls Try.prog 19 #[.int .i64 rv, .int .i64 6] W fun e w' => e = .returned (.int .i64 kn) ∧ W = w')) := by
        by_cases hrj : j < rs.length
        · obtain ⟨rv, hrv⟩ : ∃ rv, rs[j]? = some rv := ⟨rs[j], List.getElem?_eq_getElem hrj⟩
          obtain ⟨hvr, g2, off2, h2, hg2, hcell2⟩ := HR0.out j rv hrv
          have p2 := pickN_lt rv 6 (by omega)
          refine ⟨(pickN rv 6).toNat, by omega, .inr ⟨by omega, rv, g2, off2, h2, fun W σ τ hW => (hW.kp.cell (a := ⟨g2, off2 + j, none⟩) hg2 (by simp)).trans hcell2, fun W => ?_⟩⟩
          have := kpick_any rv 6 W (by omega) (by omega) hvr.1 hvr.2
          rw [show pickN rv 6 = ((pickN rv 6).toNat : Int) by omega] at this
          exact this
        · exact ⟨0, by omega, .inl ⟨by omega, rfl⟩⟩
      go_upto_if 33 with fail
      go_cut [11] (fun s11 wx => s11 = .int .i64 kn ∧ wx = wr)
      case first =>
        rcases hcut1 with ⟨h1, rfl⟩ | ⟨h1, rv, g2, off2, rfl, h2, h3⟩
        · go_wp2_with fail
          all_goals (go_meet; exact ⟨rfl, rfl⟩)
        · have hc2 := h2 _ _ _ hT
          go_wp2_with (go_at_call 19; refine (h3 _).mono ?_; rintro e w' ⟨rfl, hw⟩; have hw := hw.symm; subst hw)
          all_goals (go_meet; exact ⟨rfl, rfl⟩)
      case rest =>
      obtain ⟨rfl, rfl⟩ := hcut
      clear hcut1
      -- is it stopped now
      obtain ⟨bb, hbb⟩ : ∃ bb : Bool, (!st && ((((kn : Int) == 1)) || ((kn : Int) == 2))) = bb := ⟨_, rfl⟩
      have HBB : Hid ((!st && ((((kn : Int) == 1)) || ((kn : Int) == 2))) = bb) := hbb
      clear hbb
      go_upto_region 14 with fail
      go_cut [48] (fun s48 wx => s48 = .bool bb ∧ wx = wc)
      case first =>
        cases st with
        | true =>
          have e1 : bb = false := by rw [← HBB.out]; rfl
          subst e1
          go_wp2_with fail
          all_goals (go_meet; exact ⟨rfl, rfl⟩)
        | false =>
          cases h1 : ((kn : Int) == 1) with
          | true =>
            have e1 : bb = true := by rw [← HBB.out, h1]; rfl
            subst e1
            go_wp2_with fail
            all_goals (go_meet; exact ⟨rfl, rfl⟩)
          | false =>
            have e1 : ((kn : Int) == 2) = bb := by rw [← HBB.out, h1]; rfl
            go_wp2_with fail
            all_goals (go_meet; exact ⟨by first | rfl | simp | simp [e1], rfl⟩)
      case rest =>
      obtain ⟨rfl, hw1⟩ := hcut
      have hw1 := hw1.symm
      subst hw1
      obtain ⟨st1, hst1⟩ : ∃ st1 : Bool, (st || bb) = st1 := ⟨_, rfl⟩
      have HS1 : Hid ((st || bb) = st1) := hst1
      clear hst1
      go_upto_if 48 with fail
      go_cut [9] (fun s9 wx => s9 = .bool st1 ∧ ∃ σ1, Tt w wx b1 b2 σ1 τ ∧ Hid (Pa o c st1 σ1) ∧ Hid (InvC (4096 * (j : Int)) 0 σ1) ∧ Hid (Well σ1))
      case first =>
        cases bb with
        | true =>
          have e0 : st = false := by have := HBB.out; cases st with
            | true => cases this
            | false => rfl
          have e1 : st1 = true := by rw [← HS1.out]; simp
          subst e0 e1
          have hce := hpa.out.char_eq 19 true (.inl ⟨rfl, rfl⟩)
          have hp1 : Pa o c true { σ with stopped := true } := by have := hpa.out.char 19 true (.inl ⟨rfl, rfl⟩); rw [hce] at this; exact this
          have HCs : Hid (∀ q : Bool, Calls Try.prog 24 #[.pointer (some ⟨b1, 0, none⟩), .bool q] wc fun e w' => e = .returned (.tuple #[]) ∧ Tt w w' b1 b2 { σ with stopped := true } τ) := fun q => hT.one fun S u h => kstop_any S u [] b1 σ wc 600000000000 h (Go.Clk.Inv.mk hia.out (by omega) (by omega)) (by omega) hwa.out q { σ with stopped := true } hce rfl
          have HX1 : Hid (Pa o c true { σ with stopped := true }) := hp1
          have HX2 : Hid (InvC (4096 * (j : Int)) 0 { σ with stopped := true }) := hia.out.stopped_ true
          have HX3 : Hid (Well { σ with stopped := true }) := fun e he => hwa.out e he
          clear hce hp1 hpa hia hwa
          generalize ({ σ with stopped := true } : St) = σ1 at *
          go_wp2_with (go_at_call 24; refine (HCs.out _).mono ?_; rintro e V1 ⟨rfl, hV1⟩)
          all_goals (go_meet; exact ⟨rfl, σ1, hV1, HX1, HX2, HX3⟩)
        | false =>
          have e1 : st1 = st := by rw [← HS1.out]; simp
          subst e1
          go_wp2_with fail
          all_goals (go_meet; exact ⟨rfl, σ, hT, hpa, hia, hwa⟩)
      case rest =>
      obtain ⟨rfl, σ1, hT1, hpa1, hia1, hwa1⟩ := hcut
      have HO : Hid (st1 = false → o = []) := fun h => HSO.out (by have := HS1.out; rw [h] at this; cases st with
        | true => cases this
        | false => rfl)
      clear hpa hia hwa hT HSO HBB HS1
      have hc1 := HCell.out _ _ _ hT1
      go_upto_if 59 with fail
      go_cut [12] (fun s12 wx => s12 = .string (cut30 s) ∧ wx = wc)
      case first =>
        by_cases h30 : 30 < s.size
        · have e1 : Hid (cut30 s = s.extract 0 30) := by show cut30 s = _; unfold cut30; rw [if_pos h30]
          have h30' : (30 : Int) < (s.size : Int) := by omega
          go_wp2_with fail
          all_goals (go_meet; rw [e1.out]; exact ⟨rfl, rfl⟩)
        · have e1 : Hid (cut30 s = s) := by show cut30 s = _; unfold cut30; rw [if_neg h30]
          have h30' : ¬ (30 : Int) < (s.size : Int) := by omega
          go_wp2_with fail
          all_goals (go_meet; rw [e1.out]; exact ⟨rfl, rfl⟩)
      case rest =>
      obtain ⟨rfl, hw2⟩ := hcut
      have hw2 := hw2.symm
      subst hw2
      clear hc1 hss
      have hs30 := cut30_size s
      generalize cut30 s = sv at *
      have hsz : sv.data.toList.length = sv.size := by rw [Array.length_toList]; rfl
      obtain ⟨ls, hls⟩ : ∃ ls, sv.data.toList = ls := ⟨_, rfl⟩
      rw [hls] at hsz
      have hw3 := (hpa1.out.write ls (by omega))
      have hw4 := (hpb.out.write ls (by simp; omega))
      obtain ⟨rr, hrr⟩ : ∃ rr, (renderL 3 c ls).1 = rr := ⟨_, rfl⟩
      obtain ⟨c', hc'⟩ : ∃ c', (renderL 3 c ls).2 = c' := ⟨_, rfl⟩
      have hrl2 : rr.length ≤ 60 := by have := render_new ls c; rw [hrr] at this; omega
      rw [hrr, hc'] at hw3 hw4
      obtain ⟨hn1, hpa2⟩ := hw3
      obtain ⟨hn2, hpb2⟩ := hw4
      rw [List.nil_append] at hpb2
      have hia2 : InvC (4096 * (j : Int)) 0 (σ1.write ls).1 := InvC.write ls hia1.out
      have hib2 : InvC (4096 * (j : Int)) 0 (τ.write ls).1 := InvC.write ls hib.out
      have hwa2 : Well (σ1.write ls).1 := (from_write ls σ1).well hwa1.out
      have hwb2 : Well (τ.write ls).1 := (from_write ls τ).well hwb.out
      have HWa : Hid (∀ W, Tt w W b1 b2 σ1 τ → Calls Try.prog 25 #[.pointer (some ⟨b1, 0, none⟩), .string sv] W fun e w' => e = .returned (.int .i64 sv.size) ∧ Tt w w' b1 b2 (σ1.write ls).1 τ) := fun W hW => hW.one fun S u h => by
        have := TWrite S u [] b1 σ1 W 600000000000 h (Go.Clk.Inv.mk hia1.out (by omega) (by omega)) (by omega) sv (by unfold maxLen; omega)
        rw [hls, hn1, hsz] at this; exact this
      have HWb : Hid (∀ W σ, Tt w W b1 b2 σ τ → Calls Try.prog 25 #[.pointer (some ⟨b2, 0, none⟩), .string sv] W fun e w' => e = .returned (.int .i64 sv.size) ∧ Tt w w' b1 b2 σ (τ.write ls).1) := fun W σ hW => hW.two fun S u h => by
        have := TWrite S u [] b2 τ W 600000000000 h (Go.Clk.Inv.mk hib.out (by omega) (by omega)) (by omega) sv (by unfold maxLen; omega)
        rw [hls, hn2, hsz] at this; exact this
      clear hn1 hn2 hls hsz hrr hc' hpa1 hia1 hwa1 hpb hib hwb HCell
      generalize (σ1.write ls).1 = σ2 at *
      generalize (τ.write ls).1 = τ2 at *
      -- what is sent
      obtain ⟨hd1, hpb3⟩ := hpb2.drain 1099511627776 (by omega)
      have HAb : Hid (∀ W σ, Tt w W b1 b2 σ τ2 → Calls Try.prog 15 #[.pointer (some ⟨b2, 0, none⟩)] W fun e w' => e = .returned (.string (str rr)) ∧ Tt w w' b1 b2 σ (τ2.drain 1099511627776).1) := fun W σ hW => hW.two fun S u h => by
        have := all_any S u [] b2 τ2 W 600000000000 h (Go.Clk.Inv.mk hib2 (by omega) (by omega)) (by omega)
        rw [hd1] at this; exact this
      have HPb3 : Hid (Pa [] c' false (τ2.drain 1099511627776).1) := hpb3
      have HIb3 : Hid (InvC (4096 * ((j + 1 : Nat) : Int)) 0 (τ2.drain 1099511627776).1) := (hib2.drained 1099511627776).mono (by omega) (by omega)
      have HWb3 : Hid (Well (τ2.drain 1099511627776).1) := (from_drain _ _).well hwb2
      clear hd1 hpb3 hpb2 hib2 hwb2
      generalize (τ2.drain 1099511627776).1 = τ3 at *
      obtain ⟨at_, o3, hd2, hpa3, ho3⟩ : ∃ at_ o3 : List UInt8, (σ2.drain 1099511627776).2 = at_ ∧ Pa o3 c' st1 (σ2.drain 1099511627776).1 ∧ ((st1 = true ∧ at_ = [] ∧ o3 = o ++ rr) ∨ (st1 = false ∧ at_ = rr ∧ o3 = [] ∧ o = [])) := by
        cases st1 with
        | true =>
          obtain ⟨h1, h2⟩ := hpa2.drainS 1099511627776
          exact ⟨[], o ++ rr, h1, h2, .inl ⟨rfl, rfl, rfl⟩⟩
        | false =>
          have ho := HO.out rfl
          obtain ⟨h1, h2⟩ := hpa2.drain 1099511627776 (by rw [ho]; simp; omega)
          exact ⟨rr, [], by rw [h1, ho]; rfl, h2, .inr ⟨rfl, rfl, rfl, ho⟩⟩
      have hia3 : InvC (4096 * (j : Int) + 2048) 0 (σ2.drain 1099511627776).1 := hia2.drained 1099511627776
      have HAa : Hid (∀ W τ, Tt w W b1 b2 σ2 τ → Calls Try.prog 15 #[.pointer (some ⟨b1, 0, none⟩)] W fun e w' => e = .returned (.string (str at_)) ∧ Tt w w' b1 b2 (σ2.drain 1099511627776).1 τ) := fun W τ hW => hW.one fun S u h => by
        have := all_any S u [] b1 σ2 W 600000000000 h (Go.Clk.Inv.mk hia2 (by omega) (by omega)) (by omega)
        rw [hd2] at this; exact this
      have hwa3 : Well (σ2.drain 1099511627776).1 := (from_drain _ _).well hwa2
      clear hd2 hpa2 hia2 hwa2
      generalize (σ2.drain 1099511627776).1 = σ3 at *
      have ha60 : at_.length ≤ 60 := by
        rcases ho3 with ⟨_, h, _⟩ | ⟨_, h, _⟩
        · rw [h]; simp
        · rw [h]; omega
      have hlen2 : l1.length + o.length ≤ 60 * j := by simpa using hlen
      have z1 : ¬ 9223372036854775807 < (str (l1 ++ o)).size + (str rr).size := by rw [str_size, str_size]; simp; omega
      have z2 : ¬ 9223372036854775807 < (str l1).size + (str at_).size := by rw [str_size, str_size]; omega
      have HEQ : Hid (l1 ++ at_ ++ o3 = l1 ++ o ++ rr) := by
        show l1 ++ at_ ++ o3 = _
        rcases ho3 with ⟨_, h1, h2⟩ | ⟨_, h1, h2, h3⟩
        · rw [h1, h2]; simp
        · rw [h1, h2, h3]; simp
      have HO3 : Hid ((st1 = true ∧ at_ = [] ∧ o3 = o ++ rr) ∨ (st1 = false ∧ at_ = rr ∧ o3 = [] ∧ o = [])) := ho3
      clear ho3
      go_upto_region 26 with (first
        | (go_at_call 25; refine (HWa.out _ hT1).mono ?_; clear HWa; rintro e V1 ⟨rfl, hV1⟩)
        | (go_at_call 25; refine (HWb.out _ _ hV1).mono ?_; clear HWb; rintro e V2 ⟨rfl, hV2⟩)
        | (go_at_call 15; refine (HAb.out _ _ hV2).mono ?_; clear HAb; rintro e V3 ⟨rfl, hV3⟩)
        | (go_at_call 15; refine (HAa.out _ _ hV3).mono ?_; clear HAa; rintro e V4 ⟨rfl, hV4⟩))
      go_cut [88] (fun s88 wx => s88 = .bool false ∧ wx = V4)
      case first =>
        cases st1 with
        | true =>
          have e1 : at_ = [] := by rcases HO3.out with ⟨_, h, _⟩ | ⟨h, _⟩; exact h; cases h
          subst e1
          have e2 := str_nil_empty
          go_wp2_with fail
          all_goals (go_meet; exact ⟨rfl, rfl⟩)
        | false =>
          go_wp2_with fail
          all_goals (go_meet; exact ⟨rfl, rfl⟩)
      case rest =>
      obtain ⟨rfl, rfl⟩ := hcut
      obtain ⟨b2v, hb2v⟩ : ∃ b2v : Bool, (st1 && (decide (3 ≤ kn) || decide (j % 3 = 2))) = b2v := ⟨_, rfl⟩
      have HB2V : Hid ((st1 && (decide (3 ≤ kn) || decide (j % 3 = 2))) = b2v) := hb2v
      clear hb2v
      go_upto_region 29 with fail
      go_cut [101] (fun s101 wx => s101 = .bool b2v ∧ wx = wc)
      case first =>
        cases st1 with
        | false =>
          have e1 : b2v = false := by rw [← HB2V.out]; rfl
          subst e1
          go_wp2_with fail
          all_goals (go_meet; exact ⟨rfl, rfl⟩)
        | true =>
          by_cases h3 : 3 ≤ kn
          · have e1 : b2v = true := by rw [← HB2V.out, decide_eq_true h3]; rfl
            subst e1
            have h3' : (3 : Int) ≤ (kn : Int) := by omega
            go_wp2_with fail
            all_goals (go_meet; exact ⟨rfl, rfl⟩)
          · have h3' : ¬ (3 : Int) ≤ (kn : Int) := by omega
            have e0 : decide (j % 3 = 2) = b2v := by rw [← HB2V.out, decide_eq_false h3]; rfl
            have e1 : ((j : Int).tmod 3 == 2) = b2v := by rw [← e0, Int.tmod_eq_emod_of_nonneg (by omega), Bool.eq_iff_iff]; simp; omega
            have e2 : ((j : Int) % 3 == 2) = b2v := by rw [← e0, Bool.eq_iff_iff]; simp; omega
            clear e0
            go_wp2_with fail
            all_goals (go_meet; exact ⟨by first | rfl | (rw [e1]) | (rw [e2]), rfl⟩)
      case rest =>
      obtain ⟨rfl, hw5⟩ := hcut
      have hw5 := hw5.symm
      subst hw5
      rw [str_app, str_app]
      cases b2v with
      | false =>
        have HL : Hid ((l1 ++ at_ ++ o3).length ≤ 60 * (j + 1)) := by show (l1 ++ at_ ++ o3).length ≤ _; rw [HEQ.out]; simp; omega
        have HL3 : Hid (o3.length ≤ 60 * ((j + 1) % 3)) := by
          show o3.length ≤ _
          rcases HO3.out with ⟨h1, h2, h3⟩ | ⟨h1, h2, h3, h4⟩
          · have := HB2V.out
            rw [h1] at this
            simp at this
            rw [h3]; simp; omega
          · rw [h3]; simp
        have HS3 : Hid (st1 = false → o3 = []) := fun h => by
          rcases HO3.out with ⟨h1, _⟩ | ⟨_, _, h3, _⟩
          · rw [h] at h1; cases h1
          · exact h3
        have HM3 : Hid ((j + 1) % 3 = 0 → st1 = false) := fun h => by
          have := HB2V.out
          cases st1 with
          | false => rfl
          | true => simp at this; omega
        have HI3 : Hid (InvC (4096 * ((j + 1 : Nat) : Int)) 0 σ3) := hia3.mono (by omega) (by omega)
        have HP3 : Hid (Pa o3 c' st1 σ3) := hpa3
        have HW3 : Hid (Well σ3) := hwa3
        have HE3 : Hid (str (l1 ++ o ++ rr) = str (l1 ++ at_ ++ o3)) := by show str _ = str _; rw [HEQ.out]
        clear hia3 hpa3 hwa3 hlen hlen2 holen z1 z2 HB2V HO3 HEQ HO HST
        go_wp2_with fail
        go_roundg (gk - 1)
        case measure => omega
        case rel => exact ⟨j + 1, l1 ++ at_, o3, c', st1, σ3, τ3, by omega, rfl, by rw [← HE3.out, List.append_assoc], rfl, by go_num, hV4, HP3, HPb3, HI3, HIb3, HW3, HWb3, HL.out, HL3.out, HS3.out, HM3.out⟩
      | true =>
        have e1 : st1 = true := by have := HB2V.out; cases st1 with
          | true => rfl
          | false => cases this
        have hce := hpa3.char_eq 17 false (.inr ⟨rfl, rfl⟩)
        have hp4 : Pa o3 c' false { σ3 with stopped := false } := by have := hpa3.char 17 false (.inr ⟨rfl, rfl⟩); rw [hce] at this; exact this
        have hi4 := hia3.stopped_ false
        have hw4 : Well { σ3 with stopped := false } := fun e he => hwa3 e he
        have HCs : Hid (∀ q : Bool, Calls Try.prog 26 #[.pointer (some ⟨b1, 0, none⟩), .bool q] wc fun e w' => e = .returned (.tuple #[]) ∧ Tt w w' b1 b2 { σ3 with stopped := false } τ3) := fun q => hV4.one fun S u h => kstart_any S u [] b1 σ3 wc 600000000000 h (Go.Clk.Inv.mk hia3 (by omega) (by omega)) (by omega) hwa3 q { σ3 with stopped := false } hce rfl
        clear hce hia3 hpa3 hwa3
        generalize ({ σ3 with stopped := false } : St) = σ4 at *
        have ho3l : o3.length ≤ 60 * 4 := by
          rcases HO3.out with ⟨h1, h2, h3⟩ | ⟨h1, h2, h3, h4⟩
          · rw [h3]; simp; omega
          · rw [h3]; simp
        obtain ⟨hd5, hp5⟩ := hp4.drain 1099511627776 (by omega)
        have HA5 : Hid (∀ W, Tt w W b1 b2 σ4 τ3 → Calls Try.prog 15 #[.pointer (some ⟨b1, 0, none⟩)] W fun e w' => e = .returned (.string (str o3)) ∧ Tt w w' b1 b2 (σ4.drain 1099511627776).1 τ3) := fun W hW => hW.one fun S u h => by
          have := all_any S u [] b1 σ4 W 600000000000 h (Go.Clk.Inv.mk hi4 (by omega) (by omega)) (by omega)
          rw [hd5] at this; exact this
        have HP5 : Hid (Pa [] c' false (σ4.drain 1099511627776).1) := hp5
        have HI5 : Hid (InvC (4096 * ((j + 1 : Nat) : Int)) 0 (σ4.drain 1099511627776).1) := (hi4.drained 1099511627776).mono (by omega) (by omega)
        have HW5 : Hid (Well (σ4.drain 1099511627776).1) := (from_drain _ _).well hw4
        clear hd5 hp5 hp4 hi4 hw4
        generalize (σ4.drain 1099511627776).1 = σ5 at *
        have hle : (l1 ++ at_).length + o3.length ≤ 60 * (j + 1) := by
          have := congrArg List.length HEQ.out
          rw [List.length_append] at this
          rw [this]; simp; omega
        have z3 : ¬ 9223372036854775807 < (str (l1 ++ at_)).size + (str o3).size := by rw [str_size, str_size]; omega
        have z4 : str (l1 ++ at_) ++ str o3 = str (l1 ++ o ++ rr) := by rw [str_app, HEQ.out]
        have HL5 : Hid ((l1 ++ o ++ rr).length ≤ 60 * (j + 1)) := by show (l1 ++ o ++ rr).length ≤ _; simp; omega
        clear hlen hlen2 holen z1 z2 HB2V HO3 HEQ HO HST hle ho3l
        go_wp2_with (first
          | (go_at_call 26; refine (HCs.out _).mono ?_; clear HCs; rintro e V6 ⟨rfl, hV6⟩)
          | (go_at_call 15; refine (HA5.out _ hV6).mono ?_; clear HA5; rintro e V7 ⟨rfl, hV7⟩))
        go_roundg (gk - 1)
        case measure => omega
        case rel => exact ⟨j + 1, l1 ++ o ++ rr, [], c', false, σ5, τ3, by omega, by rw [List.append_assoc], by simp, rfl, by go_num, hV7, HP5, HPb3, HI5, HIb3, HW5, HWb3, by simpa using HL5.out, by simp, fun _ => rfl, fun _ => rfl⟩
    · obtain rfl : j = ps.length := by omega
      have hsp : Pa o c false { σ with stopped := false } := by have := hpa.out.char 17 false (.inr ⟨rfl, rfl⟩); rw [hpa.out.char_eq 17 false (.inr ⟨rfl, rfl⟩)] at this; exact this
      have hIs : Inv 600000000000 σ := Go.Clk.Inv.mk hia.out (by omega) (by omega)
      have hIs2 : Inv 600000000000 { σ with stopped := false } := Go.Clk.Inv.mk (hia.out.stopped_ false) (by omega) (by omega)
      have hce := hpa.out.char_eq 17 false (.inr ⟨rfl, rfl⟩)
      have HCs : Hid (Calls Try.prog 26 #[.pointer (some ⟨b1, 0, none⟩), .bool true] wr fun e w' => e = .returned (.tuple #[]) ∧ Tt w w' b1 b2 { σ with stopped := false } τ) := hT.one fun S u h => kstart_any S u [] b1 σ wr 600000000000 h hIs (by omega) hwa.out true { σ with stopped := false } hce rfl
      clear hce hIs hpa hia hwa
      generalize ({ σ with stopped := false } : St) = σ4 at *
      obtain ⟨hd5, hp5⟩ := hsp.drain 1099511627776 (by omega)
      have HA5 : Hid (∀ W, Tt w W b1 b2 σ4 τ → Calls Try.prog 15 #[.pointer (some ⟨b1, 0, none⟩)] W fun e w' => e = .returned (.string (str o)) ∧ Tt w w' b1 b2 (σ4.drain 1099511627776).1 τ) := fun W hW => hW.one fun S u h => by
        have := all_any S u [] b1 σ4 W 600000000000 h hIs2 (by omega)
        rw [hd5] at this; exact this
      have hlen2 : l1.length + o.length ≤ 60 * ps.length := by simpa using hlen
      have z3 : ¬ 9223372036854775807 < (str l1).size + (str o).size := by rw [str_size, str_size]; omega
      have z4 : str l1 ++ str o = str (l1 ++ o) := str_app _ _
      clear hd5 hp5 hsp hIs2 hpb hib hwb
      go_wp2_with (first
        | (go_at_call 26; refine HCs.out.mono ?_; clear HCs; rintro e V6 ⟨rfl, hV6⟩)
        | (go_at_call 15; refine (HA5.out _ hV6).mono ?_; clear HA5; rintro e V7 ⟨rfl, hV7⟩))
      have HKP : Hid (Below w.heap.size w V7) := hV7.below
      go_ret
      exact ⟨ret_bool (by simp), HKP.out⟩
end Go.Proofs.Ytfnglkhhmplejaa
