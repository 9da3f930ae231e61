/- Walks: clackkeep.Turns. -/
import Derived.Test.YtfnglkhhmplejaaKW
import Derived.Deep.DeepCutAuto
import Derived.Deep.CutBlock
import Derived.BigQuiet
import Derived.Deep.QuietTactic
import Derived.Deep.RegionHeld
namespace Go.Proofs.Ytfnglkhhmplejaa
open Go Go.RowKit Go.Clk
theorem str_0 : str [] = ⟨#[]⟩ := rfl
theorem str_19 : str [19] = ⟨#[19]⟩ := rfl
theorem turn_cells : (((i64s newS.ss).set 0 (.int .i64 2048)).set 2 (.int .i64 0)).set 15 (.int .i64 0) = i64s (rawSet 2048 0 0) := by
  simp [i64s, newS, firstS, rawSet]

set_option maxHeartbeats 2000000 in
set_option maxRecDepth 100000 in
theorem turns_walk (w : World) (sa ra : Option Addr) (scap rcap : Nat) (ps : List ByteArray) (rs : List Int) (hP : Strs w sa ps) (hR0 : Ints w ra rs) (hl : ps.length ≤ 17592186044416) (hrl : rs.length ≤ 17592186044416) :
    Calls Try.prog 7 #[.slice sa ps.length scap, .slice ra rs.length rcap] w fun e w' => e = .returned (.bool true) ∧ Below w.heap.size w w' := by
  have HB := begin_any w
  have HT0 : Hid (Tu 0 false [] (newS.change (rawSet 2048 0 0)).look ∧ Tq (newS.change (rawSet 2048 0 0)).look) := Tu.begin
  have HI0 : Hid (Inv 2 (newS.change (rawSet 2048 0 0)).look) := (Inv.new.change _).look.mono (by omega)
  have HW0 : Hid (Well (newS.change (rawSet 2048 0 0)).look) := (from_look _).well (Well.new.change _)
  have HC : Hid (∀ b W x, AtT [] w x b newS W → Calls Try.prog 11 #[.pointer (some ⟨b, 0, none⟩), .agg (i64s (rawSet 2048 0 0)).toArray] W fun e w' => e = .returned (.bool true) ∧ AtT [] w x b (newS.change (rawSet 2048 0 0)).look w') := fun b W x hW => kchange_any [] w x b newS W 0 hW Inv.new (by omega) Well.new (rawSet 2048 0 0) rfl
  generalize (newS.change (rawSet 2048 0 0)).look = σ0 at *
  have HP : Hid (Strs w sa ps) := hP
  have HR0 : Hid (Ints w ra rs) := hR0
  clear hP hR0
  go_enter Try.func7, Try.ntmps7
  go_wp2_with (first
    | (go_at_call 9; refine HB.mono ?_; clear HB; rintro e W1 ⟨b, rfl, hW1⟩)
    | (go_at_call 10; refine (TGet [] w [] b newS _ hW1).mono ?_; rintro e W2 ⟨rfl, hW2⟩)
    | (refine wpList_store_whole rfl (.tmp 6) (.tmp 22) 26 rfl W2.heap.size rfl (i64s newS.ss) rfl 26 zero17 (Blk.new W2 _ _) rfl rfl (i64s_one _) ?_))
  intro W hbk hgW hsz
  obtain ⟨B, hB⟩ : ∃ B, W2.heap.size = B := ⟨_, rfl⟩
  have hW3 : AtT [] w [B] b newS W := by
    have := (hW2.boxed (.cells zero17.toArray 26)).grown hgW fun g e => by cases e; exact ⟨by simp, hW2.kp.size⟩
    rw [hB] at this; exact this
  have hBw : w.heap.size ≤ B := by rw [← hB]; exact hW2.kp.size
  rw [hB] at hbk ⊢
  have c0 := hbk.cell 0 rfl
  have c2 := hbk.cell 2 rfl
  have c15 := hbk.cell 15 rfl
  have f0 := hbk.frozen 0
  have f2 := hbk.frozen 2
  have f15 := hbk.frozen 15
  have HBk : Hid (Blk (((W.setCell ⟨B, 0, none⟩ (.int .i64 2048)).setCell ⟨B, 2, none⟩ (.int .i64 0)).setCell ⟨B, 15, none⟩ (.int .i64 0)) B 26 (i64s (rawSet 2048 0 0))) := by
    have h5 := ((hbk.set 0 (.int .i64 2048)).set 2 (.int .i64 0)).set 15 (.int .i64 0)
    rw [turn_cells] at h5
    exact h5
  have hW4 := ((hW3.poke (g := B) (by simp) hBw 0 (.int .i64 2048)).poke (g := B) (by simp) hBw 2 (.int .i64 0)).poke (g := B) (by simp) hBw 15 (.int .i64 0)
  have hsl : (i64s (rawSet 2048 0 0)).length = 17 := rfl
  obtain ⟨W3, hW3e⟩ : ∃ W3, ((W.setCell ⟨B, 0, none⟩ (.int .i64 2048)).setCell ⟨B, 2, none⟩ (.int .i64 0)).setCell ⟨B, 15, none⟩ (.int .i64 0) = W3 := ⟨_, rfl⟩
  rw [hW3e] at HBk hW4
  clear hgW hsz hB hW2 hbk hW1 hW3
  go_wp2_with (refine wpList_load_part rfl (.tmp 6) 26 rfl B 0 rfl (i64s (rawSet 2048 0 0)) _ (fun j v hv => by rw [Nat.zero_add]; exact HBk.out.cell j hv) Try.underlying26 rfl (by rw [hsl]; exact size_settings2) ?_)
  refine (HC.out b _ [B] hW4).mono ?_
  clear hW4 HC c0 c2 c15 f0 f2 f15 HBk hW3e hsl
  rintro e W5 ⟨rfl, hW5⟩
  have hW5 : AtT [] w [] b σ0 W5 := hW5.weaken fun g hg => by cases hg
  clear hBw
  go_wp2_with fail
  go_loopg [8, 9, 10, 11, 12, 13, 14, 15, 16, 17] ps.length (fun kk hv iv _ _ _ _ _ _ _ _ wr => ∃ (j n : Nat) (hb : Bool) (σ : St), j + kk = ps.length ∧ hv = .bool hb ∧ iv = .int .i64 j ∧ AtT [] w [] b σ wr ∧ Hid (Tu n hb [] σ ∧ Tq σ) ∧ Hid (Inv 2 σ) ∧ Hid (Well σ))
  case atStart => exact ⟨0, 0, false, σ0, by omega, rfl, rfl, hW5, HT0, HI0, HW0⟩
  case round =>
    clear hW5 HT0 HI0 HW0
    obtain ⟨j, n, hb, σ, hj, rfl, rfl, hR, htu, okσ, hwσ⟩ := hrel
    by_cases hlt : j < ps.length
    · have hlt' : (j : Int) < (ps.length : Int) := by omega
      obtain ⟨s, hs⟩ : ∃ s, ps[j]? = some s := ⟨ps[j], List.getElem?_eq_getElem hlt⟩
      obtain ⟨hss, g, off, rfl, hg, hcell⟩ := HP.out j s hs
      obtain ⟨htu, htq⟩ := htu.out
      have n256 := htu.n256
      have hin := htu.inq
      obtain ⟨nn, hnn⟩ : ∃ nn : Nat, min 256 (n + s.size) = nn := ⟨_, rfl⟩
      have hsz : s.data.toList.length = s.size := by rw [Array.length_toList]; rfl
      have hpc := htu.piece s.data.toList
      rw [hsz, hnn] at hpc
      have hqc := htu.quiet s.data.toList htq
      have okp : ∀ l, Inv 2 (σ.receive 0 l).1 := fun l => htu.inv_piece htq okσ.out l
      have hwp : Well (σ.receive 0 s.data.toList).1 := (from_receive _ _ _).well hwσ.out
      have ok1 := okp s.data.toList
      obtain ⟨o1, c1, s1, q1, HS1⟩ := TStatus_l w b σ n hb hin htu.held
      have HRc : Hid (∀ W x, AtT [] w x b σ W → Calls Try.prog 13 #[.pointer (some ⟨b, 0, none⟩), .int .i64 0, .string s] W fun e w' => e = .returned (.int .i64 0) ∧ AtT [] w x b (σ.receive 0 s.data.toList).1 w' ∧ Kq x W w') := fun W x hW => hW.calls fun S u h => TReceive_far S u x b σ W 2 h okσ.out hwσ.out s (by unfold maxLen; omega) (fun j _ => okp _) (by omega)
      replace hpc : Tu nn (hb || decide (192 ≤ nn)) ([] ++ if hb then [] else if 192 ≤ nn then [19] else []) (σ.receive 0 s.data.toList).1 := hpc
      replace hqc : Tq (σ.receive 0 s.data.toList).1 := hqc
      generalize (σ.receive 0 s.data.toList).1 = σ1 at *
      clear okp hsz hin
      obtain ⟨hb', hhb⟩ : ∃ hb' : Bool, (hb || decide (192 ≤ nn)) = hb' := ⟨_, rfl⟩
      obtain ⟨u', hu'⟩ : ∃ u' : List UInt8, ([] ++ if hb then [] else if 192 ≤ nn then [19] else []) = u' := ⟨_, rfl⟩
      have hul : u'.length ≤ 1 := by rw [← hu']; simp; split <;> (try split) <;> simp
      rw [hhb, hu'] at hpc
      obtain ⟨hd1, hd2⟩ := hpc.sent 1099511627776 (by omega)
      have hqd := hqc.drain 1099511627776
      have okd : Inv 2 (σ1.drain 1099511627776).1 := hqd.inv (ok1.drain _) (by rw [hd2.urg]; simp)
      have hwd : Well (σ1.drain 1099511627776).1 := (from_drain _ _).well hwp
      have HAl : Hid (∀ W x, AtT [] w x b σ1 W → Calls Try.prog 15 #[.pointer (some ⟨b, 0, none⟩)] W fun e w' => e = .returned (.string (str u')) ∧ AtT [] w x b (σ1.drain 1099511627776).1 w' ∧ Kq x W w') := fun W x hW => hW.calls fun S u h => by
        have := all_any S u x b σ1 W 2 h ok1 (by omega)
        rw [hd1] at this; exact this
      clear hd1
      generalize (σ1.drain 1099511627776).1 = σ2 at *
      obtain ⟨o2, c2, s2, q2, HS2⟩ := TStatus_l w b σ2 nn hb' hd2.inq hd2.held
      have HNN : Hid (min 256 (n + s.size) = nn) := hnn
      have HHB : Hid ((hb || decide (192 ≤ nn)) = hb') := hhb
      have HU : Hid (([] ++ if hb then [] else if 192 ≤ nn then [19] else []) = u') := hu'
      have nn256 : nn ≤ 256 := by omega
      have HD2 : Hid (Tu nn hb' [] σ2 ∧ Tq σ2) := ⟨hd2, hqd⟩
      have HO2 : Hid (Inv 2 σ2) := okd
      have HW2 : Hid (Well σ2) := hwd
      have HCell : Hid (∀ W x σ, AtT [] w x b σ W → W.cell? ⟨g, off + j, none⟩ = some (.string s)) := fun W x σ hW => (hW.kp.cell (a := ⟨g, off + j, none⟩) hg (by simp)).trans hcell
      clear hnn hhb hu' hpc hqc hqd hd2 okd hwd ok1 hwp htu htq okσ hwσ hcell hul hs
      go_wp2_with (first
        | (go_at_call 18; refine (HS1.out _ _ hR).mono ?_; clear HS1; rintro e V1 ⟨rfl, hV1, hk1⟩)
        | (refine wpList_store_whole rfl (.tmp 10) (.tmp 39) 42 rfl V1.heap.size rfl (stL n o1 c1 s1 hb q1) rfl 42 zero6 (Blk.new V1 _ _) rfl rfl (stL_one _ _ _ _ _ _) ?_))
      intro V2 hb2 hg2 hz2
      obtain ⟨hV2, hk2⟩ := hV1.filled _ hg2
      obtain ⟨B1, hB1⟩ : ∃ B1, V1.heap.size = B1 := ⟨_, rfl⟩
      rw [hB1] at hV2 hb2 ⊢
      have hc2 := HCell.out _ _ _ hV2
      clear hg2 hz2 hV1 hk1 hk2 hB1 hR
      go_wp2_with (first
        | (go_at_call 13; refine (HRc.out _ _ hV2).mono ?_; clear HRc; rintro e V3 ⟨rfl, hV3, hk3⟩; have hb3 := hk3.blk hb2 (by simp))
        | (go_at_call 15; refine (HAl.out _ _ hV3).mono ?_; clear HAl; rintro e V4 ⟨rfl, hV4, hk4⟩; have hb4 := hk4.blk hb3 (by simp); have hc4 := HCell.out _ _ _ hV4; have hi4 := hb4.cell 0 rfl))
      go_quiet (fail)
      have HV4 : Hid (∀ k, AtT [] w [] b σ2 (V4.drewN k)) := fun k => (hV4.drewN k).weaken fun g hg => by cases hg
      clear hb2 hb3 hb4 hc2 hc4 hi4 hk3 hk4 hV2 hV3 hV4
      go_upto_if 57 with fail
      go_cut [12] (fun s12 wx => s12 = .int .i64 nn ∧ ∃ k, wx = V4.drewN k)
      case first =>
        go_wp2_with fail
        all_goals (go_meet; refine ⟨?_, _, rfl⟩; have := HNN.out; congr 1; omega)
      case rest =>
      obtain ⟨rfl, kd, rfl⟩ := hcut
      have hV5 := HV4.out kd
      generalize V4.drewN kd = V5 at *
      have hcs : (hb = true ∧ hb' = true ∧ u' = []) ∨ (hb = false ∧ hb' = true ∧ u' = [19] ∧ 192 ≤ nn) ∨ (hb = false ∧ hb' = false ∧ u' = [] ∧ ¬ 192 ≤ nn) := by
        have e1 := HHB.out
        have e2 := HU.out
        cases hb with
        | true => left; simp at e1 e2; exact ⟨rfl, by first | exact e1 | exact e1.symm, by first | exact e2 | exact e2.symm⟩
        | false =>
          by_cases h192 : 192 ≤ nn
          · right; left; simp [h192] at e1 e2; exact ⟨rfl, by first | exact e1 | exact e1.symm, by first | exact e2 | exact e2.symm, h192⟩
          · right; right; simp [h192] at e1 e2; exact ⟨rfl, by first | exact e1 | exact e1.symm, by first | exact e2 | exact e2.symm, h192⟩
      clear HV4 HHB HU HNN
      rcases hcs with ⟨rfl, rfl, rfl⟩ | ⟨rfl, rfl, rfl, h192⟩ | ⟨rfl, rfl, rfl, h192⟩
      · rw [str_0]
        by_cases hrj : j < rs.length
        · have hrj' : ¬ (rs.length : Int) ≤ (j : Int) := by omega
          have hrj2 : (j : Int) < (rs.length : Int) := by omega
          obtain ⟨rv, hrv⟩ : ∃ rv, rs[j]? = some rv := ⟨rs[j], List.getElem?_eq_getElem hrj⟩
          obtain ⟨hvr, g2, off2, rfl, hg2, hcell2⟩ := HR0.out j rv hrv
          have HC2 : Hid (∀ W x σ, AtT [] w x b σ W → W.cell? ⟨g2, off2 + j, none⟩ = some (.int .i64 rv)) := fun W x σ hW => (hW.kp.cell (a := ⟨g2, off2 + j, none⟩) hg2 (by simp)).trans hcell2
          have p2 := pickN_lt rv 256 (by omega)
          have hpk := fun W => kpick_any rv 256 W (by omega) (by omega) hvr.1 hvr.2
          obtain ⟨k0, hk0⟩ : ∃ k0 : Nat, pickN rv 256 = (k0 : Int) := ⟨(pickN rv 256).toNat, by omega⟩
          rw [hk0] at hpk p2
          obtain ⟨p21, p22⟩ := p2
          obtain ⟨k, hk⟩ : ∃ k : Nat, k = 1 + k0 := ⟨_, rfl⟩
          have HK1 : Hid ((1 + (k0 : Int)) = (k : Int)) := by show (1 + (k0 : Int)) = (k : Int); omega
          have hk1 : 1 ≤ k := by omega
          have hk2 : k ≤ 256 := by omega
          obtain ⟨hf1, ⟨d, hf2, hf3⟩, htf⟩ := HD2.out.1.fetched k hk1 hk2
          obtain ⟨kk, hkk⟩ : ∃ kk : Nat, min k nn = kk := ⟨_, rfl⟩
          rw [hkk] at hf3
          have HKK : Hid (min k nn = kk) := hkk
          have HDL : Hid (d.length = kk) := hf3
          have HFE : Hid (fetched σ2 (k : Int) = true) := by show fetched σ2 (k : Int) = true; unfold fetched; rw [hf1, hf2]; rfl
          have HDD : Hid ((σ2.read (k : Int)).1.take.2.1 = d) := by show (σ2.read (k : Int)).1.take.2.1 = d; rw [hf2]
          obtain ⟨m, hm⟩ : ∃ m : Nat, nn - k = m := ⟨_, rfl⟩
          rw [hm] at htf
          have HM : Hid (nn - k = m) := hm
          clear hf1 hf2 hf3 hkk hm hk hk0 hcell2 hrv hk1 hk2
          by_cases h64 : m ≤ 64
          · have HF : Hid (∀ W x, AtT [] w x b σ2 W → Calls Try.prog 16 #[.pointer (some ⟨b, 0, none⟩), .int .i64 (1 + (k0 : Int))] W fun e w' => e = .returned (.tuple #[.string (str d), .bool true]) ∧ AtT [] w x b (σ2.read k).1.take.1 w' ∧ Kq x W w') := fun W x hW => hW.calls fun S u h => by
              have := kfetch_any S u x b σ2 W 2 h HO2.out (by omega) HW2.out (k : Int)
              rw [HFE.out, HDD.out, ← HK1.out] at this
              rw [← HK1.out]
              exact this
            have h64' : ((m : Nat) : Int) ≤ 64 := by omega
            replace htf : Tu m false [17] (σ2.read k).1.take.1 := by
              have e1 : ¬ 64 < m := by omega
              simpa [h64, e1] using htf
            have hsen := htf.sent 1099511627776 (by simp)
            obtain ⟨hd3, hd4⟩ := hsen
            have hq3 := (HD2.out.2.read k).take
            have ok3 : Inv 2 (σ2.read k).1.take.1 := hq3.inv (HO2.out.read k).take (by rw [htf.urg]; simp)
            have hw3 : Well (σ2.read k).1.take.1 := (from_take _).well ((from_read _ _).well HW2.out)
            clear HFE HDD HD2
            generalize (σ2.read k).1.take.1 = σ3 at *
            have HAl : Hid (∀ W x, AtT [] w x b σ3 W → Calls Try.prog 15 #[.pointer (some ⟨b, 0, none⟩)] W fun e w' => e = .returned (.string ⟨#[17]⟩) ∧ AtT [] w x b (σ3.drain 1099511627776).1 w' ∧ Kq x W w') := fun W x hW => hW.calls fun S u h => by
              have := all_any S u x b σ3 W 2 h ok3 (by omega)
              rw [hd3] at this; exact this
            have hq4 := hq3.drain 1099511627776
            have HO4 : Hid (Inv 2 (σ3.drain 1099511627776).1) := hq4.inv (ok3.drain _) (by rw [hd4.urg]; simp)
            have HW4 : Hid (Well (σ3.drain 1099511627776).1) := (from_drain _ _).well hw3
            clear hd3
            generalize (σ3.drain 1099511627776).1 = σ4 at *
            obtain ⟨o4, c4, s4, q4, HS4⟩ := TStatus_l w b σ4 m false hd4.inq hd4.held
            have HD4 : Hid (Tu m false [] σ4 ∧ Tq σ4) := ⟨hd4, hq4⟩
            clear htf hd4 hq3 hq4 ok3 hw3 HO2 HW2
            go_wp2_with (first
              | (go_at_call 18; refine (HS2.out _ _ hV5).mono ?_; clear HS2; rintro e V6 ⟨rfl, hV6, hk6⟩)
              | (refine wpList_store_whole rfl (.tmp 14) (.tmp 65) 42 rfl V6.heap.size rfl (stL nn o2 c2 s2 true q2) rfl 42 zero6 (Blk.new V6 _ _) rfl rfl (stL_one _ _ _ _ _ _) ?_))
            intro V7 hb7 hg7 hz7
            obtain ⟨hV7, hk7⟩ := hV6.filled _ hg7
            obtain ⟨B2, hB2⟩ : ∃ B2, V6.heap.size = B2 := ⟨_, rfl⟩
            have hB2w : w.heap.size ≤ B2 := by rw [← hB2]; exact hV6.kp.size
            rw [hB2] at hV7 hb7 ⊢
            have ci := hb7.cell 0 rfl
            have ch := hb7.cell 4 rfl
            have hc7 := HC2.out _ _ _ hV7
            clear hg7 hz7 hV6 hk6 hk7 hB2 hV5
            go_upto_if 99 with (first
              | (go_at_call 19; refine (hpk _).mono ?_; clear hpk; rintro e w' ⟨rfl, hw⟩; have hw := hw.symm; subst hw)
              | (go_at_call 16; refine (HF.out _ _ hV7).mono ?_; clear HF; rintro e V8 ⟨rfl, hV8, hk8⟩; have hb8 := hk8.blk hb7 (by simp)))
            clear hb7 ci ch hc7 hV7 hk8
            go_cut [15] (fun s15 wx => s15 = .int .i64 kk ∧ wx = V8)
            case first =>
              go_wp2_with fail
              all_goals (go_meet; exact ⟨by have := HK1.out; have := HKK.out; congr 1; omega, rfl⟩)
            case rest =>
            obtain ⟨rfl, rfl⟩ := hcut
            have hdz : ((str d).size : Int) = (kk : Int) := by rw [str_size, HDL.out]
            have hnk : (nn : Int) - (kk : Int) = (m : Int) := by have := HKK.out; have := HM.out; omega
            go_wp2_with (first
              | (go_at_call 15; refine (HAl.out _ _ hV8).mono ?_; clear HAl; rintro e V9 ⟨rfl, hV9, hk9⟩; have hb9 := hk9.blk hb8 (by simp))
              | (go_at_call 18; refine (HS4.out _ _ hV9).mono ?_; clear HS4; rintro e Va ⟨rfl, hVa, hka⟩; have hba := hka.blk hb9 (by simp); clear hka hk9 hb8 hb9 hV8 hV9)
              | (refine wpList_store_whole rfl (.tmp 14) (.tmp 111) 42 rfl B2 rfl (stL m o4 c4 s4 false q4) rfl 42 (stL nn o2 c2 s2 true q2) hba rfl rfl (stL_one _ _ _ _ _ _) ?_))
            intro Vb hbb hgb hzb
            have hVb : AtT [] w [] b σ4 Vb := (hVa.grown hgb fun g e => by cases e; exact ⟨by simp, hB2w⟩).weaken fun g hg => by cases hg
            have ci := hbb.cell 0 rfl
            have ch := hbb.cell 4 rfl
            clear hba hVa hgb hzb hbb
            go_wp2_with fail
            go_roundg (gk - 1)
            case measure => omega
            case rel => exact ⟨j + 1, m, false, σ4, by omega, rfl, by go_num, hVb, HD4, HO4, HW4⟩
          · have HF : Hid (∀ W x, AtT [] w x b σ2 W → Calls Try.prog 16 #[.pointer (some ⟨b, 0, none⟩), .int .i64 (1 + (k0 : Int))] W fun e w' => e = .returned (.tuple #[.string (str d), .bool true]) ∧ AtT [] w x b (σ2.read k).1.take.1 w' ∧ Kq x W w') := fun W x hW => hW.calls fun S u h => by
              have := kfetch_any S u x b σ2 W 2 h HO2.out (by omega) HW2.out (k : Int)
              rw [HFE.out, HDD.out, ← HK1.out] at this
              rw [← HK1.out]
              exact this
            have h64' : ¬ ((m : Nat) : Int) ≤ 64 := by omega
            replace htf : Tu m true [] (σ2.read k).1.take.1 := by
              have e1 : 64 < m := by omega
              simpa [h64, e1] using htf
            have hsen := htf.sent 1099511627776 (by simp)
            obtain ⟨hd3, hd4⟩ := hsen
            have hq3 := (HD2.out.2.read k).take
            have ok3 : Inv 2 (σ2.read k).1.take.1 := hq3.inv (HO2.out.read k).take (by rw [htf.urg]; simp)
            have hw3 : Well (σ2.read k).1.take.1 := (from_take _).well ((from_read _ _).well HW2.out)
            clear HFE HDD HD2
            generalize (σ2.read k).1.take.1 = σ3 at *
            have HAl : Hid (∀ W x, AtT [] w x b σ3 W → Calls Try.prog 15 #[.pointer (some ⟨b, 0, none⟩)] W fun e w' => e = .returned (.string ⟨#[]⟩) ∧ AtT [] w x b (σ3.drain 1099511627776).1 w' ∧ Kq x W w') := fun W x hW => hW.calls fun S u h => by
              have := all_any S u x b σ3 W 2 h ok3 (by omega)
              rw [hd3] at this; exact this
            have hq4 := hq3.drain 1099511627776
            have HO4 : Hid (Inv 2 (σ3.drain 1099511627776).1) := hq4.inv (ok3.drain _) (by rw [hd4.urg]; simp)
            have HW4 : Hid (Well (σ3.drain 1099511627776).1) := (from_drain _ _).well hw3
            clear hd3
            generalize (σ3.drain 1099511627776).1 = σ4 at *
            obtain ⟨o4, c4, s4, q4, HS4⟩ := TStatus_l w b σ4 m true hd4.inq hd4.held
            have HD4 : Hid (Tu m true [] σ4 ∧ Tq σ4) := ⟨hd4, hq4⟩
            clear htf hd4 hq3 hq4 ok3 hw3 HO2 HW2
            go_wp2_with (first
              | (go_at_call 18; refine (HS2.out _ _ hV5).mono ?_; clear HS2; rintro e V6 ⟨rfl, hV6, hk6⟩)
              | (refine wpList_store_whole rfl (.tmp 14) (.tmp 65) 42 rfl V6.heap.size rfl (stL nn o2 c2 s2 true q2) rfl 42 zero6 (Blk.new V6 _ _) rfl rfl (stL_one _ _ _ _ _ _) ?_))
            intro V7 hb7 hg7 hz7
            obtain ⟨hV7, hk7⟩ := hV6.filled _ hg7
            obtain ⟨B2, hB2⟩ : ∃ B2, V6.heap.size = B2 := ⟨_, rfl⟩
            have hB2w : w.heap.size ≤ B2 := by rw [← hB2]; exact hV6.kp.size
            rw [hB2] at hV7 hb7 ⊢
            have ci := hb7.cell 0 rfl
            have ch := hb7.cell 4 rfl
            have hc7 := HC2.out _ _ _ hV7
            clear hg7 hz7 hV6 hk6 hk7 hB2 hV5
            go_upto_if 99 with (first
              | (go_at_call 19; refine (hpk _).mono ?_; clear hpk; rintro e w' ⟨rfl, hw⟩; have hw := hw.symm; subst hw)
              | (go_at_call 16; refine (HF.out _ _ hV7).mono ?_; clear HF; rintro e V8 ⟨rfl, hV8, hk8⟩; have hb8 := hk8.blk hb7 (by simp)))
            clear hb7 ci ch hc7 hV7 hk8
            go_cut [15] (fun s15 wx => s15 = .int .i64 kk ∧ wx = V8)
            case first =>
              go_wp2_with fail
              all_goals (go_meet; exact ⟨by have := HK1.out; have := HKK.out; congr 1; omega, rfl⟩)
            case rest =>
            obtain ⟨rfl, rfl⟩ := hcut
            have hdz : ((str d).size : Int) = (kk : Int) := by rw [str_size, HDL.out]
            have hnk : (nn : Int) - (kk : Int) = (m : Int) := by have := HKK.out; have := HM.out; omega
            go_wp2_with (first
              | (go_at_call 15; refine (HAl.out _ _ hV8).mono ?_; clear HAl; rintro e V9 ⟨rfl, hV9, hk9⟩; have hb9 := hk9.blk hb8 (by simp))
              | (go_at_call 18; refine (HS4.out _ _ hV9).mono ?_; clear HS4; rintro e Va ⟨rfl, hVa, hka⟩; have hba := hka.blk hb9 (by simp); clear hka hk9 hb8 hb9 hV8 hV9)
              | (refine wpList_store_whole rfl (.tmp 14) (.tmp 111) 42 rfl B2 rfl (stL m o4 c4 s4 true q4) rfl 42 (stL nn o2 c2 s2 true q2) hba rfl rfl (stL_one _ _ _ _ _ _) ?_))
            intro Vb hbb hgb hzb
            have hVb : AtT [] w [] b σ4 Vb := (hVa.grown hgb fun g e => by cases e; exact ⟨by simp, hB2w⟩).weaken fun g hg => by cases hg
            have ci := hbb.cell 0 rfl
            have ch := hbb.cell 4 rfl
            clear hba hVa hgb hzb hbb
            go_wp2_with fail
            go_roundg (gk - 1)
            case measure => omega
            case rel => exact ⟨j + 1, m, true, σ4, by omega, rfl, by go_num, hVb, HD4, HO4, HW4⟩
        · have hrj' : (rs.length : Int) ≤ (j : Int) := by omega
          go_wp2_with (first
            | (go_at_call 18; refine (HS2.out _ _ hV5).mono ?_; clear HS2; rintro e V6 ⟨rfl, hV6, hk6⟩)
            | (refine wpList_store_whole rfl (.tmp 14) (.tmp 65) 42 rfl V6.heap.size rfl (stL nn o2 c2 s2 true q2) rfl 42 zero6 (Blk.new V6 _ _) rfl rfl (stL_one _ _ _ _ _ _) ?_))
          intro V7 hb7 hg7 hz7
          obtain ⟨hV7, hk7⟩ := hV6.filled _ hg7
          have ci := hb7.cell 0 rfl
          have ch := hb7.cell 4 rfl
          have hV8 : AtT [] w [] b σ2 V7 := hV7.weaken fun g hg => by cases hg
          clear hg7 hz7 hV6 hk6 hk7 hb7
          go_wp2_with fail
          go_roundg (gk - 1)
          case measure => omega
          case rel => exact ⟨j + 1, nn, true, σ2, by omega, rfl, by go_num, hV8, HD2, HO2, HW2⟩
      · rw [str_19]
        have h192' : (192 : Int) ≤ (nn : Int) := by omega
        by_cases hrj : j < rs.length
        · have hrj' : ¬ (rs.length : Int) ≤ (j : Int) := by omega
          have hrj2 : (j : Int) < (rs.length : Int) := by omega
          obtain ⟨rv, hrv⟩ : ∃ rv, rs[j]? = some rv := ⟨rs[j], List.getElem?_eq_getElem hrj⟩
          obtain ⟨hvr, g2, off2, rfl, hg2, hcell2⟩ := HR0.out j rv hrv
          have HC2 : Hid (∀ W x σ, AtT [] w x b σ W → W.cell? ⟨g2, off2 + j, none⟩ = some (.int .i64 rv)) := fun W x σ hW => (hW.kp.cell (a := ⟨g2, off2 + j, none⟩) hg2 (by simp)).trans hcell2
          have p2 := pickN_lt rv 256 (by omega)
          have hpk := fun W => kpick_any rv 256 W (by omega) (by omega) hvr.1 hvr.2
          obtain ⟨k0, hk0⟩ : ∃ k0 : Nat, pickN rv 256 = (k0 : Int) := ⟨(pickN rv 256).toNat, by omega⟩
          rw [hk0] at hpk p2
          obtain ⟨p21, p22⟩ := p2
          obtain ⟨k, hk⟩ : ∃ k : Nat, k = 1 + k0 := ⟨_, rfl⟩
          have HK1 : Hid ((1 + (k0 : Int)) = (k : Int)) := by show (1 + (k0 : Int)) = (k : Int); omega
          have hk1 : 1 ≤ k := by omega
          have hk2 : k ≤ 256 := by omega
          obtain ⟨hf1, ⟨d, hf2, hf3⟩, htf⟩ := HD2.out.1.fetched k hk1 hk2
          obtain ⟨kk, hkk⟩ : ∃ kk : Nat, min k nn = kk := ⟨_, rfl⟩
          rw [hkk] at hf3
          have HKK : Hid (min k nn = kk) := hkk
          have HDL : Hid (d.length = kk) := hf3
          have HFE : Hid (fetched σ2 (k : Int) = true) := by show fetched σ2 (k : Int) = true; unfold fetched; rw [hf1, hf2]; rfl
          have HDD : Hid ((σ2.read (k : Int)).1.take.2.1 = d) := by show (σ2.read (k : Int)).1.take.2.1 = d; rw [hf2]
          obtain ⟨m, hm⟩ : ∃ m : Nat, nn - k = m := ⟨_, rfl⟩
          rw [hm] at htf
          have HM : Hid (nn - k = m) := hm
          clear hf1 hf2 hf3 hkk hm hk hk0 hcell2 hrv hk1 hk2
          by_cases h64 : m ≤ 64
          · have HF : Hid (∀ W x, AtT [] w x b σ2 W → Calls Try.prog 16 #[.pointer (some ⟨b, 0, none⟩), .int .i64 (1 + (k0 : Int))] W fun e w' => e = .returned (.tuple #[.string (str d), .bool true]) ∧ AtT [] w x b (σ2.read k).1.take.1 w' ∧ Kq x W w') := fun W x hW => hW.calls fun S u h => by
              have := kfetch_any S u x b σ2 W 2 h HO2.out (by omega) HW2.out (k : Int)
              rw [HFE.out, HDD.out, ← HK1.out] at this
              rw [← HK1.out]
              exact this
            have h64' : ((m : Nat) : Int) ≤ 64 := by omega
            replace htf : Tu m false [17] (σ2.read k).1.take.1 := by
              have e1 : ¬ 64 < m := by omega
              simpa [h64, e1] using htf
            have hsen := htf.sent 1099511627776 (by simp)
            obtain ⟨hd3, hd4⟩ := hsen
            have hq3 := (HD2.out.2.read k).take
            have ok3 : Inv 2 (σ2.read k).1.take.1 := hq3.inv (HO2.out.read k).take (by rw [htf.urg]; simp)
            have hw3 : Well (σ2.read k).1.take.1 := (from_take _).well ((from_read _ _).well HW2.out)
            clear HFE HDD HD2
            generalize (σ2.read k).1.take.1 = σ3 at *
            have HAl : Hid (∀ W x, AtT [] w x b σ3 W → Calls Try.prog 15 #[.pointer (some ⟨b, 0, none⟩)] W fun e w' => e = .returned (.string ⟨#[17]⟩) ∧ AtT [] w x b (σ3.drain 1099511627776).1 w' ∧ Kq x W w') := fun W x hW => hW.calls fun S u h => by
              have := all_any S u x b σ3 W 2 h ok3 (by omega)
              rw [hd3] at this; exact this
            have hq4 := hq3.drain 1099511627776
            have HO4 : Hid (Inv 2 (σ3.drain 1099511627776).1) := hq4.inv (ok3.drain _) (by rw [hd4.urg]; simp)
            have HW4 : Hid (Well (σ3.drain 1099511627776).1) := (from_drain _ _).well hw3
            clear hd3
            generalize (σ3.drain 1099511627776).1 = σ4 at *
            obtain ⟨o4, c4, s4, q4, HS4⟩ := TStatus_l w b σ4 m false hd4.inq hd4.held
            have HD4 : Hid (Tu m false [] σ4 ∧ Tq σ4) := ⟨hd4, hq4⟩
            clear htf hd4 hq3 hq4 ok3 hw3 HO2 HW2
            go_wp2_with (first
              | (go_at_call 18; refine (HS2.out _ _ hV5).mono ?_; clear HS2; rintro e V6 ⟨rfl, hV6, hk6⟩)
              | (refine wpList_store_whole rfl (.tmp 14) (.tmp 65) 42 rfl V6.heap.size rfl (stL nn o2 c2 s2 true q2) rfl 42 zero6 (Blk.new V6 _ _) rfl rfl (stL_one _ _ _ _ _ _) ?_))
            intro V7 hb7 hg7 hz7
            obtain ⟨hV7, hk7⟩ := hV6.filled _ hg7
            obtain ⟨B2, hB2⟩ : ∃ B2, V6.heap.size = B2 := ⟨_, rfl⟩
            have hB2w : w.heap.size ≤ B2 := by rw [← hB2]; exact hV6.kp.size
            rw [hB2] at hV7 hb7 ⊢
            have ci := hb7.cell 0 rfl
            have ch := hb7.cell 4 rfl
            have hc7 := HC2.out _ _ _ hV7
            clear hg7 hz7 hV6 hk6 hk7 hB2 hV5
            go_upto_if 99 with (first
              | (go_at_call 19; refine (hpk _).mono ?_; clear hpk; rintro e w' ⟨rfl, hw⟩; have hw := hw.symm; subst hw)
              | (go_at_call 16; refine (HF.out _ _ hV7).mono ?_; clear HF; rintro e V8 ⟨rfl, hV8, hk8⟩; have hb8 := hk8.blk hb7 (by simp)))
            clear hb7 ci ch hc7 hV7 hk8
            go_cut [15] (fun s15 wx => s15 = .int .i64 kk ∧ wx = V8)
            case first =>
              go_wp2_with fail
              all_goals (go_meet; exact ⟨by have := HK1.out; have := HKK.out; congr 1; omega, rfl⟩)
            case rest =>
            obtain ⟨rfl, rfl⟩ := hcut
            have hdz : ((str d).size : Int) = (kk : Int) := by rw [str_size, HDL.out]
            have hnk : (nn : Int) - (kk : Int) = (m : Int) := by have := HKK.out; have := HM.out; omega
            go_wp2_with (first
              | (go_at_call 15; refine (HAl.out _ _ hV8).mono ?_; clear HAl; rintro e V9 ⟨rfl, hV9, hk9⟩; have hb9 := hk9.blk hb8 (by simp))
              | (go_at_call 18; refine (HS4.out _ _ hV9).mono ?_; clear HS4; rintro e Va ⟨rfl, hVa, hka⟩; have hba := hka.blk hb9 (by simp); clear hka hk9 hb8 hb9 hV8 hV9)
              | (refine wpList_store_whole rfl (.tmp 14) (.tmp 111) 42 rfl B2 rfl (stL m o4 c4 s4 false q4) rfl 42 (stL nn o2 c2 s2 true q2) hba rfl rfl (stL_one _ _ _ _ _ _) ?_))
            intro Vb hbb hgb hzb
            have hVb : AtT [] w [] b σ4 Vb := (hVa.grown hgb fun g e => by cases e; exact ⟨by simp, hB2w⟩).weaken fun g hg => by cases hg
            have ci := hbb.cell 0 rfl
            have ch := hbb.cell 4 rfl
            clear hba hVa hgb hzb hbb
            go_wp2_with fail
            go_roundg (gk - 1)
            case measure => omega
            case rel => exact ⟨j + 1, m, false, σ4, by omega, rfl, by go_num, hVb, HD4, HO4, HW4⟩
          · have HF : Hid (∀ W x, AtT [] w x b σ2 W → Calls Try.prog 16 #[.pointer (some ⟨b, 0, none⟩), .int .i64 (1 + (k0 : Int))] W fun e w' => e = .returned (.tuple #[.string (str d), .bool true]) ∧ AtT [] w x b (σ2.read k).1.take.1 w' ∧ Kq x W w') := fun W x hW => hW.calls fun S u h => by
              have := kfetch_any S u x b σ2 W 2 h HO2.out (by omega) HW2.out (k : Int)
              rw [HFE.out, HDD.out, ← HK1.out] at this
              rw [← HK1.out]
              exact this
            have h64' : ¬ ((m : Nat) : Int) ≤ 64 := by omega
            replace htf : Tu m true [] (σ2.read k).1.take.1 := by
              have e1 : 64 < m := by omega
              simpa [h64, e1] using htf
            have hsen := htf.sent 1099511627776 (by simp)
            obtain ⟨hd3, hd4⟩ := hsen
            have hq3 := (HD2.out.2.read k).take
            have ok3 : Inv 2 (σ2.read k).1.take.1 := hq3.inv (HO2.out.read k).take (by rw [htf.urg]; simp)
            have hw3 : Well (σ2.read k).1.take.1 := (from_take _).well ((from_read _ _).well HW2.out)
            clear HFE HDD HD2
            generalize (σ2.read k).1.take.1 = σ3 at *
            have HAl : Hid (∀ W x, AtT [] w x b σ3 W → Calls Try.prog 15 #[.pointer (some ⟨b, 0, none⟩)] W fun e w' => e = .returned (.string ⟨#[]⟩) ∧ AtT [] w x b (σ3.drain 1099511627776).1 w' ∧ Kq x W w') := fun W x hW => hW.calls fun S u h => by
              have := all_any S u x b σ3 W 2 h ok3 (by omega)
              rw [hd3] at this; exact this
            have hq4 := hq3.drain 1099511627776
            have HO4 : Hid (Inv 2 (σ3.drain 1099511627776).1) := hq4.inv (ok3.drain _) (by rw [hd4.urg]; simp)
            have HW4 : Hid (Well (σ3.drain 1099511627776).1) := (from_drain _ _).well hw3
            clear hd3
            generalize (σ3.drain 1099511627776).1 = σ4 at *
            obtain ⟨o4, c4, s4, q4, HS4⟩ := TStatus_l w b σ4 m true hd4.inq hd4.held
            have HD4 : Hid (Tu m true [] σ4 ∧ Tq σ4) := ⟨hd4, hq4⟩
            clear htf hd4 hq3 hq4 ok3 hw3 HO2 HW2
            go_wp2_with (first
              | (go_at_call 18; refine (HS2.out _ _ hV5).mono ?_; clear HS2; rintro e V6 ⟨rfl, hV6, hk6⟩)
              | (refine wpList_store_whole rfl (.tmp 14) (.tmp 65) 42 rfl V6.heap.size rfl (stL nn o2 c2 s2 true q2) rfl 42 zero6 (Blk.new V6 _ _) rfl rfl (stL_one _ _ _ _ _ _) ?_))
            intro V7 hb7 hg7 hz7
            obtain ⟨hV7, hk7⟩ := hV6.filled _ hg7
            obtain ⟨B2, hB2⟩ : ∃ B2, V6.heap.size = B2 := ⟨_, rfl⟩
            have hB2w : w.heap.size ≤ B2 := by rw [← hB2]; exact hV6.kp.size
            rw [hB2] at hV7 hb7 ⊢
            have ci := hb7.cell 0 rfl
            have ch := hb7.cell 4 rfl
            have hc7 := HC2.out _ _ _ hV7
            clear hg7 hz7 hV6 hk6 hk7 hB2 hV5
            go_upto_if 99 with (first
              | (go_at_call 19; refine (hpk _).mono ?_; clear hpk; rintro e w' ⟨rfl, hw⟩; have hw := hw.symm; subst hw)
              | (go_at_call 16; refine (HF.out _ _ hV7).mono ?_; clear HF; rintro e V8 ⟨rfl, hV8, hk8⟩; have hb8 := hk8.blk hb7 (by simp)))
            clear hb7 ci ch hc7 hV7 hk8
            go_cut [15] (fun s15 wx => s15 = .int .i64 kk ∧ wx = V8)
            case first =>
              go_wp2_with fail
              all_goals (go_meet; exact ⟨by have := HK1.out; have := HKK.out; congr 1; omega, rfl⟩)
            case rest =>
            obtain ⟨rfl, rfl⟩ := hcut
            have hdz : ((str d).size : Int) = (kk : Int) := by rw [str_size, HDL.out]
            have hnk : (nn : Int) - (kk : Int) = (m : Int) := by have := HKK.out; have := HM.out; omega
            go_wp2_with (first
              | (go_at_call 15; refine (HAl.out _ _ hV8).mono ?_; clear HAl; rintro e V9 ⟨rfl, hV9, hk9⟩; have hb9 := hk9.blk hb8 (by simp))
              | (go_at_call 18; refine (HS4.out _ _ hV9).mono ?_; clear HS4; rintro e Va ⟨rfl, hVa, hka⟩; have hba := hka.blk hb9 (by simp); clear hka hk9 hb8 hb9 hV8 hV9)
              | (refine wpList_store_whole rfl (.tmp 14) (.tmp 111) 42 rfl B2 rfl (stL m o4 c4 s4 true q4) rfl 42 (stL nn o2 c2 s2 true q2) hba rfl rfl (stL_one _ _ _ _ _ _) ?_))
            intro Vb hbb hgb hzb
            have hVb : AtT [] w [] b σ4 Vb := (hVa.grown hgb fun g e => by cases e; exact ⟨by simp, hB2w⟩).weaken fun g hg => by cases hg
            have ci := hbb.cell 0 rfl
            have ch := hbb.cell 4 rfl
            clear hba hVa hgb hzb hbb
            go_wp2_with fail
            go_roundg (gk - 1)
            case measure => omega
            case rel => exact ⟨j + 1, m, true, σ4, by omega, rfl, by go_num, hVb, HD4, HO4, HW4⟩
        · have hrj' : (rs.length : Int) ≤ (j : Int) := by omega
          go_wp2_with (first
            | (go_at_call 18; refine (HS2.out _ _ hV5).mono ?_; clear HS2; rintro e V6 ⟨rfl, hV6, hk6⟩)
            | (refine wpList_store_whole rfl (.tmp 14) (.tmp 65) 42 rfl V6.heap.size rfl (stL nn o2 c2 s2 true q2) rfl 42 zero6 (Blk.new V6 _ _) rfl rfl (stL_one _ _ _ _ _ _) ?_))
          intro V7 hb7 hg7 hz7
          obtain ⟨hV7, hk7⟩ := hV6.filled _ hg7
          have ci := hb7.cell 0 rfl
          have ch := hb7.cell 4 rfl
          have hV8 : AtT [] w [] b σ2 V7 := hV7.weaken fun g hg => by cases hg
          clear hg7 hz7 hV6 hk6 hk7 hb7
          go_wp2_with fail
          go_roundg (gk - 1)
          case measure => omega
          case rel => exact ⟨j + 1, nn, true, σ2, by omega, rfl, by go_num, hV8, HD2, HO2, HW2⟩
      · rw [str_0]
        have h192' : ¬ (192 : Int) ≤ (nn : Int) := by omega
        by_cases hrj : j < rs.length
        · have hrj' : ¬ (rs.length : Int) ≤ (j : Int) := by omega
          have hrj2 : (j : Int) < (rs.length : Int) := by omega
          obtain ⟨rv, hrv⟩ : ∃ rv, rs[j]? = some rv := ⟨rs[j], List.getElem?_eq_getElem hrj⟩
          obtain ⟨hvr, g2, off2, rfl, hg2, hcell2⟩ := HR0.out j rv hrv
          have HC2 : Hid (∀ W x σ, AtT [] w x b σ W → W.cell? ⟨g2, off2 + j, none⟩ = some (.int .i64 rv)) := fun W x σ hW => (hW.kp.cell (a := ⟨g2, off2 + j, none⟩) hg2 (by simp)).trans hcell2
          have p2 := pickN_lt rv 256 (by omega)
          have hpk := fun W => kpick_any rv 256 W (by omega) (by omega) hvr.1 hvr.2
          obtain ⟨k0, hk0⟩ : ∃ k0 : Nat, pickN rv 256 = (k0 : Int) := ⟨(pickN rv 256).toNat, by omega⟩
          rw [hk0] at hpk p2
          obtain ⟨p21, p22⟩ := p2
          obtain ⟨k, hk⟩ : ∃ k : Nat, k = 1 + k0 := ⟨_, rfl⟩
          have HK1 : Hid ((1 + (k0 : Int)) = (k : Int)) := by show (1 + (k0 : Int)) = (k : Int); omega
          have hk1 : 1 ≤ k := by omega
          have hk2 : k ≤ 256 := by omega
          obtain ⟨hf1, ⟨d, hf2, hf3⟩, htf⟩ := HD2.out.1.fetched k hk1 hk2
          obtain ⟨kk, hkk⟩ : ∃ kk : Nat, min k nn = kk := ⟨_, rfl⟩
          rw [hkk] at hf3
          have HKK : Hid (min k nn = kk) := hkk
          have HDL : Hid (d.length = kk) := hf3
          have HFE : Hid (fetched σ2 (k : Int) = true) := by show fetched σ2 (k : Int) = true; unfold fetched; rw [hf1, hf2]; rfl
          have HDD : Hid ((σ2.read (k : Int)).1.take.2.1 = d) := by show (σ2.read (k : Int)).1.take.2.1 = d; rw [hf2]
          obtain ⟨m, hm⟩ : ∃ m : Nat, nn - k = m := ⟨_, rfl⟩
          rw [hm] at htf
          have HM : Hid (nn - k = m) := hm
          clear hf1 hf2 hf3 hkk hm hk hk0 hcell2 hrv hk1 hk2
          have HF : Hid (∀ W x, AtT [] w x b σ2 W → Calls Try.prog 16 #[.pointer (some ⟨b, 0, none⟩), .int .i64 (1 + (k0 : Int))] W fun e w' => e = .returned (.tuple #[.string (str d), .bool true]) ∧ AtT [] w x b (σ2.read k).1.take.1 w' ∧ Kq x W w') := fun W x hW => hW.calls fun S u h => by
            have := kfetch_any S u x b σ2 W 2 h HO2.out (by omega) HW2.out (k : Int)
            rw [HFE.out, HDD.out, ← HK1.out] at this
            rw [← HK1.out]
            exact this
          replace htf : Tu m false [] (σ2.read k).1.take.1 := by simpa using htf
          have hsen := htf.sent 1099511627776 (by simp)
          obtain ⟨hd3, hd4⟩ := hsen
          have hq3 := (HD2.out.2.read k).take
          have ok3 : Inv 2 (σ2.read k).1.take.1 := hq3.inv (HO2.out.read k).take (by rw [htf.urg]; simp)
          have hw3 : Well (σ2.read k).1.take.1 := (from_take _).well ((from_read _ _).well HW2.out)
          clear HFE HDD HD2
          generalize (σ2.read k).1.take.1 = σ3 at *
          have HAl : Hid (∀ W x, AtT [] w x b σ3 W → Calls Try.prog 15 #[.pointer (some ⟨b, 0, none⟩)] W fun e w' => e = .returned (.string ⟨#[]⟩) ∧ AtT [] w x b (σ3.drain 1099511627776).1 w' ∧ Kq x W w') := fun W x hW => hW.calls fun S u h => by
            have := all_any S u x b σ3 W 2 h ok3 (by omega)
            rw [hd3] at this; exact this
          have hq4 := hq3.drain 1099511627776
          have HO4 : Hid (Inv 2 (σ3.drain 1099511627776).1) := hq4.inv (ok3.drain _) (by rw [hd4.urg]; simp)
          have HW4 : Hid (Well (σ3.drain 1099511627776).1) := (from_drain _ _).well hw3
          clear hd3
          generalize (σ3.drain 1099511627776).1 = σ4 at *
          obtain ⟨o4, c4, s4, q4, HS4⟩ := TStatus_l w b σ4 m false hd4.inq hd4.held
          have HD4 : Hid (Tu m false [] σ4 ∧ Tq σ4) := ⟨hd4, hq4⟩
          clear htf hd4 hq3 hq4 ok3 hw3 HO2 HW2
          go_wp2_with (first
            | (go_at_call 18; refine (HS2.out _ _ hV5).mono ?_; clear HS2; rintro e V6 ⟨rfl, hV6, hk6⟩)
            | (refine wpList_store_whole rfl (.tmp 14) (.tmp 65) 42 rfl V6.heap.size rfl (stL nn o2 c2 s2 false q2) rfl 42 zero6 (Blk.new V6 _ _) rfl rfl (stL_one _ _ _ _ _ _) ?_))
          intro V7 hb7 hg7 hz7
          obtain ⟨hV7, hk7⟩ := hV6.filled _ hg7
          obtain ⟨B2, hB2⟩ : ∃ B2, V6.heap.size = B2 := ⟨_, rfl⟩
          have hB2w : w.heap.size ≤ B2 := by rw [← hB2]; exact hV6.kp.size
          rw [hB2] at hV7 hb7 ⊢
          have ci := hb7.cell 0 rfl
          have ch := hb7.cell 4 rfl
          have hc7 := HC2.out _ _ _ hV7
          clear hg7 hz7 hV6 hk6 hk7 hB2 hV5
          go_upto_if 99 with (first
            | (go_at_call 19; refine (hpk _).mono ?_; clear hpk; rintro e w' ⟨rfl, hw⟩; have hw := hw.symm; subst hw)
            | (go_at_call 16; refine (HF.out _ _ hV7).mono ?_; clear HF; rintro e V8 ⟨rfl, hV8, hk8⟩; have hb8 := hk8.blk hb7 (by simp)))
          clear hb7 ci ch hc7 hV7 hk8
          go_cut [15] (fun s15 wx => s15 = .int .i64 kk ∧ wx = V8)
          case first =>
            go_wp2_with fail
            all_goals (go_meet; exact ⟨by have := HK1.out; have := HKK.out; congr 1; omega, rfl⟩)
          case rest =>
          obtain ⟨rfl, rfl⟩ := hcut
          have hdz : ((str d).size : Int) = (kk : Int) := by rw [str_size, HDL.out]
          have hnk : (nn : Int) - (kk : Int) = (m : Int) := by have := HKK.out; have := HM.out; omega
          go_wp2_with (first
            | (go_at_call 15; refine (HAl.out _ _ hV8).mono ?_; clear HAl; rintro e V9 ⟨rfl, hV9, hk9⟩; have hb9 := hk9.blk hb8 (by simp))
            | (go_at_call 18; refine (HS4.out _ _ hV9).mono ?_; clear HS4; rintro e Va ⟨rfl, hVa, hka⟩; have hba := hka.blk hb9 (by simp); clear hka hk9 hb8 hb9 hV8 hV9)
            | (refine wpList_store_whole rfl (.tmp 14) (.tmp 111) 42 rfl B2 rfl (stL m o4 c4 s4 false q4) rfl 42 (stL nn o2 c2 s2 false q2) hba rfl rfl (stL_one _ _ _ _ _ _) ?_))
          intro Vb hbb hgb hzb
          have hVb : AtT [] w [] b σ4 Vb := (hVa.grown hgb fun g e => by cases e; exact ⟨by simp, hB2w⟩).weaken fun g hg => by cases hg
          have ci := hbb.cell 0 rfl
          have ch := hbb.cell 4 rfl
          clear hba hVa hgb hzb hbb
          go_wp2_with fail
          go_roundg (gk - 1)
          case measure => omega
          case rel => exact ⟨j + 1, m, false, σ4, by omega, rfl, by go_num, hVb, HD4, HO4, HW4⟩
        · have hrj' : (rs.length : Int) ≤ (j : Int) := by omega
          go_wp2_with (first
            | (go_at_call 18; refine (HS2.out _ _ hV5).mono ?_; clear HS2; rintro e V6 ⟨rfl, hV6, hk6⟩)
            | (refine wpList_store_whole rfl (.tmp 14) (.tmp 65) 42 rfl V6.heap.size rfl (stL nn o2 c2 s2 false q2) rfl 42 zero6 (Blk.new V6 _ _) rfl rfl (stL_one _ _ _ _ _ _) ?_))
          intro V7 hb7 hg7 hz7
          obtain ⟨hV7, hk7⟩ := hV6.filled _ hg7
          have ci := hb7.cell 0 rfl
          have ch := hb7.cell 4 rfl
          have hV8 : AtT [] w [] b σ2 V7 := hV7.weaken fun g hg => by cases hg
          clear hg7 hz7 hV6 hk6 hk7 hb7
          go_wp2_with fail
          go_roundg (gk - 1)
          case measure => omega
          case rel => exact ⟨j + 1, nn, false, σ2, by omega, rfl, by go_num, hV8, HD2, HO2, HW2⟩
    · obtain rfl : j = ps.length := by omega
      have HKP : Hid (Below w.heap.size w wr) := below_of hR
      go_wp2_with fail
      go_ret
      exact ⟨rfl, HKP.out⟩
end Go.Proofs.Ytfnglkhhmplejaa
