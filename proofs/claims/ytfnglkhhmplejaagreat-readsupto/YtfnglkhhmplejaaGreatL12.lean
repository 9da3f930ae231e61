/- The law: a step on a pair, of any kind: by the budget K. -/
import Derived.Test.YtfnglkhhmplejaaGreatLawT3
import Derived.Test.YtfnglkhhmplejaaGreatL8
import Derived.Test.YtfnglkhhmplejaaGreatL4
import Derived.Test.YtfnglkhhmplejaaGreatRef5
import Derived.Deep.LoopGhost
import Derived.Deep.Slices
import Derived.SliceStrings
import Derived.OpenShut
import Derived.WalkKit
import Derived.ProofKit
import Derived.ChangeOld
import Derived.SizedLaws
import Derived.Below
import Derived.JoinedCond
namespace Go.Proofs.YtfnglkhhmplejaaGreat
open Go Go.RowKit Go.Clk

/-- What is known of a terminal's state. -/
def Ib (K : Int) (σ : St) : Prop := Inv K σ ∧ Well σ
section
variable {K M : Int} {σ : St}
theorem Ib.mono (h : Ib K σ) (hd : K ≤ M) : Ib M σ := ⟨h.1.mono hd, h.2⟩
theorem Ib.new (h : 0 ≤ M) : Ib M newS := ⟨Inv.new.mono h, Well.new⟩
theorem Ib.signals (h : Ib K σ) : Ib K σ.signals.1 := ⟨InvC.signals h.1, h.2.signals⟩
theorem Ib.noted (h : Ib K σ) (hK : K ≤ 1099511500000) : σ.noted.length ≤ 1099511627776 := by have := h.1.noted; omega
end

section
variable (K : Int) (wb : Nat) (kind term n : Int) (s : ByteArray) (ss : List Int)

theorem does_kind (M : Nat) (hK : K + 2049 * (s.size + 1) ≤ 1099511500000) (hM : M ≤ 1000000000) (hk : 1 ≤ kind) (hk' : kind ≤ 13) (hn0 : -9223372036854775808 ≤ n) (hn1 : n ≤ 9223372036854775807) (hs : s.size ≤ 1048576) (hss : ss.length = 17) :
    DoesOk (Ib K) (Ib (K + 2049 * (s.size + 1))) M wb kind term n s ss := by
  have hsl : s.data.toList.length = s.size := by rw [Array.length_toList]; rfl
  have hK1 : K ≤ 1099511500000 := by omega
  have up : ∀ σ, Ib K σ → Ib (K + 2049 * (s.size + 1)) σ := fun σ h => h.mono (by omega)
  have hmx : s.size ≤ maxLen := by unfold maxLen; omega
  have cases : kind = 1 ∨ kind = 2 ∨ kind = 3 ∨ kind = 4 ∨ kind = 5 ∨ kind = 6 ∨ kind = 7 ∨ kind = 8 ∨ kind = 9 ∨ kind = 10 ∨ kind = 11 ∨ kind = 12 ∨ kind = 13 := by omega
  have d1 : ∀ i : Nat, 2 * i + 4 ≠ 2 * i + 5 := fun i => by omega
  have d2 : ∀ i : Nat, 2 * i + 4 ≠ 0 := fun i => by omega
  have d3 : ∀ i : Nat, 2 * i + 5 ≠ 0 := fun i => by omega
  rcases cases with rfl | rfl | rfl | rfl | rfl | rfl | rfl | rfl | rfl | rfl | rfl | rfl | rfl
  · refine does_of_dn M up fun W c i bt br σ hP hI => ?_
    exact (does_tell _ _ bt br wb σ σ W 1 term n s ss c hP hss rfl rfl rfl rfl rfl rfl rfl rfl (fun W' c' hP => tells_get c' _ _ bt br wb σ W' term n s ss hP (d1 i) (d2 i) (d3 i))).mono fun e w' hD => ⟨σ, up σ hI, hD⟩
  · refine does_of_dn M up fun W c i bt br σ hP hI => ?_
    exact (does_write K c _ _ bt br wb σ W term n s ss hP (d1 i) (d2 i) hI.1 (by omega) hmx).mono fun e w' hD => ⟨_, up _ ⟨InvC.write _ hI.1, (from_write _ σ).well hI.2⟩, hD⟩
  · refine does_of_dn M up fun W c i bt br σ hP hI => ?_
    rcases Int.lt_or_le n 0 with h0 | h0
    · exact (does_tell _ _ bt br wb σ σ W 3 term n s ss c hP hss rfl rfl rfl rfl rfl rfl rfl rfl (fun W' c' hP => tells_drain_no c' _ _ bt br wb σ W' term n s ss hP (d1 i) (d2 i) h0)).mono fun e w' hD => ⟨σ, up σ hI, hD⟩
    · exact (does_tell _ _ bt br wb σ _ W 3 term n s ss c hP hss rfl rfl rfl rfl rfl rfl rfl rfl (fun W' c' hP => tells_drain K c' _ _ bt br wb σ W' term n s ss hP (d1 i) (d2 i) h0 hn1 hI.1 hK1)).mono fun e w' hD => ⟨_, ⟨(hI.1.drain _).mono (by omega), (from_drain σ _).well hI.2⟩, hD⟩
  · refine does_of_dn M up fun W c i bt br σ hP hI => ?_
    exact (does_tell _ _ bt br wb σ σ W 4 term n s ss c hP hss rfl rfl rfl rfl rfl rfl rfl rfl (fun W' c' hP => tells_status c' _ _ bt br wb σ W' term n s ss hP (d1 i) (d2 i) (d3 i))).mono fun e w' hD => ⟨σ, up σ hI, hD⟩
  · refine does_of_dn M up fun W c i bt br σ hP hI => ?_
    exact (does_out K c _ _ bt br wb σ W term n s ss hP (d1 i) (d2 i) (d3 i) hI.1 hK1 hI.2 hss).mono fun e w' hD => ⟨_, ⟨(hI.1.set _ _).mono (by omega), hI.2.set _ _⟩, hD⟩
  · refine does_of_dn M up fun W c i bt br σ hP hI => ?_
    refine (does_receive K c _ _ bt br wb σ W term n s ss hP (d1 i) (d2 i) hI.1 hK hI.2 hs).mono fun e w' hD => ⟨_, ⟨?_, (from_receive σ n _).well hI.2⟩, hD⟩
    have := hI.1.receive n s.data.toList
    rw [hsl] at this
    exact this
  · exact does_signals M hM hss up fun σ h => ⟨up _ h.signals, h.noted hK1⟩
  · refine does_of_dn M up fun W c i bt br σ hP hI => ?_
    exact (does_set K c _ _ bt br wb σ W term n s ss hP (d1 i) (d2 i) hI.1 hK1 hI.2 hss).mono fun e w' hD => ⟨_, ⟨(hI.1.set _ _).mono (by omega), hI.2.set _ _⟩, hD⟩
  · refine does_of_dn M up fun W c i bt br σ hP hI => ?_
    exact (does_read K c _ _ bt br wb σ W term n s ss hP (d1 i) (d2 i) hI.1 hK1 hI.2 hn0 hn1).mono fun e w' hD => ⟨_, ⟨(hI.1.read _).mono (by omega), (from_read σ _).well hI.2⟩, hD⟩
  · refine does_of_dn M up fun W c i bt br σ hP hI => ?_
    exact (does_tell _ _ bt br wb σ _ W 10 term n s ss c hP hss rfl rfl rfl rfl rfl rfl rfl rfl (fun W' c' hP => tells_take K c' _ _ bt br wb σ W' term n s ss hP (d1 i) (d2 i) hI.1)).mono fun e w' hD => ⟨_, up _ ⟨InvC.take hI.1, (from_take σ).well hI.2⟩, hD⟩
  · refine does_of_dn M up fun W c i bt br σ hP hI => ?_
    exact (does_tick K c _ _ bt br wb σ W term n s ss hP (d1 i) (d2 i) hI.1 hK1 hI.2).mono fun e w' hD => ⟨_, ⟨(hI.1.tick).mono (by omega), (from_tick σ).well hI.2⟩, hD⟩
  · refine does_of_dn M up fun W c i bt br σ hP hI => ?_
    exact (does_flush K c _ _ bt br wb σ W term n s ss hP (d1 i) (d2 i) hI.1 hK1 hI.2).mono fun e w' hD => ⟨_, ⟨(hI.1.flush _).mono (by omega), (from_flush σ _).well hI.2⟩, hD⟩
  · refine does_of_dn M up fun W c i bt br σ hP hI => ?_
    exact (does_flow K c _ _ bt br wb σ W term n s ss hP (d1 i) (d2 i) hI.1 hK1).mono fun e w' hD => ⟨_, ⟨(hI.1.flow _).mono (by omega), (from_flow σ _).well hI.2⟩, hD⟩
end
end Go.Proofs.YtfnglkhhmplejaaGreat
namespace Go.Proofs.YtfnglkhhmplejaaGreat
open Go Go.RowKit Go.Clk

section
variable (I : St → Prop) (W0 : World) (wb : Nat) (ps : List (Nat × Nat × St)) (c : Nat → Nat) (w : World)
theorem looksL_any (N : Nat) (hN : N ≤ 144115188075855872) (hW : Wl I W0 wb ps N c w) :
    Calls Tryz.prog 24 #[.pointer (some ⟨wb, 0, none⟩)] w fun e w' => e = .returned (.bool true) ∧ Wl I W0 wb ps N c w' := by
  obtain ⟨m, ls, ms, h1, h2, h3, h4, h5⟩ := hW
  refine (looks_any I W0 wb ps m ls ms c w h5 h3 (by omega)).mono ?_
  rintro e w' ⟨he, h6⟩
  exact ⟨he, m, ls, ms, h1, h2, h3, h4, h6⟩
theorem head_put : newS.write [97, 10] = ({ newS with out := [97, 13, 10], col := 0 }, 2) := rfl
theorem head_sent : ({ newS with out := [97, 13, 10], col := 0 } : St).drain 9 = ({ newS with out := [], col := 0 }, [97, 13, 10]) := rfl

theorem head_inv : Inv 0 ({ newS with out := [97, 13, 10], col := 0 } : St) := by
  have := (InvC.write (C := 524288 * 0) (K := 0) [97, 10] Inv.new)
  rw [head_put] at this
  exact this
set_option maxHeartbeats 2000000 in
set_option maxRecDepth 100000 in
theorem head_any (hI : I newS) (hW : Wl I W0 wb [] 0 c w) :
    Calls Tryz.prog 21 #[.pointer (some ⟨wb, 0, none⟩)] w fun e w' => e = .returned (.bool true) ∧ ∃ bt br c', Wl I W0 wb [(bt, br, newS)] 0 c' w' := by
  go_enter Tryz.func21, Tryz.ntmps21
  go_wp2_with fail
  refine (moreL_any I W0 wb [] c w 0 hI hW (by simp)).mono ?_
  rintro e W1 ⟨rfl, bt, br, c1, hW1⟩
  have hi : ([] ++ [(bt, br, newS)] : List (Nat × Nat × St))[0]? = some (bt, br, newS) := rfl
  obtain ⟨g, off, cap, k0, hg, hcg, q1, q2⟩ := hW1.at hi
  have q1' : W1.cell? ⟨g, off, none⟩ = some (.pointer (some ⟨bt, 0, none⟩)) := q1
  have q2' : W1.cell? ⟨g, off + 1, none⟩ = some (.pointer (some ⟨br, 0, none⟩)) := q2
  have k0' : W1.cell? ⟨wb, 0, none⟩ = some (.slice (some ⟨g, off, none⟩) 1 cap) := k0
  clear q1 q2 k0 hW
  go_wp2_with fail
  have hP0 : Pr W1 c1 4 5 bt br newS newS := (hW1.pr hi).1
  have hPa := hP0.alloc (.cells #[.pointer (some ⟨bt, 0, none⟩), .pointer (some ⟨br, 0, none⟩)] 85)
  have hA := Bx.new W1 c1 85 [.pointer (some ⟨bt, 0, none⟩), .pointer (some ⟨br, 0, none⟩)]
  have hT := (Tw.refl c1 4 5 W1).alloc (.cells #[.pointer (some ⟨bt, 0, none⟩), .pointer (some ⟨br, 0, none⟩)] 85)
  have hc0 : ∀ k, k < W1.heap.size → recol W1 c1 0 k = c1 k := fun k hk => recol_old hk
  clear hP0 q1' q2' k0'
  generalize recol W1 c1 0 = c2 at *
  refine (hPa.doP (v := .int .i64 2) (σ' := { newS with out := [97, 13, 10], col := 0 }) (by decide) (fun S0 w0 hX => TWrite S0 w0 [] bt newS _ 0 hX Inv.new (by decide) ⟨#[97, 10]⟩ (by decide))).mono ?_
  rintro e W2 ⟨rfl, hP1, ht1⟩
  have hA1 := hA.stay ht1 (by decide)
  have hT1 := hT.next hc0 ht1 (.inl rfl)
  have hc1 : ∀ k, k < W1.heap.size → recol _ c2 4 k = c1 k := fun k hk => (recol_old (Nat.lt_of_lt_of_le hk hT.size)).trans (hc0 k hk)
  have a1 := hA1.1.cell 1 (v := .pointer (some ⟨br, 0, none⟩)) rfl
  clear hPa hA hT hc0 ht1
  generalize recol (W1.alloc _) c2 4 = c3 at *
  go_wp2_with fail
  refine (hP1.doR (v := .int .i64 2) (τ' := { newS with out := [97, 13, 10], col := 0 }) (by decide) (fun S0 w0 hX => Write_any S0 w0 [] br newS _ _ hX Inv.new.ok (by decide) (by decide) ⟨#[97, 10]⟩ (by decide))).mono ?_
  rintro e W3 ⟨rfl, hP2, ht2⟩
  have hA2 := hA1.stay ht2 (by decide)
  have hT2 := hT1.next hc1 ht2 (.inr rfl)
  have hc2 : ∀ k, k < W1.heap.size → recol W2 c3 5 k = c1 k := fun k hk => (recol_old (Nat.lt_of_lt_of_le hk hT1.size)).trans (hc1 k hk)
  have a0 := hA2.1.cell 0 (v := .pointer (some ⟨bt, 0, none⟩)) rfl
  clear hP1 hA1 hT1 hc1 ht2 a1
  generalize recol W2 c3 5 = c4 at *
  go_wp2_with fail
  refine (hP2.doP (v := .tuple #[.string ⟨#[97, 13, 10]⟩, .int .i64 0]) (σ' := newS) (by decide) (fun S0 w0 hX => TDrain S0 w0 [] bt { newS with out := [97, 13, 10], col := 0 } _ 0 hX head_inv (by decide) 9 (by decide) (by decide))).mono ?_
  rintro e W4 ⟨rfl, hP3, ht3⟩
  have hA3 := hA2.stay ht3 (by decide)
  have hT3 := hT2.next hc2 ht3 (.inl rfl)
  have hc3 : ∀ k, k < W1.heap.size → recol W3 c4 4 k = c1 k := fun k hk => (recol_old (Nat.lt_of_lt_of_le hk hT2.size)).trans (hc2 k hk)
  have a1 := hA3.1.cell 1 (v := .pointer (some ⟨br, 0, none⟩)) rfl
  clear hP2 hA2 hT2 hc2 ht3 a0
  generalize recol W3 c4 4 = c5 at *
  go_wp2_with fail
  refine (hP3.doR (v := .tuple #[.string ⟨#[97, 13, 10]⟩, .int .i64 0]) (τ' := newS) (by decide) (fun S0 w0 hX => Drain_any S0 w0 [] br { newS with out := [97, 13, 10], col := 0 } _ hX 9 (by decide) (by decide) (by decide))).mono ?_
  rintro e W5 ⟨rfl, hP4, ht4⟩
  have hT4 := hT3.next hc3 ht4 (.inr rfl)
  have hc4 : ∀ k, k < W1.heap.size → recol W4 c5 5 k = c1 k := fun k hk => (recol_old (Nat.lt_of_lt_of_le hk hT3.size)).trans (hc3 k hk)
  have HF : Hid (∃ bt br c', Wl I W0 wb [(bt, br, newS)] 0 c' W5) := by
    obtain ⟨c', h, _⟩ := hW1.after (J := I) (fun _ h => h) (e := .returned (.bool true)) hi ⟨rfl, _, hP4, hT4, hc4⟩ hI
    exact ⟨bt, br, c', h⟩
  clear hP3 hA3 hT3 hc3 ht4 a1 hP4 hT4 hc4 hW1
  go_wp2
  go_ret
  exact ⟨rfl, HF.out⟩
end

section
variable (most : Int) (I : Nat → St → Prop) (W0 : World) (wb : Nat) (ps : List (Nat × Nat × St)) (c : Nat → Nat) (w : World)
/-- What is asked at the end. -/
def askKind (k : Int) : Bool := k == 1 || k == 3 || k == 4 || k == 7 || k == 10
set_option maxHeartbeats 8000000 in
set_option maxRecDepth 100000 in
theorem lends_any (n0 : Nat) (hn0 : n0 ≤ 72057594037927936) (hmono : ∀ i σ, I i σ → I (i + 1) σ)
    (hask : ∀ (i : Nat) (k : Int), n0 ≤ i → i ≤ n0 + 40 → k ≤ most → askKind k = true → DoesOk (I i) (I (i + 1)) i wb k 0 1000 ByteArray.empty (List.replicate 17 0))
    (hW : Wl (I n0) W0 wb ps n0 c w) (h4 : ps.length ≤ 4) :
    Calls Tryz.prog 25 #[.pointer (some ⟨wb, 0, none⟩), .int .i64 most] w fun e w' => e = .returned (.bool true) ∧ Kp [] W0 w' := by
  have HM : Hid (∀ i σ, I i σ → I (i + 1) σ) := hmono
  have HA : Hid (∀ (i : Nat) (k : Int), n0 ≤ i → i ≤ n0 + 40 → k ≤ most → askKind k = true → DoesOk (I i) (I (i + 1)) i wb k 0 1000 ByteArray.empty (List.replicate 17 0)) := hask
  have HUP : Hid (∀ (a b : Nat), a ≤ b → ∀ rs c2 wr, Wl (I a) W0 wb rs a c2 wr → Wl (I b) W0 wb rs b c2 wr) := fun a b hab rs c2 wr h => by
    refine h.mono (fun σ hσ => ?_) hab
    obtain ⟨d, rfl⟩ : ∃ d, b = a + d := ⟨b - a, by omega⟩
    clear h hab
    induction d with
    | zero => exact hσ
    | succ d ih => exact hmono _ σ ih
  have HW : Hid (Wl (I n0) W0 wb ps n0 c w) := hW
  clear hmono hask hW
  go_enter Tryz.func25, Tryz.ntmps25
  go_wp2_with fail
  go_loopg [5] ps.length (fun r iv wr => ∃ (i : Nat) (qs : List (Nat × Nat × St)) (c' : Nat → Nat), i + r = ps.length ∧ iv = .int .i64 i ∧ qs.length = ps.length ∧ Hid (Wl (I (n0 + 10 * i)) W0 wb qs (n0 + 10 * i) c' wr))
  case atStart => exact ⟨0, ps, c, by omega, rfl, rfl, HW⟩
  case round =>
    obtain ⟨i, qs, c1, hi, rfl, hq, hW1⟩ := hrel
    obtain ⟨og, hog⟩ : ∃ og, og = gk := ⟨_, rfl⟩
    rw [← hog] at hi
    clear HW
    obtain ⟨pa, cap, k0⟩ := hW1.out.count
    by_cases hlt : i < qs.length
    · go_wp2_with fail
      clear k0
      generalize decide (i < ps.length) = d14
      go_loopg [6] 10 (fun r kv w2 => ∃ (k : Nat) (rs : List (Nat × Nat × St)) (c' : Nat → Nat), k + r = 11 ∧ 1 ≤ k ∧ kv = .int .i64 k ∧ rs.length = ps.length ∧ Hid (Wl (I (n0 + 10 * i + (k - 1))) W0 wb rs (n0 + 10 * i + (k - 1)) c' w2))
      case atStart => exact ⟨1, qs, c1, by omega, by omega, rfl, hq, hW1⟩
      case round =>
        clear hW1
        obtain ⟨k, rs, c2, hk, hk1, rfl, hr, hW2⟩ := hrel
        have hil : i < rs.length := by omega
        have hi4 : i < 4 := by omega
        obtain ⟨⟨bt, br, σ⟩, hpi⟩ : ∃ x, rs[i]? = some x := ⟨_, List.getElem?_eq_getElem hil⟩
        obtain ⟨g, off, cap, k0, hg, hcg, q1, q3⟩ := hW2.out.at hpi
        have q2 : wr.cell? ⟨g, off + i * 2 + 1, none⟩ = some (.pointer (some ⟨br, 0, none⟩)) := q3
        clear q3
        have cases : k = 1 ∨ k = 2 ∨ k = 3 ∨ k = 4 ∨ k = 5 ∨ k = 6 ∨ k = 7 ∨ k = 8 ∨ k = 9 ∨ k = 10 ∨ k = 11 := by omega
        rcases cases with rfl | rfl | rfl | rfl | rfl | rfl | rfl | rfl | rfl | rfl | rfl
        · by_cases hkm : (1 : Int) ≤ most
          · go_wp2_with fail
            refine (HA.out (n0 + 10 * i + 0) 1 (by omega) (by omega) hkm (by decide) W0 rs c2 _ i bt br σ hW2.out hpi).mono ?_
            rintro e W3 ⟨rfl, ps3, c3, hp3, hW3, _, _⟩
            have HF : Hid (Wl (I (n0 + 10 * i + 1)) W0 wb ps3 (n0 + 10 * i + 1) c3 W3) := hW3
            clear hW2 hW3 k0 q1 q2 hpi
            go_wp2_with fail
            go_roundg (gk - 1)
            case measure => omega
            case rel => exact ⟨2, ps3, c3, by omega, by omega, by go_num, by omega, HF⟩
          · clear k0 q1 q2 hpi
            have hkm' : most < (1 : Int) := by omega
            go_wp2_with fail
            have HF : Hid (Wl (I (n0 + 10 * (i + 1))) W0 wb rs (n0 + 10 * (i + 1)) c2 wr) := HUP.out (n0 + 10 * i + 0) (n0 + 10 * (i + 1)) (by omega) rs c2 wr hW2.out
            clear hW2
            go_roundg (og - 1)
            case measure => omega
            case rel => exact ⟨i + 1, rs, c2, by omega, by go_num, hr, HF⟩
        · by_cases hkm : (2 : Int) ≤ most
          · clear k0 q1 q2 hpi
            go_wp2_with fail
            have HF : Hid (Wl (I (n0 + 10 * i + 2)) W0 wb rs (n0 + 10 * i + 2) c2 wr) := hW2.out.mono (HM.out (n0 + 10 * i + 1)) (by omega)
            clear hW2
            go_roundg (gk - 1)
            case measure => omega
            case rel => exact ⟨3, rs, c2, by omega, by omega, by go_num, hr, HF⟩
          · clear k0 q1 q2 hpi
            have hkm' : most < (2 : Int) := by omega
            go_wp2_with fail
            have HF : Hid (Wl (I (n0 + 10 * (i + 1))) W0 wb rs (n0 + 10 * (i + 1)) c2 wr) := HUP.out (n0 + 10 * i + 1) (n0 + 10 * (i + 1)) (by omega) rs c2 wr hW2.out
            clear hW2
            go_roundg (og - 1)
            case measure => omega
            case rel => exact ⟨i + 1, rs, c2, by omega, by go_num, hr, HF⟩
        · by_cases hkm : (3 : Int) ≤ most
          · go_wp2_with fail
            refine (HA.out (n0 + 10 * i + 2) 3 (by omega) (by omega) hkm (by decide) W0 rs c2 _ i bt br σ hW2.out hpi).mono ?_
            rintro e W3 ⟨rfl, ps3, c3, hp3, hW3, _, _⟩
            have HF : Hid (Wl (I (n0 + 10 * i + 3)) W0 wb ps3 (n0 + 10 * i + 3) c3 W3) := hW3
            clear hW2 hW3 k0 q1 q2 hpi
            go_wp2_with fail
            go_roundg (gk - 1)
            case measure => omega
            case rel => exact ⟨4, ps3, c3, by omega, by omega, by go_num, by omega, HF⟩
          · clear k0 q1 q2 hpi
            have hkm' : most < (3 : Int) := by omega
            go_wp2_with fail
            have HF : Hid (Wl (I (n0 + 10 * (i + 1))) W0 wb rs (n0 + 10 * (i + 1)) c2 wr) := HUP.out (n0 + 10 * i + 2) (n0 + 10 * (i + 1)) (by omega) rs c2 wr hW2.out
            clear hW2
            go_roundg (og - 1)
            case measure => omega
            case rel => exact ⟨i + 1, rs, c2, by omega, by go_num, hr, HF⟩
        · by_cases hkm : (4 : Int) ≤ most
          · go_wp2_with fail
            refine (HA.out (n0 + 10 * i + 3) 4 (by omega) (by omega) hkm (by decide) W0 rs c2 _ i bt br σ hW2.out hpi).mono ?_
            rintro e W3 ⟨rfl, ps3, c3, hp3, hW3, _, _⟩
            have HF : Hid (Wl (I (n0 + 10 * i + 4)) W0 wb ps3 (n0 + 10 * i + 4) c3 W3) := hW3
            clear hW2 hW3 k0 q1 q2 hpi
            go_wp2_with fail
            go_roundg (gk - 1)
            case measure => omega
            case rel => exact ⟨5, ps3, c3, by omega, by omega, by go_num, by omega, HF⟩
          · clear k0 q1 q2 hpi
            have hkm' : most < (4 : Int) := by omega
            go_wp2_with fail
            have HF : Hid (Wl (I (n0 + 10 * (i + 1))) W0 wb rs (n0 + 10 * (i + 1)) c2 wr) := HUP.out (n0 + 10 * i + 3) (n0 + 10 * (i + 1)) (by omega) rs c2 wr hW2.out
            clear hW2
            go_roundg (og - 1)
            case measure => omega
            case rel => exact ⟨i + 1, rs, c2, by omega, by go_num, hr, HF⟩
        · by_cases hkm : (5 : Int) ≤ most
          · clear k0 q1 q2 hpi
            go_wp2_with fail
            have HF : Hid (Wl (I (n0 + 10 * i + 5)) W0 wb rs (n0 + 10 * i + 5) c2 wr) := hW2.out.mono (HM.out (n0 + 10 * i + 4)) (by omega)
            clear hW2
            go_roundg (gk - 1)
            case measure => omega
            case rel => exact ⟨6, rs, c2, by omega, by omega, by go_num, hr, HF⟩
          · clear k0 q1 q2 hpi
            have hkm' : most < (5 : Int) := by omega
            go_wp2_with fail
            have HF : Hid (Wl (I (n0 + 10 * (i + 1))) W0 wb rs (n0 + 10 * (i + 1)) c2 wr) := HUP.out (n0 + 10 * i + 4) (n0 + 10 * (i + 1)) (by omega) rs c2 wr hW2.out
            clear hW2
            go_roundg (og - 1)
            case measure => omega
            case rel => exact ⟨i + 1, rs, c2, by omega, by go_num, hr, HF⟩
        · by_cases hkm : (6 : Int) ≤ most
          · clear k0 q1 q2 hpi
            go_wp2_with fail
            have HF : Hid (Wl (I (n0 + 10 * i + 6)) W0 wb rs (n0 + 10 * i + 6) c2 wr) := hW2.out.mono (HM.out (n0 + 10 * i + 5)) (by omega)
            clear hW2
            go_roundg (gk - 1)
            case measure => omega
            case rel => exact ⟨7, rs, c2, by omega, by omega, by go_num, hr, HF⟩
          · clear k0 q1 q2 hpi
            have hkm' : most < (6 : Int) := by omega
            go_wp2_with fail
            have HF : Hid (Wl (I (n0 + 10 * (i + 1))) W0 wb rs (n0 + 10 * (i + 1)) c2 wr) := HUP.out (n0 + 10 * i + 5) (n0 + 10 * (i + 1)) (by omega) rs c2 wr hW2.out
            clear hW2
            go_roundg (og - 1)
            case measure => omega
            case rel => exact ⟨i + 1, rs, c2, by omega, by go_num, hr, HF⟩
        · by_cases hkm : (7 : Int) ≤ most
          · go_wp2_with fail
            refine (HA.out (n0 + 10 * i + 6) 7 (by omega) (by omega) hkm (by decide) W0 rs c2 _ i bt br σ hW2.out hpi).mono ?_
            rintro e W3 ⟨rfl, ps3, c3, hp3, hW3, _, _⟩
            have HF : Hid (Wl (I (n0 + 10 * i + 7)) W0 wb ps3 (n0 + 10 * i + 7) c3 W3) := hW3
            clear hW2 hW3 k0 q1 q2 hpi
            go_wp2_with fail
            go_roundg (gk - 1)
            case measure => omega
            case rel => exact ⟨8, ps3, c3, by omega, by omega, by go_num, by omega, HF⟩
          · clear k0 q1 q2 hpi
            have hkm' : most < (7 : Int) := by omega
            go_wp2_with fail
            have HF : Hid (Wl (I (n0 + 10 * (i + 1))) W0 wb rs (n0 + 10 * (i + 1)) c2 wr) := HUP.out (n0 + 10 * i + 6) (n0 + 10 * (i + 1)) (by omega) rs c2 wr hW2.out
            clear hW2
            go_roundg (og - 1)
            case measure => omega
            case rel => exact ⟨i + 1, rs, c2, by omega, by go_num, hr, HF⟩
        · by_cases hkm : (8 : Int) ≤ most
          · clear k0 q1 q2 hpi
            go_wp2_with fail
            have HF : Hid (Wl (I (n0 + 10 * i + 8)) W0 wb rs (n0 + 10 * i + 8) c2 wr) := hW2.out.mono (HM.out (n0 + 10 * i + 7)) (by omega)
            clear hW2
            go_roundg (gk - 1)
            case measure => omega
            case rel => exact ⟨9, rs, c2, by omega, by omega, by go_num, hr, HF⟩
          · clear k0 q1 q2 hpi
            have hkm' : most < (8 : Int) := by omega
            go_wp2_with fail
            have HF : Hid (Wl (I (n0 + 10 * (i + 1))) W0 wb rs (n0 + 10 * (i + 1)) c2 wr) := HUP.out (n0 + 10 * i + 7) (n0 + 10 * (i + 1)) (by omega) rs c2 wr hW2.out
            clear hW2
            go_roundg (og - 1)
            case measure => omega
            case rel => exact ⟨i + 1, rs, c2, by omega, by go_num, hr, HF⟩
        · by_cases hkm : (9 : Int) ≤ most
          · clear k0 q1 q2 hpi
            go_wp2_with fail
            have HF : Hid (Wl (I (n0 + 10 * i + 9)) W0 wb rs (n0 + 10 * i + 9) c2 wr) := hW2.out.mono (HM.out (n0 + 10 * i + 8)) (by omega)
            clear hW2
            go_roundg (gk - 1)
            case measure => omega
            case rel => exact ⟨10, rs, c2, by omega, by omega, by go_num, hr, HF⟩
          · clear k0 q1 q2 hpi
            have hkm' : most < (9 : Int) := by omega
            go_wp2_with fail
            have HF : Hid (Wl (I (n0 + 10 * (i + 1))) W0 wb rs (n0 + 10 * (i + 1)) c2 wr) := HUP.out (n0 + 10 * i + 8) (n0 + 10 * (i + 1)) (by omega) rs c2 wr hW2.out
            clear hW2
            go_roundg (og - 1)
            case measure => omega
            case rel => exact ⟨i + 1, rs, c2, by omega, by go_num, hr, HF⟩
        · by_cases hkm : (10 : Int) ≤ most
          · go_wp2_with fail
            refine (HA.out (n0 + 10 * i + 9) 10 (by omega) (by omega) hkm (by decide) W0 rs c2 _ i bt br σ hW2.out hpi).mono ?_
            rintro e W3 ⟨rfl, ps3, c3, hp3, hW3, _, _⟩
            have HF : Hid (Wl (I (n0 + 10 * i + 10)) W0 wb ps3 (n0 + 10 * i + 10) c3 W3) := hW3
            clear hW2 hW3 k0 q1 q2 hpi
            go_wp2_with fail
            go_roundg (gk - 1)
            case measure => omega
            case rel => exact ⟨11, ps3, c3, by omega, by omega, by go_num, by omega, HF⟩
          · clear k0 q1 q2 hpi
            have hkm' : most < (10 : Int) := by omega
            go_wp2_with fail
            have HF : Hid (Wl (I (n0 + 10 * (i + 1))) W0 wb rs (n0 + 10 * (i + 1)) c2 wr) := HUP.out (n0 + 10 * i + 9) (n0 + 10 * (i + 1)) (by omega) rs c2 wr hW2.out
            clear hW2
            go_roundg (og - 1)
            case measure => omega
            case rel => exact ⟨i + 1, rs, c2, by omega, by go_num, hr, HF⟩
        · clear k0 q1 q2 hpi
          by_cases hkm : (11 : Int) ≤ most
          · go_wp2_with fail
            have HF : Hid (Wl (I (n0 + 10 * (i + 1))) W0 wb rs (n0 + 10 * (i + 1)) c2 wr) := HUP.out (n0 + 10 * i + 10) (n0 + 10 * (i + 1)) (by omega) rs c2 wr hW2.out
            clear hW2
            go_roundg (og - 1)
            case measure => omega
            case rel => exact ⟨i + 1, rs, c2, by omega, by go_num, hr, HF⟩
          · have hkm' : most < (11 : Int) := by omega
            go_wp2_with fail
            have HF : Hid (Wl (I (n0 + 10 * (i + 1))) W0 wb rs (n0 + 10 * (i + 1)) c2 wr) := HUP.out (n0 + 10 * i + 10) (n0 + 10 * (i + 1)) (by omega) rs c2 wr hW2.out
            clear hW2
            go_roundg (og - 1)
            case measure => omega
            case rel => exact ⟨i + 1, rs, c2, by omega, by go_num, hr, HF⟩
    · go_wp2_with fail
      refine (looksL_any (I (n0 + 10 * i)) W0 wb qs c1 _ (n0 + 10 * i) (by omega) hW1.out).mono ?_
      rintro e W1 ⟨rfl, hW5⟩
      have HF : Hid (Kp [] W0 W1) := hW5.kp
      clear hW5 hW1 k0
      go_wp2_with fail
      go_ret
      exact ⟨rfl, HF.out⟩
end
end Go.Proofs.YtfnglkhhmplejaaGreat
namespace Go.Proofs.YtfnglkhhmplejaaGreat
open Go Go.RowKit Go.Clk

/-- One step of a script. -/
structure Opn where
  kind : Int
  term : Int
  n : Int
  s : ByteArray
  ss : List Int
def Opn.cells (o : Opn) : List Value := opCells o.kind o.term o.n o.s o.ss
structure Opn.Ok (o : Opn) : Prop where
  k0 : -9223372036854775808 ≤ o.kind
  k1 : o.kind ≤ 9223372036854775807
  t0 : -9223372036854775808 ≤ o.term
  t1 : o.term ≤ 9223372036854775807
  n0 : -9223372036854775808 ≤ o.n
  n1 : o.n ≤ 9223372036854775807
  s1 : o.s.size ≤ maxLen
  l : o.ss.length = 17
/-- The script lies in memory. -/
def Script (w : World) (sa : Option Addr) (ops : List Opn) : Prop :=
  ∀ (i : Nat) (o : Opn), ops[i]? = some o → o.Ok ∧ ∃ g off, sa = some ⟨g, off, none⟩ ∧ g < w.heap.size ∧ w.rangeAt g (off + i * 21) o.cells

theorem zeroWorld (I : St → Prop) (w : World) : Wl I w w.heap.size [] 0 (fun k => if k < w.heap.size then 1 else 3) (w.alloc (.cells #[.slice none 0 0, .int .i64 0, .slice none 0 0, .slice none 0 0] 57)) := by
  refine ⟨0, [], [], Int.le_refl _, Int.le_refl _, rfl, Nat.le_refl _, (Kp.refl [] w).alloc _, fun k hk => if_pos hk, ⟨none, 0, none, none, 0, none, none, 0, none, ?_, Sl.nil _ _ _, Sl.nil _ _ _, Sl.nil _ _ _, (fun g hg => by cases hg), (fun g hg => by cases hg), (fun g hg => by cases hg)⟩, if_neg (by omega), (fun i bt br σ hi => by simp at hi), (fun k v q h1 => by simp at h1)⟩
  exact Blk.new w [.slice none 0 0, .int .i64 0, .slice none 0 0, .slice none 0 0] 57

section
variable (most : Int) (I : Nat → St → Prop) (w : World) (sa : Option Addr) (cap : Nat) (ops : List Opn)

set_option maxHeartbeats 8000000 in
set_option maxRecDepth 100000 in
theorem plays_any (hS : Script w sa ops) (hl : ops.length ≤ 562949953421000) (hm1 : 1 ≤ most) (hm2 : most ≤ 14)
    (hnew : ∀ i, I i newS) (hmono : ∀ i σ, I i σ → I (i + 1) σ)
    (hdo : ∀ (i : Nat) (o : Opn), ops[i]? = some o → 1 ≤ o.kind → o.kind ≤ most → o.kind ≤ 13 → DoesOk (I i) (I (i + 1)) i w.heap.size o.kind o.term o.n o.s o.ss)
    (hask : ∀ (i : Nat) (k : Int), ops.length ≤ i → i ≤ ops.length + 40 → k ≤ most → askKind k = true → DoesOk (I i) (I (i + 1)) i w.heap.size k 0 1000 ByteArray.empty (List.replicate 17 0)) :
    Calls Tryz.prog 9 #[.slice sa ops.length cap, .int .i64 most] w fun e w' => e = .returned (.bool true) ∧ Kp [] w w' := by
  have HS : Hid (Script w sa ops) := hS
  have HN : Hid (∀ i, I i newS) := hnew
  have HM : Hid (∀ i σ, I i σ → I (i + 1) σ) := hmono
  have HD : Hid (∀ (i : Nat) (o : Opn), ops[i]? = some o → 1 ≤ o.kind → o.kind ≤ most → o.kind ≤ 13 → DoesOk (I i) (I (i + 1)) i w.heap.size o.kind o.term o.n o.s o.ss) := hdo
  have HA : Hid (∀ (i : Nat) (k : Int), ops.length ≤ i → i ≤ ops.length + 40 → k ≤ most → askKind k = true → DoesOk (I i) (I (i + 1)) i w.heap.size k 0 1000 ByteArray.empty (List.replicate 17 0)) := hask
  clear hS hnew hmono hdo hask
  go_enter Tryz.func9, Tryz.ntmps9
  go_wp2_with fail
  refine (head_any (I 0) w w.heap.size _ _ (HN.out 0) (zeroWorld (I 0) w)).mono ?_
  rintro e W1 ⟨rfl, bt, br, c1, hW1⟩
  go_wp2_with fail
  refine (moreL_any (I 0) w w.heap.size [(bt, br, newS)] c1 _ 0 (HN.out 0) hW1 (by simp)).mono ?_
  rintro e W2 ⟨rfl, bt2, br2, c2, hW2⟩
  clear hW1
  have HW2 : Hid (Wl (I 0) w w.heap.size [(bt, br, newS), (bt2, br2, newS)] 0 c2 W2) := hW2
  clear hW2
  go_wp2_with fail
  go_loopg [8] ops.length (fun r iv wr => ∃ (i : Nat) (ps : List (Nat × Nat × St)) (c : Nat → Nat), i + r = ops.length ∧ iv = .int .i64 i ∧ 0 < ps.length ∧ ps.length ≤ 4 ∧ Hid (Wl (I i) w w.heap.size ps i c wr))
  case atStart => exact ⟨0, _, c2, by omega, rfl, by simp, by simp, HW2⟩
  case round =>
    clear HW2
    obtain ⟨i, ps, c, hi, rfl, hp0, hp4, hW⟩ := hrel
    by_cases hlt : i < ops.length
    · obtain ⟨o, ho⟩ : ∃ o, ops[i]? = some o := ⟨_, List.getElem?_eq_getElem hlt⟩
      obtain ⟨hok, g, off, rfl, hg, hr⟩ := HS.out i o ho
      have hr' : wr.rangeAt g (off + i * 21) o.cells := fun j v hv => by
        rw [← hr j v hv]
        exact hW.out.kp.cell hg (by simp)
      have d0 : wr.cell? ⟨g, off + i * 21, none⟩ = some (.int .i64 o.kind) := hr' 0 _ rfl
      have HR : Hid (wr.rangeAt g (off + i * 21) o.cells) := hr'
      have HO : Hid o.Ok := hok
      have HOI : Hid (ops[i]? = some o) := ho
      have HUP : Hid (Wl (I (i + 1)) w w.heap.size ps (i + 1) c wr) := hW.out.mono (HM.out i) (by omega)
      clear hr hr' hok ho
      have hol : o.cells.length = 21 := by unfold Opn.cells opCells; rw [List.length_append, i64s_len, HO.out.l]; rfl
      have hio : (Tryz.prog.info? 60).map (·.size) = some o.cells.length := by rw [hol]; exact size_op
      clear hol
      by_cases hk5 : most < o.kind
      · go_wp2_with fail
        go_roundg (gk - 1)
        case measure => omega
        case rel => exact ⟨i + 1, ps, c, by omega, by go_num, hp0, hp4, HUP⟩
      · have hk5' : o.kind ≤ most := by omega
        have HT : Hid (Calls Tryz.prog 23 #[.pointer (some ⟨w.heap.size, 0, none⟩), .agg o.cells.toArray] wr fun e w' => e = .returned (.bool true) ∧ ∃ ps' c', 0 < ps'.length ∧ ps'.length ≤ 4 ∧ Wl (I (i + 1)) w w.heap.size ps' (i + 1) c' w') := by
          by_cases hk1 : o.kind < 1
          · refine (step_none _ w w.heap.size ps (i + 1) c wr o.kind o.term o.n o.s o.ss HUP.out hk1).mono ?_
            rintro e W4 ⟨he, c4, hW4⟩
            exact ⟨he, ps, c4, hp0, hp4, hW4⟩
          · by_cases hk14 : o.kind = 14
            · have h14 := step_new (I (i + 1)) w w.heap.size ps (i + 1) c wr o.term o.n o.s o.ss HUP.out (HN.out _) hp4
              unfold Opn.cells
              rw [hk14]
              refine h14.mono ?_
              rintro e W4 ⟨he, ps4, c4, hp5, hp6, hW4⟩
              exact ⟨he, ps4, c4, by omega, hp6, hW4⟩
            · refine (step_any (I i) (I (i + 1)) w w.heap.size ps i c wr o.kind o.term o.n o.s o.ss hW.out hp0 hp4 (by omega) (by omega) HO.out.l HO.out.t0 HO.out.t1 (HD.out i o HOI.out (by omega) hk5' (by omega))).mono ?_
              rintro e W4 ⟨he, ps4, c4, hp5, hW4⟩
              exact ⟨he, ps4, c4, by omega, by omega, hW4⟩
        go_wp2_with (refine wpList_load_part rfl (.tmp 38) 60 rfl g (off + i * 21) rfl o.cells _ ?hc1 Tryz.underlying60 rfl hio ?next1)
        case hc1 => exact HR.out
        refine HT.out.mono ?_
        rintro e W4 ⟨rfl, ps4, c4, hp5, hp6, hW4⟩
        have HF : Hid (Wl (I (i + 1)) w w.heap.size ps4 (i + 1) c4 W4) := hW4
        clear hW4 HT hW HUP HR d0
        go_wp2_with fail
        refine (looksL_any _ w w.heap.size ps4 c4 _ (i + 1) (by omega) HF.out).mono ?_
        rintro e W5 ⟨rfl, hW5⟩
        have HF5 : Hid (Wl (I (i + 1)) w w.heap.size ps4 (i + 1) c4 W5) := hW5
        clear hW5 HF
        go_wp2_with fail
        go_roundg (gk - 1)
        case measure => omega
        case rel => exact ⟨i + 1, ps4, c4, by omega, by go_num, hp5, hp6, HF5⟩
    · obtain rfl : i = ops.length := by omega
      go_wp2_with fail
      refine (lends_any most I w w.heap.size ps c _ ops.length (by omega) HM.out HA.out hW.out hp4).mono ?_
      rintro e W3 ⟨rfl, hk⟩
      have HF : Hid (Kp [] w W3) := hk
      clear hk hW
      go_wp2_with fail
      go_ret
      exact ⟨rfl, HF.out⟩
end
end Go.Proofs.YtfnglkhhmplejaaGreat
namespace Go.Proofs.YtfnglkhhmplejaaGreat
open Go Go.ChangeShapes Go.WideShapes Go.ChangeAt Go.RowKit Go.Clk Go.Deep

/-- A script's weight. -/
def opnW : List Opn → Nat
  | [] => 0
  | o :: r => o.s.size + 1 + opnW r
theorem opnW_app (a b : List Opn) : opnW (a ++ b) = opnW a + opnW b := by
  induction a with
  | nil => simp [opnW]
  | cons o r ih => simp only [List.cons_append, opnW, ih]; omega
theorem opnW_next (ops : List Opn) (j : Nat) (o : Opn) (h : ops[j]? = some o) : opnW (ops.take (j + 1)) = opnW (ops.take j) + o.s.size + 1 := by
  rw [List.take_add_one, opnW_app, h]; simp [opnW]; omega
theorem opnW_mono (ops : List Opn) (j : Nat) : opnW (ops.take j) ≤ opnW (ops.take (j + 1)) := by
  rw [List.take_add_one, opnW_app]; omega
theorem opnW_le (ops : List Opn) (j : Nat) : opnW (ops.take j) ≤ opnW ops := by
  have := opnW_app (ops.take j) (ops.drop j)
  rw [List.take_append_drop] at this; omega
theorem opnW_len (ops : List Opn) : ops.length ≤ opnW ops := by
  induction ops with
  | nil => simp [opnW]
  | cons o r ih => simp only [List.length_cons, opnW]; omega
theorem DoesOk.mono {I J J' : St → Prop} {M wb : Nat} {kind term n : Int} {s : ByteArray} {ss : List Int} (h : DoesOk I J M wb kind term n s ss) (hJ : ∀ σ, J σ → J' σ) : DoesOk I J' M wb kind term n s ss := by
  intro W0 ps c W i bt br σ hW hi
  refine (h W0 ps c W i bt br σ hW hi).mono ?_
  rintro e w' ⟨he, ps', c', h1, h2, h3⟩
  exact ⟨he, ps', c', h1, h2.mono hJ (Nat.le_refl _), h3⟩

theorem plays_upto (most : Int) (w : World) (sa : Option Addr) (cap : Nat) (ops : List Opn) (hS : Script w sa ops) (hW : opnW ops ≤ 1048576) (hm1 : 1 ≤ most) (hm2 : most ≤ 14) :
    Calls Tryz.prog 9 #[.slice sa ops.length cap, .int .i64 most] w fun e w' => e = .returned (.bool true) ∧ Kp [] w w' := by
  have hlen := opnW_len ops
  refine plays_any most (fun i σ => Ib (2049 * (opnW (ops.take i)) + 2049 * i) σ) w sa cap ops hS (by omega) hm1 hm2 (fun i => Ib.new (by omega)) (fun i σ h => h.mono (by have := opnW_mono ops i; omega)) ?_ ?_
  · intro i o ho h1 _ h3
    have hok := (hS i o ho).1
    have hil : i < ops.length := (List.getElem?_eq_some_iff.1 ho).1
    have e := opnW_next ops i o ho
    have hle := opnW_le ops (i + 1)
    exact (does_kind _ w.heap.size o.kind o.term o.n o.s o.ss i (by omega) (by omega) h1 h3 hok.n0 hok.n1 (by omega) hok.l).mono fun σ h => h.mono (by omega)
  · intro i k h1 h2 h3 h4
    have e := opnW_mono ops i
    have hle := opnW_le ops i
    have hk : 1 ≤ k ∧ k ≤ 13 := by unfold askKind at h4; simp at h4; omega
    have he : ByteArray.empty.size = 0 := rfl
    exact (does_kind _ w.heap.size k 0 1000 ByteArray.empty (List.replicate 17 0) i (by rw [he]; omega) (by omega) hk.1 hk.2 (by decide) (by decide) (by rw [he]; omega) (by simp)).mono fun σ h => h.mono (by rw [he]; omega)

theorem lown : ownKnob Tryz.prog.godebug = none := by kernel_rfl
theorem llaidOut : laidOutB Tryz.prog = true := by kernel_rfl
theorem lcells_int : Tryz.prog.cellsOf 3 = 1 := by kernel_rfl
theorem ltake_one {cs : List Value} {k : Nat} {v : Value} (h : (cs.drop k).take 1 = [v]) : cs[k]? = some v := by
  have := congrArg (fun l => l[0]?) h
  simpa [List.getElem?_take, List.getElem?_drop] using this
theorem lcells_string : Tryz.prog.cellsOf 9 = 1 := by kernel_rfl
theorem lcells_chars : Tryz.prog.cellsOf 27 = 14 := by kernel_rfl
theorem lcells_settings : Tryz.prog.cellsOf 29 = 17 := by kernel_rfl
theorem lcells_op : Tryz.prog.cellsOf 60 = 21 := by kernel_rfl
theorem lall_ints : ∀ (cs : List Value), (∀ k, k < cs.length → ∃ n, cs[k]? = some (.int .i64 n)) → ∃ ss, cs = i64s ss ∧ ss.length = cs.length
  | [], _ => ⟨[], rfl, rfl⟩
  | v :: r, h => by
    obtain ⟨n, hn⟩ := h 0 (by simp)
    obtain ⟨ss, h1, h2⟩ := lall_ints r fun k hk => by
      have := h (k + 1) (by simpa using hk)
      simpa using this
    simp at hn
    exact ⟨n :: ss, by rw [hn, h1]; rfl, by simp [h2]⟩
theorem opn_len (o : Opn) (h : o.ss.length = 17) : o.cells.length = 21 := by simp [Opn.cells, opCells, i64s, h]
theorem lbulk_mem {H : Type} {d : DataW H} {l : List (DataW H)} (h : d ∈ l) : Rows.uptoBulk d ≤ Rows.uptoBulkAll l := by
  induction l with
  | nil => cases h
  | cons x r ih =>
    simp only [Rows.uptoBulkAll]
    cases List.mem_cons.1 h with
    | inl e => subst e; omega
    | inr e => have := ih e; omega
section
variable {H : Type} {enc : TypeId × Value → H} {w : World} {base : Nat} {spare : Nat → Bool} {held : Bool} {fuel : Nat} {cs : List Value} {x : DataW H × List MemPlace}
theorem lopen_int_at {k : Nat} (h : DataW.trod enc Tryz.prog w base spare held fuel 3 ((cs.drop k).take 1) = some x) : ∃ n, cs[k]? = some (.int .i64 n) ∧ -9223372036854775808 ≤ n ∧ n ≤ 9223372036854775807 := by
  obtain ⟨n, h1, _, h2⟩ := DataW.trod_int Tryz.underlying3 h
  exact ⟨n, ltake_one h1, bounds_i64 h2⟩
theorem lopen_settings (h : DataW.trod enc Tryz.prog w base spare held fuel 29 cs = some x) : ∃ ss, cs = i64s ss ∧ ss.length = 17 := by
  obtain ⟨xs, n, _, _, hl, hx, hf⟩ := DataW.trod_struct Tryz.underlying29 h
  rw [lcells_settings] at hl
  have hx4 : xs.length = 4 := hx
  have f0 : DataW.trod enc Tryz.prog w base spare held n 3 ((cs.drop 0).take (Tryz.prog.cellsOf 3)) = xs[0]? := hf 0 _ rfl
  have f1 : DataW.trod enc Tryz.prog w base spare held n 3 ((cs.drop 1).take (Tryz.prog.cellsOf 3)) = xs[1]? := hf 1 _ rfl
  have f2 : DataW.trod enc Tryz.prog w base spare held n 3 ((cs.drop 2).take (Tryz.prog.cellsOf 3)) = xs[2]? := hf 2 _ rfl
  have f3 : DataW.trod enc Tryz.prog w base spare held n 27 ((cs.drop 3).take (Tryz.prog.cellsOf 27)) = xs[3]? := hf 3 _ rfl
  rw [lcells_int] at f0 f1 f2
  rw [lcells_chars] at f3
  rw [List.getElem?_eq_getElem (by omega)] at f0 f1 f2 f3
  obtain ⟨ys, m, _, _, _, hy, ha⟩ := DataW.trod_array Tryz.underlying27 f3
  obtain ⟨ss, h1, h2⟩ := lall_ints cs fun k hk => by
    rcases Nat.lt_or_ge k 3 with h3 | h3
    · match k, h3 with
      | 0, _ => obtain ⟨n, h, _⟩ := lopen_int_at f0; exact ⟨n, h⟩
      | 1, _ => obtain ⟨n, h, _⟩ := lopen_int_at f1; exact ⟨n, h⟩
      | 2, _ => obtain ⟨n, h, _⟩ := lopen_int_at f2; exact ⟨n, h⟩
    · have := ha (k - 3) (by omega)
      rw [lcells_int, List.getElem?_eq_getElem (by omega)] at this
      obtain ⟨n, h, _⟩ := lopen_int_at this
      refine ⟨n, ?_⟩
      rw [List.getElem?_take, if_pos (by omega), List.getElem?_drop] at h
      rw [← h]; congr 1; omega
  exact ⟨ss, h1, by omega⟩
theorem lopen_op (h : DataW.trod enc Tryz.prog w base spare held fuel 60 cs = some x) : ∃ o : Opn, cs = o.cells ∧ o.Ok ∧ o.s.size + 1 ≤ Rows.uptoBulk x.1 := by
  obtain ⟨xs, n, _, hxe, hl, hx, hf⟩ := DataW.trod_struct Tryz.underlying60 h
  rw [lcells_op] at hl
  have hx5 : xs.length = 5 := hx
  have f0 : DataW.trod enc Tryz.prog w base spare held n 3 ((cs.drop 0).take (Tryz.prog.cellsOf 3)) = xs[0]? := hf 0 _ rfl
  have f1 : DataW.trod enc Tryz.prog w base spare held n 3 ((cs.drop 1).take (Tryz.prog.cellsOf 3)) = xs[1]? := hf 1 _ rfl
  have f2 : DataW.trod enc Tryz.prog w base spare held n 3 ((cs.drop 2).take (Tryz.prog.cellsOf 3)) = xs[2]? := hf 2 _ rfl
  have f3 : DataW.trod enc Tryz.prog w base spare held n 9 ((cs.drop 3).take (Tryz.prog.cellsOf 9)) = xs[3]? := hf 3 _ rfl
  have f4 : DataW.trod enc Tryz.prog w base spare held n 29 ((cs.drop 4).take (Tryz.prog.cellsOf 29)) = xs[4]? := hf 4 _ rfl
  rw [lcells_int] at f0 f1 f2
  rw [lcells_string] at f3
  rw [lcells_settings] at f4
  rw [List.getElem?_eq_getElem (by omega)] at f0 f1 f2 f3 f4
  obtain ⟨kind, k1, k2⟩ := lopen_int_at f0
  obtain ⟨term, t1, t2⟩ := lopen_int_at f1
  obtain ⟨nn, n1, n2⟩ := lopen_int_at f2
  obtain ⟨s, s1, s0, s2⟩ := DataW.trod_string Tryz.underlying9 f3
  have s1 := ltake_one s1
  obtain ⟨ss, h1, h2⟩ := lopen_settings f4
  refine ⟨⟨kind, term, nn, s, ss⟩, ?_, ⟨k2.1, k2.2, t2.1, t2.2, n2.1, n2.2, by unfold maxLen at s2 ⊢; exact s2, h2⟩, ?_⟩
  · have hd : (cs.drop 4).take 17 = cs.drop 4 := List.take_of_length_le (by simp; omega)
    rw [hd] at h1
    have : cs = cs.take 4 ++ cs.drop 4 := (List.take_append_drop 4 cs).symm
    rw [this, h1]
    show _ = [.int .i64 kind, .int .i64 term, .int .i64 nn, .string s] ++ i64s ss
    congr 1
    apply List.ext_getElem?
    intro i
    rw [List.getElem?_take]
    match i with
    | 0 => simpa using k1
    | 1 => simpa using t1
    | 2 => simpa using n1
    | 3 => simpa using s1
    | j + 4 => simp; omega
  · have hm : (DataW.lit (H := H) (.string s.data.toList)) ∈ xs.map (·.1) := by
      have : xs[3].1 = .lit (.string s.data.toList) := by rw [s0]
      exact List.mem_map.2 ⟨xs[3], List.getElem_mem _, this⟩
    have hb := lbulk_mem hm
    have e : s.data.toList.length = s.size := by rw [Array.length_toList]; rfl
    rw [hxe]
    simp only [Rows.uptoBulk] at hb ⊢
    omega
/-- A script that came in. -/
theorem lopen_script {v : Value} (h : DataW.trod enc Tryz.prog w base spare held fuel 22 [v] = some x) :
    ∃ (sa : Option Addr) (cap : Nat) (ops : List Opn), v = .slice sa ops.length cap ∧ Script w sa ops ∧ opnW ops ≤ Rows.uptoBulk x.1 ∧ (ops = [] ∨ ∃ elems rest, x.1 = .slice elems rest ∧ elems.length = ops.length) := by
  rcases open_slice Tryz.underlying22 h with ⟨h0, hx⟩ | ⟨a, len, cap, m, n, D, Pl, h0, hb, hl, hm, hmm, hx, hall⟩
  · simp at h0
    exact ⟨none, 0, [], h0, fun i o hi => by simp at hi, by simp [opnW], .inl rfl⟩
  · simp at h0
    rw [lcells_op] at hall
    have hlm : len ≤ m := by rw [hmm]; split <;> omega
    have : Inhabited Opn := ⟨⟨0, 0, 0, ByteArray.empty, []⟩⟩
    obtain ⟨O, hO⟩ := choose_lt (α := Opn) (n := len) (p := fun i o => (o.Ok ∧ o.s.size + 1 ≤ Rows.uptoBulk (D i)) ∧ w.cells? base (a.add (i * 21)) 21 = some o.cells) fun i hi => by
      obtain ⟨cs', h1, h2⟩ := hall i (by omega)
      obtain ⟨o, rfl, h3, h4⟩ := lopen_op h2
      exact ⟨o, ⟨h3, h4⟩, h1⟩
    refine ⟨some a, cap, (List.range len).map O, by simpa using h0, fun i o hi => ?_, ?_, .inr ⟨_, _, by rw [hx], by simp⟩⟩
    · have hil : i < len := by have := (List.getElem?_eq_some_iff.1 hi).1; simpa using this
      rw [List.getElem?_map, List.getElem?_range hil] at hi
      simp at hi
      subst hi
      obtain ⟨h1, h2⟩ := hO i hil
      obtain ⟨_, h3, h4⟩ := World.cells?_some h2
      have c0 := h4 0 (by omega)
      have e0 : (O i).cells[0]? = some (.int .i64 (O i).kind) := rfl
      rw [e0] at c0
      obtain ⟨g, off, spot⟩ := a
      have hspot : spot = none := by
        obtain ⟨_, _, q4⟩ := World.cells?_some (hO 0 (by omega)).2
        have z0 := q4 0 (by omega)
        have y0 : (O 0).cells[0]? = some (.int .i64 (O 0).kind) := rfl
        rw [y0] at z0
        have := World.cell?_spot z0
        simpa [Addr.add] using this
      subst hspot
      have adr : ∀ j, ((⟨g, off, none⟩ : Addr).add (i * 21)).add j = ⟨g, off + i * 21 + j, none⟩ := fun j => by rw [Addr.add_mid, Addr.add_mid]
      refine ⟨h1.1, g, off, rfl, ?_, fun j v hv => ?_⟩
      · have := World.block_lt_of_cell? w _ c0
        rw [adr] at this; exact this
      · have hj : j < 21 := by have := (List.getElem?_eq_some_iff.1 hv).1; rw [opn_len _ h1.1.l] at this; exact this
        rw [← adr, h4 j hj, hv]
    · have hsum : ∀ k, k ≤ len → opnW ((List.range k).map O) ≤ Rows.uptoBulkAll ((List.range k).map D) := by
        intro k
        induction k with
        | zero => intro _; simp [opnW]
        | succ k ih =>
          intro hk
          have h5 := ih (by omega)
          have h6 := (hO k (by omega)).1.2
          rw [List.range_succ, List.map_append, List.map_append, opnW_app]
          have h7 : ∀ (l r : List (DataW H)), Rows.uptoBulkAll (l ++ r) = Rows.uptoBulkAll l + Rows.uptoBulkAll r := by
            intro l r
            induction l with
            | nil => simp [Rows.uptoBulkAll]
            | cons x l ih => simp only [List.cons_append, Rows.uptoBulkAll, ih]; omega
          rw [h7]
          simp only [List.map_cons, List.map_nil, opnW, Rows.uptoBulkAll]
          omega
      have := hsum len (Nat.le_refl _)
      rw [hx]
      simp only [Rows.uptoBulk]
      omega
end
end Go.Proofs.YtfnglkhhmplejaaGreat
