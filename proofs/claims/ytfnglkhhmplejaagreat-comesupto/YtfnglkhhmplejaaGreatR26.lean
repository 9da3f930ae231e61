/- Walks: the reference's terminal: its settings, when nothing waits, and what came is thrown away. (Written by mkRef24.py.) -/
import Derived.Test.YtfnglkhhmplejaaGreatRef24
import Derived.Test.YtfnglkhhmplejaaGreatRef25
namespace Go.Proofs.YtfnglkhhmplejaaGreat
open Go Go.RowKit Go.Clk

section
variable (S0 : List Nat) (w0 : World) (x : List Nat) (b : Nat) (σ : St) (w : World) (K : Int)
set_option maxHeartbeats 4000000 in
set_option maxRecDepth 100000 in
theorem Set_2 (h : AtR S0 w0 x b σ w) (ok : Inv K σ) (hK : K ≤ 1099511627776) (s : List Int) (hs : s.length = 17) (ho : σ.out = []) :
    Calls Tryz.prog 62 #[.pointer (some ⟨b, 0, none⟩), .agg (i64s s).toArray, .int .i64 2] w fun e w' => e = .returned (.int .i64 0) ∧ AtR S0 w0 x b (({ σ with inq := [] } : St).change s).look w' := by
  obtain ⟨t0, hti, htz0, htz1, htz2⟩ := info_parts info_ent
  obtain ⟨vi, vo, vu, vn, vd, hV⟩ := h
  have l0 := ok.ok.l0; have l1 := ok.ok.l1
  obtain ⟨oo, hso, _, _, _⟩ := hV.lens_out
  obtain ⟨ao, co, rfl, _, _⟩ := hso.shape
  have hol : σ.out.length = 0 := by rw [ho]; rfl
  clear hso
  have HC : Hid (Inv K ({ σ with inq := [] } : St)) := ok.inq_ [] (by simp) (by simp)
  go_enter Tryz.func62, Tryz.ntmps62
  go_wp2_with (refine wpList_box rfl (.tmp 1) 29 rfl (i64s s) rfl ?_)
  intro W B hid
  have hB : AtV S0 w0 (B :: x) b σ vi (.slice ao σ.out.length co) vu vn vd W := by obtain ⟨rfl, rfl⟩ := hid.out; exact hV.boxed _
  have hblk : Blk W B 29 (i64s s) := by obtain ⟨rfl, rfl⟩ := hid.out; exact Blk.new w _ _
  have hne : B ≠ b := hB.2.ne (by simp)
  have k18 := hB.c18
  rw [hol] at k18
  have k17 := hB.c17
  have f17 := hB.frozen 17
  have hB' := hB.nil_inq
  have hblk' := hblk.other ⟨b, 17, none⟩ (.slice none 0 0) hne
  have k2 : (W.setCell ⟨b, 17, none⟩ (.slice none 0 0)).cell? ⟨b, 2, none⟩ = some (.int .i64 σ.l) := hB'.cl
  clear hid hV
  go_upto_region 7 with fail
  clear k17 f17 k18 hblk hB k2
  generalize W.setCell ⟨b, 17, none⟩ (.slice none 0 0) = W1 at hB' hblk' ⊢
  have hB := hB'
  have hblk := hblk'
  clear hB' hblk'
  have kB : ∀ k, k < 17 → W1.cell? ⟨B, k, none⟩ = some (.int .i64 (gt s k)) := fun k hk => hblk.cell k (by simp [i64s, gt, List.getD, List.getElem?_eq_getElem (show k < s.length by omega)])
  have b0 := kB 0 (by omega)
  have b1 := kB 1 (by omega)
  have b2 := kB 2 (by omega)
  have k2 : W1.cell? ⟨b, 2, none⟩ = some (.int .i64 σ.l) := hB.cl
  have f0 := hB.frozen 0
  have f1 := hB.frozen 1
  have f2 := hB.frozen 2
  have k0 : W1.cell? ⟨b, 0, none⟩ = some (.int .i64 σ.i) := hB.ci
  have k1 : W1.cell? ⟨b, 1, none⟩ = some (.int .i64 σ.o) := hB.co
  obtain ⟨τ, hτ⟩ : ∃ τ : St, ({ σ with inq := [] } : St) = τ := ⟨_, rfl⟩
  have hτs : τ.ss = σ.ss := by rw [← hτ]
  have HL : Hid (bit τ.l 2 = bit σ.l 2) := by show bit (gt τ.ss 2) 2 = _; rw [hτs]; rfl
  have HG : Hid ((({ σ with inq := [] } : St).change s) = τ.change s) := by show (({ σ with inq := [] } : St).change s) = _; rw [← hτ]
  rw [hτ] at HC hB
  have hB1 := hB
  clear hB
  clear hτ ok
  go_wp2_with (first | (go_at_call 89; refine (local_any b σ.l _ _ (by assumption) l0 l1 (by omega) (by omega)).mono ?_; rintro e w' ⟨rfl, rfl⟩) | (go_at_call 90; refine (low_any _ _ _ (by omega) (by omega)).mono ?_; rintro e w' ⟨rfl, rfl⟩))
  have hR3 : AtR S0 w0 (B :: x) b { τ with ss := partS τ.ss s 3 } (((w'.setCell ⟨b, 0, none⟩ (.int .i64 (gt s 0 % 8192))).setCell ⟨b, 1, none⟩ (.int .i64 (gt s 1 % 128))).setCell ⟨b, 2, none⟩ (.int .i64 (gt s 2 % 1024))) := by
    have h3 := (((hB1.s_set 0 (by omega) (gt s 0 % 8192)).s_set 1 (by omega) (gt s 1 % 128)).s_set 2 (by omega) (gt s 2 % 1024)).r
    have e0 := partS_set τ.ss s 0 (by omega)
    have e1 := partS_set τ.ss s 1 (by omega)
    have e2 := partS_set τ.ss s 2 (by omega)
    rw [partS_zero _ _ hB1.1] at e0
    rw [← e0] at e1
    rw [← e1] at e2
    rw [← e2]
    exact h3
  have hB3 : Blk (((w'.setCell ⟨b, 0, none⟩ (.int .i64 (gt s 0 % 8192))).setCell ⟨b, 1, none⟩ (.int .i64 (gt s 1 % 128))).setCell ⟨b, 2, none⟩ (.int .i64 (gt s 2 % 1024))) B 29 (i64s s) :=
    ((hblk.other _ _ hne).other _ _ hne).other _ _ hne
  clear hB1 hblk b0 b1 b2 k2 f0 f1 f2 k0 k1 kB
  go_loopg [8] 14 (fun k i wr => ∃ j : Nat, j + k = 14 ∧ i = .int .i64 j ∧ AtR S0 w0 (B :: x) b { τ with ss := partS τ.ss s (3 + j) } wr ∧ Blk wr B 29 (i64s s))
  case atStart => exact ⟨0, by omega, rfl, hR3, hB3⟩
  case round =>
    clear hR3 hB3
    obtain ⟨j, hj, rfl, ⟨vi, vo, vu, vn, vd, hV⟩, hblk⟩ := hrel
    by_cases hlt : j < 14
    · have kj : wr.cell? ⟨B, 3 + j, none⟩ = some (.int .i64 (gt s (3 + j))) := hblk.cell (3 + j) (by simp [i64s, gt, List.getD, List.getElem?_eq_getElem (show 3 + j < s.length by omega)])
      have cj := hV.head (3 + j) (by omega)
      have fj := hV.frozen (3 + j)
      have hW := (hV.drew'.s_set (3 + j) (by omega) (gt s (3 + j) % 256)).r
      have HP : Hid ((partS τ.ss s (3 + j)).set (3 + j) (gt s (3 + j) % 256) = partS τ.ss s (3 + j + 1)) := by
        have := partS_set τ.ss s (3 + j) (by omega)
        rwa [show lim (3 + j) = 256 by simp [lim]; omega] at this
      go_wp2_with fail
      go_region_with (go_at_call 90; refine (low_any _ _ _ (by omega) (by omega)).mono ?_; rintro e w' ⟨rfl, rfl⟩)
      go_wp2
      go_roundg (gk - 1)
      case measure => omega
      case rel =>
        rw [HP.out] at hW
        exact ⟨j + 1, by omega, by go_num, hW, hblk.other _ _ hne⟩
    · obtain rfl : j = 14 := by omega
      have hN : partS τ.ss s 17 = normS s := partS_all _ _
      rw [hN] at hV
      have HL2 : Hid (gt (normS s) 2 = gt s 2 % 1024) := by show gt (normS s) 2 = _; rw [normS_get _ _ (by omega)]; rfl
      have k2 : wr.cell? ⟨b, 2, none⟩ = some (.int .i64 (gt s 2 % 1024)) := by rw [← HL2.out]; exact hV.cl
      have k23 : wr.cell? ⟨b, 23, none⟩ = some (.bool τ.quoted) := hV.c23
      have f23 := hV.frozen 23
      have e0 : 0 ≤ gt s 2 % 1024 := Int.emod_nonneg _ (by omega)
      have e1 : gt s 2 % 1024 < 8192 := by have := Int.emod_lt_of_pos (gt s 2) (show (0 : Int) < 1024 by omega); omega
      have HN : Hid (τ.change s = { τ with ss := normS s, inq := if bit τ.l 2 = bit (gt s 2 % 1024) 2 then τ.inq else St.forget τ.inq, quoted := bit (gt s 2 % 1024) 2 && τ.quoted }) := rfl
      have HI : Hid (Inv K (τ.change s)) := HC.out.change s
      have hil := HC.out.inq
      clear hN hblk HL2 hlt hj
      cases hw : bit σ.l 2 with
      | true =>
        cases hb : bit (gt s 2 % 1024) 2 with
        | true =>
          have HX : Hid (τ.change s = { τ with ss := normS s }) := by
            show τ.change s = _
            rw [HN.out, hb, HL.out, hw]; simp
          have hU := hV.r
          rw [← HX.out] at hU
          clear HX HN hV HL
          go_wp2_with (go_at_call 89; refine (local_any b (gt s 2 % 1024) _ _ (by assumption) e0 e1 (by omega) (by omega)).mono ?_; rintro e w' ⟨rfl, rfl⟩)
          refine (Look_any S0 w0 (B :: x) b _ _ K hU HI.out hK).mono ?_
          rintro e W2 ⟨rfl, hW2⟩
          go_wp2
          go_ret
          exact ⟨rfl, by rw [HG.out]; exact hW2.weaken fun g hg => by simp [hg]⟩
        | false =>
          have HX : Hid (τ.change s = { τ with ss := normS s, inq := St.forget τ.inq, quoted := false }) := by
            show τ.change s = _
            rw [HN.out, hb, HL.out, hw]; simp
          clear HN HL
          go_wp2_with (go_at_call 89; refine (local_any b (gt s 2 % 1024) _ _ (by assumption) e0 e1 (by omega) (by omega)).mono ?_; rintro e w' ⟨rfl, rfl⟩)
          have hR := hV.r
          clear hV k2 k23 f23
          go_loopg [10, 11] τ.inq.length (fun k lv iv wz => ∃ (j ℓ : Nat) (a : Option Addr) (cap : Nat) (ol : Option Nat), j + k = τ.inq.length ∧ lv = .slice a ℓ cap ∧ iv = .int .i64 j ∧ Sl wz 118 4 (.slice a ℓ cap) ℓ (ents (St.forget (τ.inq.take j))) ol ∧ (∀ g, ol = some g → w0.heap.size ≤ g ∧ g ∉ x) ∧
            AtR S0 w0 (ol.toList ++ B :: x) b { τ with ss := normS s } wz ∧ ℓ ≤ j)
          case atStart => exact ⟨0, 0, none, 0, none, by omega, rfl, rfl, Sl.nil _ _ _, (fun g h => by cases h), hR, by omega⟩
          case round =>
            clear hR
            obtain ⟨j, ℓ, a, cap, ol, hj, rfl, rfl, hsl, hol, ⟨yi, yo, yu, yn, yd, hY⟩, hℓ⟩ := hrel
            obtain ⟨oi, hsi, _, _, _⟩ := hY.lens_inq
            obtain ⟨ai, ci, rfl, hl1, hl2⟩ := hsi.shape
            have z17 := hY.c17
            dsimp only at hsi hl1 hl2 z17
            by_cases hlt : j < τ.inq.length
            · obtain ⟨ug, uoff, uc, he, rfl⟩ := hsi.addr (by omega)
              cases he
              have HT : Hid (τ.inq.take (j + 1) = τ.inq.take j ++ [τ.inq[j]]) := List.take_succ_eq_append_getElem hlt
              obtain ⟨en, hen⟩ : ∃ en, τ.inq[j] = en := ⟨_, rfl⟩
              rw [hen] at HT
              have zb := (hsi.cells rfl (j * 4 + 0) (u := .int .u8 (en.b.toNat : Int)) (by rw [ents_get τ.inq j hlt 0 (by omega), hen]; rfl)).1
              have zf := (hsi.cells rfl (j * 4 + 2) (u := .bool en.file) (by rw [ents_get τ.inq j hlt 2 (by omega), hen]; rfl)).1
              simp only [Nat.add_zero] at zb
              simp only [← Nat.add_assoc] at zf
              have hYr := hY.r
              clear hsi hen
              cases hfile : en.file with
              | true =>
                rw [hfile] at zf
                have HF : Hid (St.forget (τ.inq.take (j + 1)) = St.forget (τ.inq.take j)) := by show St.forget (τ.inq.take (j + 1)) = _; rw [HT.out, forget_snoc_file _ _ hfile]
                clear HT hY
                go_wp2
                go_roundg (gk - 1)
                case measure => omega
                case rel => exact ⟨j + 1, ℓ, a, cap, ol, by omega, rfl, by go_num, by rw [HF.out]; exact hsl, hol, hYr, by omega⟩
              | false =>
                rw [hfile] at zf
                have HF : Hid (St.forget (τ.inq.take (j + 1)) = St.forget (τ.inq.take j) ++ [⟨en.b, false, false, 0⟩]) := by show St.forget (τ.inq.take (j + 1)) = _; rw [HT.out, forget_snoc_byte _ _ hfile]
                have hY1 := hY.alloc (.cells #[.int .u8 en.b.toNat, .bool false, .bool false, .int .i64 0] 118)
                have hs1 := hsl.alloc (.cells #[.int .u8 en.b.toNat, .bool false, .bool false, .int .i64 0] 118)
                have hk0 := hY.2.kp.size
                have hbel : ∀ g, g ∈ x → g < wr.heap.size := fun g hg => hY.2.below (by simp [hg])
                clear HT hYr
                go_wp2_with (at_builtin; refine wpList_append_sl rfl (.tmp 94) (.tmp 104) 101 101 rfl hs1 rfl t0 (.agg #[.int .u8 0, .bool false, .bool false, .int .i64 0]) 16 Tryz.underlying101 hti htz0 htz1 htz2 rfl (.slice (some ⟨wr.heap.size, 0, none⟩) 1 1) 1 [.int .u8 en.b.toNat, .bool false, .bool false, .int .i64 0] rfl ?srca ?b1a ?b2a ?nexta)
                case srca => exact (Sl.made wr [.int .u8 en.b.toNat, .bool false, .bool false, .int .i64 0] 1 118 4 rfl (by simp [maxLen])).src Tryz.underlying101 (by intro u hu; simp at hu; rcases hu with rfl | rfl | rfl | rfl <;> rfl)
                case b1a => unfold maxLen; omega
                case b2a => omega
                case nexta =>
                  intro a1 cap1 w1 ol1 hs2 hg1 ho1
                  have hY2 := hY1.local (x := B :: x) hg1 (ol' := ol1) (by simpa using ho1) (fun g h => (hol g h).1)
                  have hol1 : ∀ g, ol1 = some g → w0.heap.size ≤ g ∧ g ∉ x := by
                    intro g h
                    rcases ho1 with h1 | ⟨h1, _⟩
                    · exact hol g (by rw [← h1, h])
                    · rw [h1] at h; cases h
                      refine ⟨by first | omega | (simp; omega), fun hc => ?_⟩
                      have := hbel _ hc
                      first | omega | (simp at this; omega)
                  have hR3 := hY2.r
                  clear hY1 hs1 hY hsl hol ho1 hg1 zb zf z17 hY2 hbel
                  go_wp2
                  go_roundg (gk - 1)
                  case measure => omega
                  case rel => exact ⟨j + 1, ℓ + 1, a1, cap1, ol1, by omega, rfl, by go_num, by rw [HF.out, ents_app]; exact hs2, hol1, hR3, by omega⟩
            · have HT : Hid (St.forget (τ.inq.take j) = St.forget τ.inq) := by show St.forget (τ.inq.take j) = _; rw [List.take_of_length_le (by omega)]
              rw [HT.out] at hsl
              have hlen : ℓ = (St.forget τ.inq).length := by have := hsl.1; rw [ents_len] at this; omega
              subst hlen
              have hZ := hY.adopt_inq (.slice a (St.forget τ.inq).length cap) (St.forget τ.inq) ol x hsl (fun g h => ⟨by simp [h], .inr (hol g h).1, (hol g h).2⟩) (fun z hz => by simp [hz])
              have f17 := hY.frozen 17
              have z23 := hY.c23
              have f23 := hY.frozen 23
              have hU := (hZ.s_quoted false).r
              rw [← HX.out] at hU
              clear HX hZ hY hsl hol hsi HT
              go_wp2_with fail
              refine (Look_any S0 w0 x b _ _ K hU HI.out hK).mono ?_
              rintro e W2 ⟨rfl, hW2⟩
              go_wp2
              go_ret
              exact ⟨rfl, by rw [HG.out]; exact hW2⟩
      | false =>
        cases hb : bit (gt s 2 % 1024) 2 with
        | true =>
          have HX : Hid (τ.change s = { τ with ss := normS s, inq := St.forget τ.inq }) := by
            show τ.change s = _
            rw [HN.out, hb, HL.out, hw]; simp
          clear HN HL
          go_wp2_with (go_at_call 89; refine (local_any b (gt s 2 % 1024) _ _ (by assumption) e0 e1 (by omega) (by omega)).mono ?_; rintro e w' ⟨rfl, rfl⟩)
          have hR := hV.r
          clear hV k2 k23 f23
          go_loopg [10, 11] τ.inq.length (fun k lv iv wz => ∃ (j ℓ : Nat) (a : Option Addr) (cap : Nat) (ol : Option Nat), j + k = τ.inq.length ∧ lv = .slice a ℓ cap ∧ iv = .int .i64 j ∧ Sl wz 118 4 (.slice a ℓ cap) ℓ (ents (St.forget (τ.inq.take j))) ol ∧ (∀ g, ol = some g → w0.heap.size ≤ g ∧ g ∉ x) ∧
            AtR S0 w0 (ol.toList ++ B :: x) b { τ with ss := normS s } wz ∧ ℓ ≤ j)
          case atStart => exact ⟨0, 0, none, 0, none, by omega, rfl, rfl, Sl.nil _ _ _, (fun g h => by cases h), hR, by omega⟩
          case round =>
            clear hR
            obtain ⟨j, ℓ, a, cap, ol, hj, rfl, rfl, hsl, hol, ⟨yi, yo, yu, yn, yd, hY⟩, hℓ⟩ := hrel
            obtain ⟨oi, hsi, _, _, _⟩ := hY.lens_inq
            obtain ⟨ai, ci, rfl, hl1, hl2⟩ := hsi.shape
            have z17 := hY.c17
            dsimp only at hsi hl1 hl2 z17
            by_cases hlt : j < τ.inq.length
            · obtain ⟨ug, uoff, uc, he, rfl⟩ := hsi.addr (by omega)
              cases he
              have HT : Hid (τ.inq.take (j + 1) = τ.inq.take j ++ [τ.inq[j]]) := List.take_succ_eq_append_getElem hlt
              obtain ⟨en, hen⟩ : ∃ en, τ.inq[j] = en := ⟨_, rfl⟩
              rw [hen] at HT
              have zb := (hsi.cells rfl (j * 4 + 0) (u := .int .u8 (en.b.toNat : Int)) (by rw [ents_get τ.inq j hlt 0 (by omega), hen]; rfl)).1
              have zf := (hsi.cells rfl (j * 4 + 2) (u := .bool en.file) (by rw [ents_get τ.inq j hlt 2 (by omega), hen]; rfl)).1
              simp only [Nat.add_zero] at zb
              simp only [← Nat.add_assoc] at zf
              have hYr := hY.r
              clear hsi hen
              cases hfile : en.file with
              | true =>
                rw [hfile] at zf
                have HF : Hid (St.forget (τ.inq.take (j + 1)) = St.forget (τ.inq.take j)) := by show St.forget (τ.inq.take (j + 1)) = _; rw [HT.out, forget_snoc_file _ _ hfile]
                clear HT hY
                go_wp2
                go_roundg (gk - 1)
                case measure => omega
                case rel => exact ⟨j + 1, ℓ, a, cap, ol, by omega, rfl, by go_num, by rw [HF.out]; exact hsl, hol, hYr, by omega⟩
              | false =>
                rw [hfile] at zf
                have HF : Hid (St.forget (τ.inq.take (j + 1)) = St.forget (τ.inq.take j) ++ [⟨en.b, false, false, 0⟩]) := by show St.forget (τ.inq.take (j + 1)) = _; rw [HT.out, forget_snoc_byte _ _ hfile]
                have hY1 := hY.alloc (.cells #[.int .u8 en.b.toNat, .bool false, .bool false, .int .i64 0] 118)
                have hs1 := hsl.alloc (.cells #[.int .u8 en.b.toNat, .bool false, .bool false, .int .i64 0] 118)
                have hk0 := hY.2.kp.size
                have hbel : ∀ g, g ∈ x → g < wr.heap.size := fun g hg => hY.2.below (by simp [hg])
                clear HT hYr
                go_wp2_with (at_builtin; refine wpList_append_sl rfl (.tmp 94) (.tmp 104) 101 101 rfl hs1 rfl t0 (.agg #[.int .u8 0, .bool false, .bool false, .int .i64 0]) 16 Tryz.underlying101 hti htz0 htz1 htz2 rfl (.slice (some ⟨wr.heap.size, 0, none⟩) 1 1) 1 [.int .u8 en.b.toNat, .bool false, .bool false, .int .i64 0] rfl ?srcb ?b1b ?b2b ?nextb)
                case srcb => exact (Sl.made wr [.int .u8 en.b.toNat, .bool false, .bool false, .int .i64 0] 1 118 4 rfl (by simp [maxLen])).src Tryz.underlying101 (by intro u hu; simp at hu; rcases hu with rfl | rfl | rfl | rfl <;> rfl)
                case b1b => unfold maxLen; omega
                case b2b => omega
                case nextb =>
                  intro a1 cap1 w1 ol1 hs2 hg1 ho1
                  have hY2 := hY1.local (x := B :: x) hg1 (ol' := ol1) (by simpa using ho1) (fun g h => (hol g h).1)
                  have hol1 : ∀ g, ol1 = some g → w0.heap.size ≤ g ∧ g ∉ x := by
                    intro g h
                    rcases ho1 with h1 | ⟨h1, _⟩
                    · exact hol g (by rw [← h1, h])
                    · rw [h1] at h; cases h
                      refine ⟨by first | omega | (simp; omega), fun hc => ?_⟩
                      have := hbel _ hc
                      first | omega | (simp at this; omega)
                  have hR3 := hY2.r
                  clear hY1 hs1 hY hsl hol ho1 hg1 zb zf z17 hY2 hbel
                  go_wp2
                  go_roundg (gk - 1)
                  case measure => omega
                  case rel => exact ⟨j + 1, ℓ + 1, a1, cap1, ol1, by omega, rfl, by go_num, by rw [HF.out, ents_app]; exact hs2, hol1, hR3, by omega⟩
            · have HT : Hid (St.forget (τ.inq.take j) = St.forget τ.inq) := by show St.forget (τ.inq.take j) = _; rw [List.take_of_length_le (by omega)]
              rw [HT.out] at hsl
              have hlen : ℓ = (St.forget τ.inq).length := by have := hsl.1; rw [ents_len] at this; omega
              subst hlen
              have hZ := hY.adopt_inq (.slice a (St.forget τ.inq).length cap) (St.forget τ.inq) ol x hsl (fun g h => ⟨by simp [h], .inr (hol g h).1, (hol g h).2⟩) (fun z hz => by simp [hz])
              have f17 := hY.frozen 17
              have hU := hZ.r
              rw [← HX.out] at hU
              clear HX hZ hY hsl hol hsi HT
              go_wp2_with fail
              refine (Look_any S0 w0 x b _ _ K hU HI.out hK).mono ?_
              rintro e W2 ⟨rfl, hW2⟩
              go_wp2
              go_ret
              exact ⟨rfl, by rw [HG.out]; exact hW2⟩
        | false =>
          have HX : Hid (τ.change s = { τ with ss := normS s, quoted := false }) := by
            show τ.change s = _
            rw [HN.out, hb, HL.out, hw]; simp
          have hU := (hV.s_quoted false).r
          rw [← HX.out] at hU
          clear HX HN hV HL
          go_wp2_with (go_at_call 89; refine (local_any b (gt s 2 % 1024) _ _ (by assumption) e0 e1 (by omega) (by omega)).mono ?_; rintro e w' ⟨rfl, rfl⟩)
          refine (Look_any S0 w0 (B :: x) b _ _ K hU HI.out hK).mono ?_
          rintro e W2 ⟨rfl, hW2⟩
          go_wp2
          go_ret
          exact ⟨rfl, by rw [HG.out]; exact hW2.weaken fun g hg => by simp [hg]⟩
end
end Go.Proofs.YtfnglkhhmplejaaGreat
namespace Go.Proofs.YtfnglkhhmplejaaGreat
open Go Go.RowKit Go.Clk

section
variable (S0 : List Nat) (w0 : World) (x : List Nat) (b : Nat) (σ : St) (w : World) (K : Int)

set_option maxHeartbeats 1000000 in
set_option maxRecDepth 100000 in
theorem Set_kind (h : AtR S0 w0 x b σ w) (s : List Int) (k : Int) (hk : k < 0 ∨ 2 < k) :
    Calls Tryz.prog 62 #[.pointer (some ⟨b, 0, none⟩), .agg (i64s s).toArray, .int .i64 k] w fun e w' => e = .returned (.int .i64 1) ∧ AtR S0 w0 x b σ w' := by
  go_enter Tryz.func62, Tryz.ntmps62
  go_wp2_with (refine wpList_box rfl (.tmp 1) 29 rfl (i64s s) rfl ?_)
  intro W B hid
  have hB : AtR S0 w0 x b σ W := by obtain ⟨rfl, rfl⟩ := hid.out; exact (h.boxed _).weaken fun g hg => by simp [hg]
  clear hid h
  rcases hk with h1 | h1
  · go_wp2
    go_ret
    exact ⟨rfl, hB⟩
  · have h2 : ¬ k < 0 := by omega
    go_wp2
    go_ret
    exact ⟨rfl, hB⟩

set_option maxHeartbeats 1000000 in
set_option maxRecDepth 100000 in
theorem Set_busy (h : AtR S0 w0 x b σ w) (s : List Int) (k : Int) (hk : 0 < k) (hk2 : k ≤ 2) (ho : 0 < σ.out.length) :
    Calls Tryz.prog 62 #[.pointer (some ⟨b, 0, none⟩), .agg (i64s s).toArray, .int .i64 k] w fun e w' => e = .returned (.int .i64 3) ∧ AtR S0 w0 x b σ w' := by
  go_enter Tryz.func62, Tryz.ntmps62
  go_wp2_with (refine wpList_box rfl (.tmp 1) 29 rfl (i64s s) rfl ?_)
  intro W B hid
  have hB : AtR S0 w0 x b σ W := by obtain ⟨rfl, rfl⟩ := hid.out; exact (h.boxed _).weaken fun g hg => by simp [hg]
  clear hid h
  have hR := hB
  obtain ⟨vi, vo, vu, vn, vd, hV⟩ := hB
  obtain ⟨oo, hso, _, _, _⟩ := hV.lens_out
  obtain ⟨ao, co, rfl, _, _⟩ := hso.shape
  have k18 := hV.c18
  have h1 : ¬ k < 0 := by omega
  have h2 : ¬ 2 < k := by omega
  clear hso hV
  go_wp2
  go_ret
  exact ⟨rfl, hR⟩

theorem RSet_any (h : AtR S0 w0 x b σ w) (ok : Inv K σ) (hK : K ≤ 1099511627776) (s : List Int) (hs : s.length = 17) (k : Int) :
    Calls Tryz.prog 62 #[.pointer (some ⟨b, 0, none⟩), .agg (i64s s).toArray, .int .i64 k] w fun e w' => e = .returned (.int .i64 (σ.set s k).2) ∧ AtR S0 w0 x b (σ.set s k).1 w' := by
  unfold St.set
  by_cases hk : k < 0 ∨ 2 < k
  · rw [if_pos hk]; exact Set_kind S0 w0 x b σ w h s k hk
  · rw [if_neg hk]
    by_cases hb : 0 < k ∧ σ.out ≠ []
    · rw [if_pos hb]
      exact Set_busy S0 w0 x b σ w h s k hb.1 (by omega) (by have := List.length_pos_iff.2 hb.2; omega)
    · rw [if_neg hb]
      rcases (by omega : k = 0 ∨ k = 1 ∨ k = 2) with rfl | rfl | rfl
      · exact Set_0 S0 w0 x b σ w K h ok hK s hs
      · exact Set_1 S0 w0 x b σ w K h ok hK s hs (by simpa using hb)
      · exact Set_2 S0 w0 x b σ w K h ok hK s hs (by simpa using hb)
end
end Go.Proofs.YtfnglkhhmplejaaGreat
