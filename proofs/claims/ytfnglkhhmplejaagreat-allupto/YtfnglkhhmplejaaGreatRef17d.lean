/- Walks: the reference's terminal: what a byte means to a line: ends. (Written by mkRef17.py.) -/
import Derived.Test.YtfnglkhhmplejaaGreatR15
namespace Go.Proofs.YtfnglkhhmplejaaGreat
open Go Go.RowKit Go.Clk

section
variable (S0 : List Nat) (w0 : World) (x : List Nat) (b : Nat) (σ : St) (w : World) (K : Int)
set_option maxHeartbeats 4000000 in
set_option maxRecDepth 100000 in
theorem edits_eof_a (h : AtR S0 w0 x b σ w) (ok : Inv K σ) (hK : K ≤ 1099511627776) (c : UInt8) (h0 : σ.isC c 3 = false) (h1 : σ.isC c 5 = false) (h2 : bit σ.l 512 = false) (h3 : σ.isC c 6 = true) :
    Calls Tryz.prog 129 #[.pointer (some ⟨b, 0, none⟩), .int .u8 c.toNat] w fun r w' => r = .returned (.bool true) ∧ AtR S0 w0 x b (σ.lays ⟨0, true, true, 0⟩) w' := by
  have hR := h
  obtain ⟨vi, vo, vu, vn, vd, hV⟩ := h
  have l0 := ok.ok.l0; have l1 := ok.ok.l1; have hil := ok.inq
  have k2 := hV.cl
  obtain ⟨oi, hsi, _, _, _⟩ := hV.lens_inq
  obtain ⟨ai, ci, rfl, hl1, hl2⟩ := hsi.shape
  have k17 := hV.c17
  have HI : Hid (Inv K σ) := ok
  have hpl := pend_le σ.inq
  have HP : Hid (∀ (j q : Nat) (h : q < σ.inq.length), j < pend σ.inq → q + 1 + j = σ.inq.length → σ.inq[q].fin = false) := fun j q _ hj hq => pend_in σ.inq j q hj hq
  have HQ : Hid (∀ (q : Nat) (h : q < σ.inq.length), q + 1 + pend σ.inq = σ.inq.length → σ.inq[q].fin = true) := fun q _ hq => pend_end σ.inq q hq
  obtain ⟨p, hp⟩ : ∃ p, pend σ.inq = p := ⟨_, rfl⟩
  have HE : Hid (pend σ.inq = p) := hp
  rw [hp] at hpl HP HQ
  clear ok hsi hp
  go_enter Tryz.func129, Tryz.ntmps129
  go_wp2_with (go_at_call 89; refine (local_any b σ.l _ _ k2 l0 l1 (by omega) (by omega)).mono ?_; rintro e w' ⟨rfl, rfl⟩)
  go_loopg [7] p (fun k fv wr => ∃ (f j : Nat), f + j = σ.inq.length ∧ j + k = p ∧ fv = .int .i64 f ∧ AtV S0 w0 x b σ (.slice ai σ.inq.length ci) vo vu vn vd wr)
  case atStart => exact ⟨σ.inq.length, 0, by omega, by omega, rfl, hV⟩
  case round =>
    clear hV k17 k2 hR
    obtain ⟨f, j, hf, hj, rfl, hV⟩ := hrel
    have hR := hV.r
    have k17 := hV.c17
    have k2 := hV.cl
    by_cases hz : 0 < f
    · obtain ⟨q, rfl⟩ : ∃ q, f = q + 1 := ⟨f - 1, by omega⟩
      have hql : q < σ.inq.length := by omega
      obtain ⟨oi, hsi, _, _, _⟩ := hV.lens_inq
      obtain ⟨ug, uoff, uc, he, rfl⟩ := hsi.addr (by omega)
      cases he
      have kc := (hsi.cells rfl (q * 4 + 1) (u := .bool σ.inq[q].fin) (by rw [ents_get σ.inq q hql 1 (by omega)]; rfl)).1
      simp only [← Nat.add_assoc] at kc
      clear hsi
      by_cases hjp : j < p
      · rw [HP.out j q hql hjp (by omega)] at kc
        clear HP HQ
        go_wp2
        go_roundg (gk - 1)
        case measure => omega
        case rel => exact ⟨q, j + 1, by omega, by omega, by go_num, hV⟩
      · obtain rfl : j = p := by omega
        rw [HQ.out q hql (by omega)] at kc
        clear HP HQ
        go_wp2_with (first | (go_at_call 89; refine (local_any b σ.l _ _ k2 l0 l1 (by omega) (by omega)).mono ?_; rintro e w' ⟨rfl, rfl⟩) | (go_at_call 148; refine (is_any S0 w0 x b σ _ hR c _ (by omega) (by omega)).mono ?_; rintro e w' ⟨rfl, rfl⟩))
        refine (lays_any S0 w0 x b σ _ K hR HI.out hK ⟨0, true, true, 0⟩ _ (by first | rfl | simp_all)).mono ?_
        rintro e W ⟨rfl, hW⟩
        go_wp2
        go_ret
        exact ⟨rfl, hW⟩
    · obtain rfl : f = 0 := by omega
      obtain rfl : j = p := by
        rcases Nat.lt_or_ge j p with h9 | h9
        · omega
        · omega
      clear HP HQ
      go_wp2_with (first | (go_at_call 89; refine (local_any b σ.l _ _ k2 l0 l1 (by omega) (by omega)).mono ?_; rintro e w' ⟨rfl, rfl⟩) | (go_at_call 148; refine (is_any S0 w0 x b σ _ hR c _ (by omega) (by omega)).mono ?_; rintro e w' ⟨rfl, rfl⟩))
      refine (lays_any S0 w0 x b σ _ K hR HI.out hK ⟨0, true, true, 0⟩ _ (by first | rfl | simp_all)).mono ?_
      rintro e W ⟨rfl, hW⟩
      go_wp2
      go_ret
      exact ⟨rfl, hW⟩
set_option maxHeartbeats 4000000 in
set_option maxRecDepth 100000 in
theorem edits_nl_a (h : AtR S0 w0 x b σ w) (ok : Inv K σ) (hK : K ≤ 1099511627776) (c : UInt8) (h0 : σ.isC c 3 = false) (h1 : σ.isC c 5 = false) (h2 : bit σ.l 512 = false) (h3 : σ.isC c 6 = false) (h4 : ((c.toNat : Int) == 10) = true) :
    Calls Tryz.prog 129 #[.pointer (some ⟨b, 0, none⟩), .int .u8 c.toNat] w fun r w' => r = .returned (.bool true) ∧ AtR S0 w0 x b (σ.lays ⟨c, true, false, 0⟩) w' := by
  have hR := h
  obtain ⟨vi, vo, vu, vn, vd, hV⟩ := h
  have l0 := ok.ok.l0; have l1 := ok.ok.l1; have hil := ok.inq
  have k2 := hV.cl
  obtain ⟨oi, hsi, _, _, _⟩ := hV.lens_inq
  obtain ⟨ai, ci, rfl, hl1, hl2⟩ := hsi.shape
  have k17 := hV.c17
  have HI : Hid (Inv K σ) := ok
  have hpl := pend_le σ.inq
  have HP : Hid (∀ (j q : Nat) (h : q < σ.inq.length), j < pend σ.inq → q + 1 + j = σ.inq.length → σ.inq[q].fin = false) := fun j q _ hj hq => pend_in σ.inq j q hj hq
  have HQ : Hid (∀ (q : Nat) (h : q < σ.inq.length), q + 1 + pend σ.inq = σ.inq.length → σ.inq[q].fin = true) := fun q _ hq => pend_end σ.inq q hq
  obtain ⟨p, hp⟩ : ∃ p, pend σ.inq = p := ⟨_, rfl⟩
  have HE : Hid (pend σ.inq = p) := hp
  rw [hp] at hpl HP HQ
  clear ok hsi hp
  go_enter Tryz.func129, Tryz.ntmps129
  go_wp2_with (go_at_call 89; refine (local_any b σ.l _ _ k2 l0 l1 (by omega) (by omega)).mono ?_; rintro e w' ⟨rfl, rfl⟩)
  go_loopg [7] p (fun k fv wr => ∃ (f j : Nat), f + j = σ.inq.length ∧ j + k = p ∧ fv = .int .i64 f ∧ AtV S0 w0 x b σ (.slice ai σ.inq.length ci) vo vu vn vd wr)
  case atStart => exact ⟨σ.inq.length, 0, by omega, by omega, rfl, hV⟩
  case round =>
    clear hV k17 k2 hR
    obtain ⟨f, j, hf, hj, rfl, hV⟩ := hrel
    have hR := hV.r
    have k17 := hV.c17
    have k2 := hV.cl
    by_cases hz : 0 < f
    · obtain ⟨q, rfl⟩ : ∃ q, f = q + 1 := ⟨f - 1, by omega⟩
      have hql : q < σ.inq.length := by omega
      obtain ⟨oi, hsi, _, _, _⟩ := hV.lens_inq
      obtain ⟨ug, uoff, uc, he, rfl⟩ := hsi.addr (by omega)
      cases he
      have kc := (hsi.cells rfl (q * 4 + 1) (u := .bool σ.inq[q].fin) (by rw [ents_get σ.inq q hql 1 (by omega)]; rfl)).1
      simp only [← Nat.add_assoc] at kc
      clear hsi
      by_cases hjp : j < p
      · rw [HP.out j q hql hjp (by omega)] at kc
        clear HP HQ
        go_wp2
        go_roundg (gk - 1)
        case measure => omega
        case rel => exact ⟨q, j + 1, by omega, by omega, by go_num, hV⟩
      · obtain rfl : j = p := by omega
        rw [HQ.out q hql (by omega)] at kc
        clear HP HQ
        go_wp2_with (first | (go_at_call 89; refine (local_any b σ.l _ _ k2 l0 l1 (by omega) (by omega)).mono ?_; rintro e w' ⟨rfl, rfl⟩) | (go_at_call 148; refine (is_any S0 w0 x b σ _ hR c _ (by omega) (by omega)).mono ?_; rintro e w' ⟨rfl, rfl⟩))
        refine (lays_any S0 w0 x b σ _ K hR HI.out hK ⟨c, true, false, 0⟩ _ (by first | rfl | simp_all)).mono ?_
        rintro e W ⟨rfl, hW⟩
        go_wp2
        go_ret
        exact ⟨rfl, hW⟩
    · obtain rfl : f = 0 := by omega
      obtain rfl : j = p := by
        rcases Nat.lt_or_ge j p with h9 | h9
        · omega
        · omega
      clear HP HQ
      go_wp2_with (first | (go_at_call 89; refine (local_any b σ.l _ _ k2 l0 l1 (by omega) (by omega)).mono ?_; rintro e w' ⟨rfl, rfl⟩) | (go_at_call 148; refine (is_any S0 w0 x b σ _ hR c _ (by omega) (by omega)).mono ?_; rintro e w' ⟨rfl, rfl⟩))
      refine (lays_any S0 w0 x b σ _ K hR HI.out hK ⟨c, true, false, 0⟩ _ (by first | rfl | simp_all)).mono ?_
      rintro e W ⟨rfl, hW⟩
      go_wp2
      go_ret
      exact ⟨rfl, hW⟩
set_option maxHeartbeats 4000000 in
set_option maxRecDepth 100000 in
theorem edits_eol_a (h : AtR S0 w0 x b σ w) (ok : Inv K σ) (hK : K ≤ 1099511627776) (c : UInt8) (h0 : σ.isC c 3 = false) (h1 : σ.isC c 5 = false) (h2 : bit σ.l 512 = false) (h3 : σ.isC c 6 = false) (h4 : ((c.toNat : Int) == 10) = false) (h5 : σ.isC c 7 = true) :
    Calls Tryz.prog 129 #[.pointer (some ⟨b, 0, none⟩), .int .u8 c.toNat] w fun r w' => r = .returned (.bool true) ∧ AtR S0 w0 x b (σ.lays ⟨c, true, false, 0⟩) w' := by
  have hR := h
  obtain ⟨vi, vo, vu, vn, vd, hV⟩ := h
  have l0 := ok.ok.l0; have l1 := ok.ok.l1; have hil := ok.inq
  have k2 := hV.cl
  obtain ⟨oi, hsi, _, _, _⟩ := hV.lens_inq
  obtain ⟨ai, ci, rfl, hl1, hl2⟩ := hsi.shape
  have k17 := hV.c17
  have HI : Hid (Inv K σ) := ok
  have hpl := pend_le σ.inq
  have HP : Hid (∀ (j q : Nat) (h : q < σ.inq.length), j < pend σ.inq → q + 1 + j = σ.inq.length → σ.inq[q].fin = false) := fun j q _ hj hq => pend_in σ.inq j q hj hq
  have HQ : Hid (∀ (q : Nat) (h : q < σ.inq.length), q + 1 + pend σ.inq = σ.inq.length → σ.inq[q].fin = true) := fun q _ hq => pend_end σ.inq q hq
  obtain ⟨p, hp⟩ : ∃ p, pend σ.inq = p := ⟨_, rfl⟩
  have HE : Hid (pend σ.inq = p) := hp
  rw [hp] at hpl HP HQ
  clear ok hsi hp
  go_enter Tryz.func129, Tryz.ntmps129
  go_wp2_with (go_at_call 89; refine (local_any b σ.l _ _ k2 l0 l1 (by omega) (by omega)).mono ?_; rintro e w' ⟨rfl, rfl⟩)
  go_loopg [7] p (fun k fv wr => ∃ (f j : Nat), f + j = σ.inq.length ∧ j + k = p ∧ fv = .int .i64 f ∧ AtV S0 w0 x b σ (.slice ai σ.inq.length ci) vo vu vn vd wr)
  case atStart => exact ⟨σ.inq.length, 0, by omega, by omega, rfl, hV⟩
  case round =>
    clear hV k17 k2 hR
    obtain ⟨f, j, hf, hj, rfl, hV⟩ := hrel
    have hR := hV.r
    have k17 := hV.c17
    have k2 := hV.cl
    by_cases hz : 0 < f
    · obtain ⟨q, rfl⟩ : ∃ q, f = q + 1 := ⟨f - 1, by omega⟩
      have hql : q < σ.inq.length := by omega
      obtain ⟨oi, hsi, _, _, _⟩ := hV.lens_inq
      obtain ⟨ug, uoff, uc, he, rfl⟩ := hsi.addr (by omega)
      cases he
      have kc := (hsi.cells rfl (q * 4 + 1) (u := .bool σ.inq[q].fin) (by rw [ents_get σ.inq q hql 1 (by omega)]; rfl)).1
      simp only [← Nat.add_assoc] at kc
      clear hsi
      by_cases hjp : j < p
      · rw [HP.out j q hql hjp (by omega)] at kc
        clear HP HQ
        go_wp2
        go_roundg (gk - 1)
        case measure => omega
        case rel => exact ⟨q, j + 1, by omega, by omega, by go_num, hV⟩
      · obtain rfl : j = p := by omega
        rw [HQ.out q hql (by omega)] at kc
        clear HP HQ
        go_wp2_with (first | (go_at_call 89; refine (local_any b σ.l _ _ k2 l0 l1 (by omega) (by omega)).mono ?_; rintro e w' ⟨rfl, rfl⟩) | (go_at_call 148; refine (is_any S0 w0 x b σ _ hR c _ (by omega) (by omega)).mono ?_; rintro e w' ⟨rfl, rfl⟩))
        refine (lays_any S0 w0 x b σ _ K hR HI.out hK ⟨c, true, false, 0⟩ _ (by first | rfl | simp_all)).mono ?_
        rintro e W ⟨rfl, hW⟩
        go_wp2
        go_ret
        exact ⟨rfl, hW⟩
    · obtain rfl : f = 0 := by omega
      obtain rfl : j = p := by
        rcases Nat.lt_or_ge j p with h9 | h9
        · omega
        · omega
      clear HP HQ
      go_wp2_with (first | (go_at_call 89; refine (local_any b σ.l _ _ k2 l0 l1 (by omega) (by omega)).mono ?_; rintro e w' ⟨rfl, rfl⟩) | (go_at_call 148; refine (is_any S0 w0 x b σ _ hR c _ (by omega) (by omega)).mono ?_; rintro e w' ⟨rfl, rfl⟩))
      refine (lays_any S0 w0 x b σ _ K hR HI.out hK ⟨c, true, false, 0⟩ _ (by first | rfl | simp_all)).mono ?_
      rintro e W ⟨rfl, hW⟩
      go_wp2
      go_ret
      exact ⟨rfl, hW⟩
set_option maxHeartbeats 4000000 in
set_option maxRecDepth 100000 in
theorem edits_none_a (h : AtR S0 w0 x b σ w) (ok : Inv K σ) (_hK : K ≤ 1099511627776) (c : UInt8) (h0 : σ.isC c 3 = false) (h1 : σ.isC c 5 = false) (h2 : bit σ.l 512 = false) (h3 : σ.isC c 6 = false) (h4 : ((c.toNat : Int) == 10) = false) (h5 : σ.isC c 7 = false) :
    Calls Tryz.prog 129 #[.pointer (some ⟨b, 0, none⟩), .int .u8 c.toNat] w fun r w' => r = .returned (.bool false) ∧ AtR S0 w0 x b σ w' := by
  have hR := h
  obtain ⟨vi, vo, vu, vn, vd, hV⟩ := h
  have l0 := ok.ok.l0; have l1 := ok.ok.l1; have hil := ok.inq
  have k2 := hV.cl
  obtain ⟨oi, hsi, _, _, _⟩ := hV.lens_inq
  obtain ⟨ai, ci, rfl, hl1, hl2⟩ := hsi.shape
  have k17 := hV.c17
  have HI : Hid (Inv K σ) := ok
  have hpl := pend_le σ.inq
  have HP : Hid (∀ (j q : Nat) (h : q < σ.inq.length), j < pend σ.inq → q + 1 + j = σ.inq.length → σ.inq[q].fin = false) := fun j q _ hj hq => pend_in σ.inq j q hj hq
  have HQ : Hid (∀ (q : Nat) (h : q < σ.inq.length), q + 1 + pend σ.inq = σ.inq.length → σ.inq[q].fin = true) := fun q _ hq => pend_end σ.inq q hq
  obtain ⟨p, hp⟩ : ∃ p, pend σ.inq = p := ⟨_, rfl⟩
  have HE : Hid (pend σ.inq = p) := hp
  rw [hp] at hpl HP HQ
  clear ok hsi hp
  go_enter Tryz.func129, Tryz.ntmps129
  go_wp2_with (go_at_call 89; refine (local_any b σ.l _ _ k2 l0 l1 (by omega) (by omega)).mono ?_; rintro e w' ⟨rfl, rfl⟩)
  go_loopg [7] p (fun k fv wr => ∃ (f j : Nat), f + j = σ.inq.length ∧ j + k = p ∧ fv = .int .i64 f ∧ AtV S0 w0 x b σ (.slice ai σ.inq.length ci) vo vu vn vd wr)
  case atStart => exact ⟨σ.inq.length, 0, by omega, by omega, rfl, hV⟩
  case round =>
    clear hV k17 k2 hR
    obtain ⟨f, j, hf, hj, rfl, hV⟩ := hrel
    have hR := hV.r
    have k17 := hV.c17
    have k2 := hV.cl
    by_cases hz : 0 < f
    · obtain ⟨q, rfl⟩ : ∃ q, f = q + 1 := ⟨f - 1, by omega⟩
      have hql : q < σ.inq.length := by omega
      obtain ⟨oi, hsi, _, _, _⟩ := hV.lens_inq
      obtain ⟨ug, uoff, uc, he, rfl⟩ := hsi.addr (by omega)
      cases he
      have kc := (hsi.cells rfl (q * 4 + 1) (u := .bool σ.inq[q].fin) (by rw [ents_get σ.inq q hql 1 (by omega)]; rfl)).1
      simp only [← Nat.add_assoc] at kc
      clear hsi
      by_cases hjp : j < p
      · rw [HP.out j q hql hjp (by omega)] at kc
        clear HP HQ
        go_wp2
        go_roundg (gk - 1)
        case measure => omega
        case rel => exact ⟨q, j + 1, by omega, by omega, by go_num, hV⟩
      · obtain rfl : j = p := by omega
        rw [HQ.out q hql (by omega)] at kc
        clear HP HQ
        go_wp2_with (first | (go_at_call 89; refine (local_any b σ.l _ _ k2 l0 l1 (by omega) (by omega)).mono ?_; rintro e w' ⟨rfl, rfl⟩) | (go_at_call 148; refine (is_any S0 w0 x b σ _ hR c _ (by omega) (by omega)).mono ?_; rintro e w' ⟨rfl, rfl⟩))
        all_goals go_ret
        all_goals exact ⟨rfl, hR⟩
    · obtain rfl : f = 0 := by omega
      obtain rfl : j = p := by
        rcases Nat.lt_or_ge j p with h9 | h9
        · omega
        · omega
      clear HP HQ
      go_wp2_with (first | (go_at_call 89; refine (local_any b σ.l _ _ k2 l0 l1 (by omega) (by omega)).mono ?_; rintro e w' ⟨rfl, rfl⟩) | (go_at_call 148; refine (is_any S0 w0 x b σ _ hR c _ (by omega) (by omega)).mono ?_; rintro e w' ⟨rfl, rfl⟩))
      all_goals go_ret
      all_goals exact ⟨rfl, hR⟩
end
end Go.Proofs.YtfnglkhhmplejaaGreat
