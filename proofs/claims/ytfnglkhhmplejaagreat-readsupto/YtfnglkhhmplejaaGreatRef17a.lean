/- Walks: the reference's terminal: what a byte means to a line: rubbing out. (Written by mkRef17.py.) -/
import Derived.Test.YtfnglkhhmplejaaGreatR15
namespace Go.Proofs.YtfnglkhhmplejaaGreat
open Go Go.RowKit Go.Clk

section
variable (S0 : List Nat) (w0 : World) (x : List Nat) (b : Nat) (σ : St) (w : World) (K : Int)
set_option maxHeartbeats 4000000 in
set_option maxRecDepth 100000 in
theorem edits_erase (h : AtR S0 w0 x b σ w) (ok : Inv K σ) (hK : K ≤ 1099511627776) (c : UInt8) (h0 : σ.isC c 3 = true) :
    Calls Tryz.prog 129 #[.pointer (some ⟨b, 0, none⟩), .int .u8 c.toNat] w fun r w' => r = .returned (.bool true) ∧ AtR S0 w0 x b (σ.rubs (min 1 (pend σ.inq)) c) w' := by
  have hR := h
  obtain ⟨vi, vo, vu, vn, vd, hV⟩ := h
  have l0 := ok.ok.l0; have l1 := ok.ok.l1; have hil := ok.inq
  have k2 := hV.cl
  obtain ⟨oi, hsi, _, _, _⟩ := hV.lens_inq
  obtain ⟨ai, ci, rfl, hl1, hl2⟩ := hsi.shape
  have k17 := hV.c17
  have HI : Hid (Inv K σ) := ok
  have hpl := pend_le σ.inq
  have HP : Hid (∀ (j q : Nat) (h : q < σ.inq.length), j < pend σ.inq → q + 1 + j = σ.inq.length → σ.inq[q].fin = false) := fun j q _ hj hq => pend_in σ.inq j q hj hq
  have HQ : Hid (∀ (q : Nat) (h : q < σ.inq.length), q + 1 + pend σ.inq = σ.inq.length → σ.inq[q].fin = true) := fun q _ hq => pend_end σ.inq q hq
  obtain ⟨p, hp⟩ : ∃ p, pend σ.inq = p := ⟨_, rfl⟩
  have HE : Hid (pend σ.inq = p) := hp
  rw [hp] at hpl HP HQ
  clear ok hsi hp
  go_enter Tryz.func129, Tryz.ntmps129
  go_wp2_with (go_at_call 89; refine (local_any b σ.l _ _ k2 l0 l1 (by omega) (by omega)).mono ?_; rintro e w' ⟨rfl, rfl⟩)
  go_loopg [7] p (fun k fv wr => ∃ (f j : Nat), f + j = σ.inq.length ∧ j + k = p ∧ fv = .int .i64 f ∧ AtV S0 w0 x b σ (.slice ai σ.inq.length ci) vo vu vn vd wr)
  case atStart => exact ⟨σ.inq.length, 0, by omega, by omega, rfl, hV⟩
  case round =>
    clear hV k17 k2 hR
    obtain ⟨f, j, hf, hj, rfl, hV⟩ := hrel
    have hR := hV.r
    have k17 := hV.c17
    have k2 := hV.cl
    by_cases hz : 0 < f
    · obtain ⟨q, rfl⟩ : ∃ q, f = q + 1 := ⟨f - 1, by omega⟩
      have hql : q < σ.inq.length := by omega
      obtain ⟨oi, hsi, _, _, _⟩ := hV.lens_inq
      obtain ⟨ug, uoff, uc, he, rfl⟩ := hsi.addr (by omega)
      cases he
      have kc := (hsi.cells rfl (q * 4 + 1) (u := .bool σ.inq[q].fin) (by rw [ents_get σ.inq q hql 1 (by omega)]; rfl)).1
      simp only [← Nat.add_assoc] at kc
      clear hsi
      by_cases hjp : j < p
      · rw [HP.out j q hql hjp (by omega)] at kc
        clear HP HQ
        go_wp2
        go_roundg (gk - 1)
        case measure => omega
        case rel => exact ⟨q, j + 1, by omega, by omega, by go_num, hV⟩
      · obtain rfl : j = p := by omega
        rw [HQ.out q hql (by omega)] at kc
        clear HP HQ
        by_cases hj0 : j = 0
        · have HM : Hid (min 1 (pend σ.inq) = 0) := by show min 1 (pend σ.inq) = 0; rw [HE.out, hj0]; rfl
          have hlt : ¬ (((q : Nat) + 1) : Int) < (σ.inq.length : Int) := by omega
          go_wp2_with (first | (go_at_call 89; refine (local_any b σ.l _ _ k2 l0 l1 (by omega) (by omega)).mono ?_; rintro e w' ⟨rfl, rfl⟩) | (go_at_call 148; refine (is_any S0 w0 x b σ _ hR c _ (by omega) (by omega)).mono ?_; rintro e w' ⟨rfl, rfl⟩))
          refine (rubs_any S0 w0 x b σ _ K hR HI.out hK 0 (Nat.zero_le _) c _ rfl).mono ?_
          rintro e W ⟨rfl, hW⟩
          go_wp2
          go_ret
          exact ⟨rfl, by rw [HM.out]; exact hW⟩
        · have HM : Hid (min 1 (pend σ.inq) = 1) := by show min 1 (pend σ.inq) = 1; rw [HE.out]; omega
          have hlt : (((q : Nat) + 1) : Int) < (σ.inq.length : Int) := by omega
          go_wp2_with (first | (go_at_call 89; refine (local_any b σ.l _ _ k2 l0 l1 (by omega) (by omega)).mono ?_; rintro e w' ⟨rfl, rfl⟩) | (go_at_call 148; refine (is_any S0 w0 x b σ _ hR c _ (by omega) (by omega)).mono ?_; rintro e w' ⟨rfl, rfl⟩))
          refine (rubs_any S0 w0 x b σ _ K hR HI.out hK 1 (by omega) c _ rfl).mono ?_
          rintro e W ⟨rfl, hW⟩
          go_wp2
          go_ret
          exact ⟨rfl, by rw [HM.out]; exact hW⟩
    · obtain rfl : f = 0 := by omega
      obtain rfl : j = p := by
        rcases Nat.lt_or_ge j p with h9 | h9
        · omega
        · omega
      clear HP HQ
      by_cases hj0 : j = 0
      · have HM : Hid (min 1 (pend σ.inq) = 0) := by show min 1 (pend σ.inq) = 0; rw [HE.out, hj0]; rfl
        have hlt : ¬ (0 : Int) < (σ.inq.length : Int) := by omega
        go_wp2_with (first | (go_at_call 89; refine (local_any b σ.l _ _ k2 l0 l1 (by omega) (by omega)).mono ?_; rintro e w' ⟨rfl, rfl⟩) | (go_at_call 148; refine (is_any S0 w0 x b σ _ hR c _ (by omega) (by omega)).mono ?_; rintro e w' ⟨rfl, rfl⟩))
        refine (rubs_any S0 w0 x b σ _ K hR HI.out hK 0 (Nat.zero_le _) c _ rfl).mono ?_
        rintro e W ⟨rfl, hW⟩
        go_wp2
        go_ret
        exact ⟨rfl, by rw [HM.out]; exact hW⟩
      · have HM : Hid (min 1 (pend σ.inq) = 1) := by show min 1 (pend σ.inq) = 1; rw [HE.out]; omega
        have hlt : (0 : Int) < (σ.inq.length : Int) := by omega
        go_wp2_with (first | (go_at_call 89; refine (local_any b σ.l _ _ k2 l0 l1 (by omega) (by omega)).mono ?_; rintro e w' ⟨rfl, rfl⟩) | (go_at_call 148; refine (is_any S0 w0 x b σ _ hR c _ (by omega) (by omega)).mono ?_; rintro e w' ⟨rfl, rfl⟩))
        refine (rubs_any S0 w0 x b σ _ K hR HI.out hK 1 (by omega) c _ rfl).mono ?_
        rintro e W ⟨rfl, hW⟩
        go_wp2
        go_ret
        exact ⟨rfl, by rw [HM.out]; exact hW⟩
set_option maxHeartbeats 4000000 in
set_option maxRecDepth 100000 in
theorem edits_kill (h : AtR S0 w0 x b σ w) (ok : Inv K σ) (hK : K ≤ 1099511627776) (c : UInt8) (h0 : σ.isC c 3 = false) (h1 : σ.isC c 5 = true) :
    Calls Tryz.prog 129 #[.pointer (some ⟨b, 0, none⟩), .int .u8 c.toNat] w fun r w' => r = .returned (.bool true) ∧ AtR S0 w0 x b (σ.kills (pend σ.inq) c) w' := by
  have hR := h
  obtain ⟨vi, vo, vu, vn, vd, hV⟩ := h
  have l0 := ok.ok.l0; have l1 := ok.ok.l1; have hil := ok.inq
  have k2 := hV.cl
  obtain ⟨oi, hsi, _, _, _⟩ := hV.lens_inq
  obtain ⟨ai, ci, rfl, hl1, hl2⟩ := hsi.shape
  have k17 := hV.c17
  have HI : Hid (Inv K σ) := ok
  have hpl := pend_le σ.inq
  have HP : Hid (∀ (j q : Nat) (h : q < σ.inq.length), j < pend σ.inq → q + 1 + j = σ.inq.length → σ.inq[q].fin = false) := fun j q _ hj hq => pend_in σ.inq j q hj hq
  have HQ : Hid (∀ (q : Nat) (h : q < σ.inq.length), q + 1 + pend σ.inq = σ.inq.length → σ.inq[q].fin = true) := fun q _ hq => pend_end σ.inq q hq
  obtain ⟨p, hp⟩ : ∃ p, pend σ.inq = p := ⟨_, rfl⟩
  have HE : Hid (pend σ.inq = p) := hp
  rw [hp] at hpl HP HQ
  clear ok hsi hp
  go_enter Tryz.func129, Tryz.ntmps129
  go_wp2_with (go_at_call 89; refine (local_any b σ.l _ _ k2 l0 l1 (by omega) (by omega)).mono ?_; rintro e w' ⟨rfl, rfl⟩)
  go_loopg [7] p (fun k fv wr => ∃ (f j : Nat), f + j = σ.inq.length ∧ j + k = p ∧ fv = .int .i64 f ∧ AtV S0 w0 x b σ (.slice ai σ.inq.length ci) vo vu vn vd wr)
  case atStart => exact ⟨σ.inq.length, 0, by omega, by omega, rfl, hV⟩
  case round =>
    clear hV k17 k2 hR
    obtain ⟨f, j, hf, hj, rfl, hV⟩ := hrel
    have hR := hV.r
    have k17 := hV.c17
    have k2 := hV.cl
    by_cases hz : 0 < f
    · obtain ⟨q, rfl⟩ : ∃ q, f = q + 1 := ⟨f - 1, by omega⟩
      have hql : q < σ.inq.length := by omega
      obtain ⟨oi, hsi, _, _, _⟩ := hV.lens_inq
      obtain ⟨ug, uoff, uc, he, rfl⟩ := hsi.addr (by omega)
      cases he
      have kc := (hsi.cells rfl (q * 4 + 1) (u := .bool σ.inq[q].fin) (by rw [ents_get σ.inq q hql 1 (by omega)]; rfl)).1
      simp only [← Nat.add_assoc] at kc
      clear hsi
      by_cases hjp : j < p
      · rw [HP.out j q hql hjp (by omega)] at kc
        clear HP HQ
        go_wp2
        go_roundg (gk - 1)
        case measure => omega
        case rel => exact ⟨q, j + 1, by omega, by omega, by go_num, hV⟩
      · obtain rfl : j = p := by omega
        rw [HQ.out q hql (by omega)] at kc
        clear HP HQ
        go_wp2_with (first | (go_at_call 89; refine (local_any b σ.l _ _ k2 l0 l1 (by omega) (by omega)).mono ?_; rintro e w' ⟨rfl, rfl⟩) | (go_at_call 148; refine (is_any S0 w0 x b σ _ hR c _ (by omega) (by omega)).mono ?_; rintro e w' ⟨rfl, rfl⟩))
        refine (kills_any S0 w0 x b σ _ K hR HI.out hK j (by omega) c _ (by omega)).mono ?_
        rintro e W ⟨rfl, hW⟩
        go_wp2
        go_ret
        exact ⟨rfl, by rw [HE.out]; exact hW⟩
    · obtain rfl : f = 0 := by omega
      obtain rfl : j = p := by
        rcases Nat.lt_or_ge j p with h9 | h9
        · omega
        · omega
      clear HP HQ
      go_wp2_with (first | (go_at_call 89; refine (local_any b σ.l _ _ k2 l0 l1 (by omega) (by omega)).mono ?_; rintro e w' ⟨rfl, rfl⟩) | (go_at_call 148; refine (is_any S0 w0 x b σ _ hR c _ (by omega) (by omega)).mono ?_; rintro e w' ⟨rfl, rfl⟩))
      refine (kills_any S0 w0 x b σ _ K hR HI.out hK j (by omega) c _ (by omega)).mono ?_
      rintro e W ⟨rfl, hW⟩
      go_wp2
      go_ret
      exact ⟨rfl, by rw [HE.out]; exact hW⟩
set_option maxHeartbeats 4000000 in
set_option maxRecDepth 100000 in
theorem edits_werase (h : AtR S0 w0 x b σ w) (ok : Inv K σ) (hK : K ≤ 1099511627776) (c : UInt8) (h0 : σ.isC c 3 = false) (h1 : σ.isC c 5 = false) (h2 : bit σ.l 512 = true) (h3 : σ.isC c 4 = true) :
    Calls Tryz.prog 129 #[.pointer (some ⟨b, 0, none⟩), .int .u8 c.toNat] w fun r w' => r = .returned (.bool true) ∧ AtR S0 w0 x b (σ.rubs (wordR (σ.inq.reverse.take (pend σ.inq))) c) w' := by
  have hR := h
  obtain ⟨vi, vo, vu, vn, vd, hV⟩ := h
  have l0 := ok.ok.l0; have l1 := ok.ok.l1; have hil := ok.inq
  have k2 := hV.cl
  obtain ⟨oi, hsi, _, _, _⟩ := hV.lens_inq
  obtain ⟨ai, ci, rfl, hl1, hl2⟩ := hsi.shape
  have k17 := hV.c17
  have HI : Hid (Inv K σ) := ok
  have hpl := pend_le σ.inq
  have HP : Hid (∀ (j q : Nat) (h : q < σ.inq.length), j < pend σ.inq → q + 1 + j = σ.inq.length → σ.inq[q].fin = false) := fun j q _ hj hq => pend_in σ.inq j q hj hq
  have HQ : Hid (∀ (q : Nat) (h : q < σ.inq.length), q + 1 + pend σ.inq = σ.inq.length → σ.inq[q].fin = true) := fun q _ hq => pend_end σ.inq q hq
  obtain ⟨p, hp⟩ : ∃ p, pend σ.inq = p := ⟨_, rfl⟩
  have HE : Hid (pend σ.inq = p) := hp
  rw [hp] at hpl HP HQ
  clear ok hsi hp
  go_enter Tryz.func129, Tryz.ntmps129
  go_wp2_with (go_at_call 89; refine (local_any b σ.l _ _ k2 l0 l1 (by omega) (by omega)).mono ?_; rintro e w' ⟨rfl, rfl⟩)
  go_loopg [7] p (fun k fv wr => ∃ (f j : Nat), f + j = σ.inq.length ∧ j + k = p ∧ fv = .int .i64 f ∧ AtV S0 w0 x b σ (.slice ai σ.inq.length ci) vo vu vn vd wr)
  case atStart => exact ⟨σ.inq.length, 0, by omega, by omega, rfl, hV⟩
  case round =>
    clear hV k17 k2 hR
    obtain ⟨f, j, hf, hj, rfl, hV⟩ := hrel
    have hR := hV.r
    have k17 := hV.c17
    have k2 := hV.cl
    by_cases hz : 0 < f
    · obtain ⟨q, rfl⟩ : ∃ q, f = q + 1 := ⟨f - 1, by omega⟩
      have hql : q < σ.inq.length := by omega
      obtain ⟨oi, hsi, _, _, _⟩ := hV.lens_inq
      obtain ⟨ug, uoff, uc, he, rfl⟩ := hsi.addr (by omega)
      cases he
      have kc := (hsi.cells rfl (q * 4 + 1) (u := .bool σ.inq[q].fin) (by rw [ents_get σ.inq q hql 1 (by omega)]; rfl)).1
      simp only [← Nat.add_assoc] at kc
      clear hsi
      by_cases hjp : j < p
      · rw [HP.out j q hql hjp (by omega)] at kc
        clear HP HQ
        go_wp2
        go_roundg (gk - 1)
        case measure => omega
        case rel => exact ⟨q, j + 1, by omega, by omega, by go_num, hV⟩
      · obtain rfl : j = p := by omega
        rw [HQ.out q hql (by omega)] at kc
        clear HP HQ
        go_wp2_with (first | (go_at_call 89; refine (local_any b σ.l _ _ k2 l0 l1 (by omega) (by omega)).mono ?_; rintro e w' ⟨rfl, rfl⟩) | (go_at_call 148; refine (is_any S0 w0 x b σ _ hR c _ (by omega) (by omega)).mono ?_; rintro e w' ⟨rfl, rfl⟩))
        refine (word_any S0 w0 x b σ _ hR j (q + 1) (by omega) (by omega) _ (by go_num)).mono ?_
        rintro e W ⟨rfl, hW⟩
        go_wp2_with fail
        refine (rubs_any S0 w0 x b σ _ K hW HI.out hK (wordR (σ.inq.reverse.take j)) (by have := wordR_le (σ.inq.reverse.take j); simp at this; omega) c _ rfl).mono ?_
        rintro e W2 ⟨rfl, hW2⟩
        go_wp2
        go_ret
        exact ⟨rfl, by rw [HE.out]; exact hW2⟩
    · obtain rfl : f = 0 := by omega
      obtain rfl : j = p := by
        rcases Nat.lt_or_ge j p with h9 | h9
        · omega
        · omega
      clear HP HQ
      go_wp2_with (first | (go_at_call 89; refine (local_any b σ.l _ _ k2 l0 l1 (by omega) (by omega)).mono ?_; rintro e w' ⟨rfl, rfl⟩) | (go_at_call 148; refine (is_any S0 w0 x b σ _ hR c _ (by omega) (by omega)).mono ?_; rintro e w' ⟨rfl, rfl⟩))
      refine (word_any S0 w0 x b σ _ hR j 0 (by omega) (by omega) _ (by go_num)).mono ?_
      rintro e W ⟨rfl, hW⟩
      go_wp2_with fail
      refine (rubs_any S0 w0 x b σ _ K hW HI.out hK (wordR (σ.inq.reverse.take j)) (by have := wordR_le (σ.inq.reverse.take j); simp at this; omega) c _ rfl).mono ?_
      rintro e W2 ⟨rfl, hW2⟩
      go_wp2
      go_ret
      exact ⟨rfl, by rw [HE.out]; exact hW2⟩
end
end Go.Proofs.YtfnglkhhmplejaaGreat
