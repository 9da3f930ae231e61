/- Walks: the reference's terminal: what a byte means to a line: once more. (Written by mkRef17.py.) -/
import Derived.Test.YtfnglkhhmplejaaGreatR15
namespace Go.Proofs.YtfnglkhhmplejaaGreat
open Go Go.RowKit Go.Clk

section
variable (S0 : List Nat) (w0 : World) (x : List Nat) (b : Nat) (σ : St) (w : World) (K : Int)
set_option maxHeartbeats 4000000 in
set_option maxRecDepth 100000 in
theorem edits_reprint (h : AtR S0 w0 x b σ w) (ok : Inv K σ) (hK : K ≤ 1099511627776) (c : UInt8) (h0 : σ.isC c 3 = false) (h1 : σ.isC c 5 = false) (h2 : bit σ.l 512 = true) (h3 : σ.isC c 4 = false) (h4 : σ.isC c 10 = false) (h5 : bit σ.l 4 = true) (h6 : σ.isC c 11 = true) :
    Calls Tryz.prog 129 #[.pointer (some ⟨b, 0, none⟩), .int .u8 c.toNat] w fun r w' => r = .returned (.bool true) ∧ AtR S0 w0 x b (σ.reprint c) w' := by
  have hR := h
  obtain ⟨vi, vo, vu, vn, vd, hV⟩ := h
  have l0 := ok.ok.l0; have l1 := ok.ok.l1; have hil := ok.inq
  have k2 := hV.cl
  obtain ⟨oi, hsi, _, _, _⟩ := hV.lens_inq
  obtain ⟨ai, ci, rfl, hl1, hl2⟩ := hsi.shape
  have k17 := hV.c17
  have HI : Hid (Inv K σ) := ok
  have hpl := pend_le σ.inq
  have HP : Hid (∀ (j q : Nat) (h : q < σ.inq.length), j < pend σ.inq → q + 1 + j = σ.inq.length → σ.inq[q].fin = false) := fun j q _ hj hq => pend_in σ.inq j q hj hq
  have HQ : Hid (∀ (q : Nat) (h : q < σ.inq.length), q + 1 + pend σ.inq = σ.inq.length → σ.inq[q].fin = true) := fun q _ hq => pend_end σ.inq q hq
  obtain ⟨p, hp⟩ : ∃ p, pend σ.inq = p := ⟨_, rfl⟩
  have HE : Hid (pend σ.inq = p) := hp
  rw [hp] at hpl HP HQ
  clear ok hsi hp
  go_enter Tryz.func129, Tryz.ntmps129
  go_wp2_with (go_at_call 89; refine (local_any b σ.l _ _ k2 l0 l1 (by omega) (by omega)).mono ?_; rintro e w' ⟨rfl, rfl⟩)
  go_loopg [7] p (fun k fv wr => ∃ (f j : Nat), f + j = σ.inq.length ∧ j + k = p ∧ fv = .int .i64 f ∧ AtV S0 w0 x b σ (.slice ai σ.inq.length ci) vo vu vn vd wr)
  case atStart => exact ⟨σ.inq.length, 0, by omega, by omega, rfl, hV⟩
  case round =>
    clear hV k17 k2 hR
    obtain ⟨f, j, hf, hj, rfl, hV⟩ := hrel
    have hR := hV.r
    have k17 := hV.c17
    have k2 := hV.cl
    by_cases hz : 0 < f
    · obtain ⟨q, rfl⟩ : ∃ q, f = q + 1 := ⟨f - 1, by omega⟩
      have hql : q < σ.inq.length := by omega
      obtain ⟨oi, hsi, _, _, _⟩ := hV.lens_inq
      obtain ⟨ug, uoff, uc, he, rfl⟩ := hsi.addr (by omega)
      cases he
      have kc := (hsi.cells rfl (q * 4 + 1) (u := .bool σ.inq[q].fin) (by rw [ents_get σ.inq q hql 1 (by omega)]; rfl)).1
      simp only [← Nat.add_assoc] at kc
      clear hsi
      by_cases hjp : j < p
      · rw [HP.out j q hql hjp (by omega)] at kc
        clear HP HQ
        go_wp2
        go_roundg (gk - 1)
        case measure => omega
        case rel => exact ⟨q, j + 1, by omega, by omega, by go_num, hV⟩
      · obtain rfl : j = p := by omega
        rw [HQ.out q hql (by omega)] at kc
        clear HP HQ
        go_wp2_with (first | (go_at_call 89; refine (local_any b σ.l _ _ k2 l0 l1 (by omega) (by omega)).mono ?_; rintro e w' ⟨rfl, rfl⟩) | (go_at_call 148; refine (is_any S0 w0 x b σ _ hR c _ (by omega) (by omega)).mono ?_; rintro e w' ⟨rfl, rfl⟩))
        refine (Echo_any S0 w0 x b σ _ K hR HI.out hK c _ rfl).mono ?_
        rintro e W ⟨rfl, hW⟩
        go_wp2_with fail
        refine (Put_new S0 w0 x b _ _ K hW (HI.out.echo1 c) hK [10] (by simp) _ rfl _ rfl).mono ?_
        rintro e W2 ⟨rfl, hW2⟩
        have HS : Hid (Inv K ((σ.echo1 c).put [10]).1 ∧ ((σ.echo1 c).put [10]).1.inq.length = σ.inq.length ∧ σ.reprint c = St.reps j (q + 1) ((σ.echo1 c).put [10]).1) := by
          refine ⟨(HI.out.echo1 c).put [10], ?_, ?_⟩
          · obtain ⟨o1, k1, e1⟩ := put_frame (σ.echo1 c) [10]
            obtain ⟨o2, k2, e2⟩ := echo1_frame σ c
            rw [e1, e2]
          · unfold St.reprint; rw [HE.out]; congr 1; omega
        clear hV k17 k2 hR hW
        go_wp2_with fail
        go_loopg [17] j (fun k iv wz => ∃ (t : Nat) (τ : St), t + k = σ.inq.length ∧ iv = .int .i64 t ∧ AtR S0 w0 x b τ wz ∧ τ.inq.length = σ.inq.length ∧ Hid (Inv K τ ∧ σ.reprint c = St.reps k t τ))
        case atStart => exact ⟨(q + 1), _, by omega, rfl, hW2, HS.out.2.1, HS.out.1, HS.out.2.2⟩
        case round =>
          clear hW2 HS HE
          obtain ⟨t, τ, hij, rfl, ⟨yi, yo, yu, yn, yd, hT⟩, hlen, HS⟩ := hrel
          obtain ⟨oz, hsz, _, _⟩ := hT.turn_inq
          obtain ⟨az, cz, rfl, hm1, hm2⟩ := hsz.shape
          have z17 := hT.c17
          by_cases hlt : t < σ.inq.length
          · have htl : t < τ.inq.length := by omega
            obtain ⟨zg, zoff, zc, he, rfl⟩ := hsz.addr (by omega)
            cases he
            obtain ⟨en, hen⟩ : ∃ en, τ.inq[t] = en := ⟨_, rfl⟩
            have zb := (hsz.cells rfl (t * 4 + 0) (u := .int .u8 (en.b.toNat : Int)) (by rw [ents_get τ.inq t htl 0 (by omega), hen]; rfl)).1
            simp only [Nat.add_zero] at zb
            have hTr := hT.r
            have hlt1 : (t : Int) < (τ.inq.length : Int) := by omega
            clear hsz hT
            go_wp2_with fail
            refine (Echo_any S0 w0 x b τ _ K hTr HS.out.1 hK en.b _ rfl).mono ?_
            rintro e W3 ⟨rfl, ⟨xi, xo, xu, xn, xd, hU⟩⟩
            obtain ⟨o9, c9, hfr⟩ := echo1_frame τ en.b
            rw [hfr] at hU
            obtain ⟨oy, hsy, _, hturn⟩ := hU.turn_inq
            obtain ⟨ay, cy, rfl, hy1, hy2⟩ := hsy.shape
            dsimp only at hsy hturn hy1 hy2
            obtain ⟨yg, yoff, yc, he, rfl⟩ := hsy.addr (by omega)
            cases he
            have y17 := hU.c17
            dsimp only at y17
            have y3 := hsy.cells rfl (t * 4 + 3) (u := .int .i64 en.cells) (by rw [ents_get τ.inq t htl 3 (by omega), hen]; rfl)
            have y3c := y3.1
            have y3f := y3.2
            simp only [← Nat.add_assoc] at y3c y3f
            have hP := hsy.poke (t * 4 + 3) (.int .i64 (τ.cellsOf en.b))
            rw [← ents_set τ.inq t htl] at hP
            have hAt := hturn _ (τ.inq.set t { τ.inq[t] with cells := τ.cellsOf en.b }) (grownBy_set W3 yg (yoff + (t * 4 + 3)) (.int .i64 (τ.cellsOf en.b))) (by rw [List.length_set]; exact hP)
            have HN : Hid (Inv K (τ.rep t) ∧ σ.reprint c = St.reps (gk - 1) (t + 1) (τ.rep t) ∧ (τ.rep t).inq.length = σ.inq.length) := by
              refine ⟨HS.out.1.rep t, ?_, ?_⟩
              · rw [HS.out.2]
                obtain ⟨g0, rfl⟩ : ∃ g0, gk = g0 + 1 := ⟨gk - 1, by omega⟩
                rfl
              · unfold St.rep; rw [List.getElem?_eq_getElem htl]; simp [hlen]
            have hrep : τ.rep t = { ({ τ with out := o9, col := c9 } : St) with inq := τ.inq.set t { τ.inq[t] with cells := τ.cellsOf en.b } } := by
              unfold St.rep; rw [List.getElem?_eq_getElem htl]; dsimp only; rw [hen, hfr]
            have hAr := hAt.r
            rw [← hrep] at hAr
            simp only [← Nat.add_assoc] at hAr
            clear hAt hP hturn hsy y3 hrep HS hTr zb z17 hfr hU
            have hlb : yg ≠ b := by rename_i h8 h9; intro e9; subst e9; exact h9 rfl
            go_wp2
            go_roundg (gk - 1)
            case measure => omega
            case rel => exact ⟨t + 1, _, by omega, by go_num, hAr, HN.out.2.2, HN.out.1, HN.out.2.1⟩
          · obtain rfl : gk = 0 := by omega
            have HT : Hid (σ.reprint c = τ) := HS.out.2
            have hTr := hT.r
            have hlt1 : ¬ (t : Int) < (τ.inq.length : Int) := by omega
            clear hsz hT HS
            go_wp2
            go_ret
            exact ⟨rfl, by rw [HT.out]; exact hTr⟩
    · obtain rfl : f = 0 := by omega
      obtain rfl : j = p := by
        rcases Nat.lt_or_ge j p with h9 | h9
        · omega
        · omega
      clear HP HQ
      go_wp2_with (first | (go_at_call 89; refine (local_any b σ.l _ _ k2 l0 l1 (by omega) (by omega)).mono ?_; rintro e w' ⟨rfl, rfl⟩) | (go_at_call 148; refine (is_any S0 w0 x b σ _ hR c _ (by omega) (by omega)).mono ?_; rintro e w' ⟨rfl, rfl⟩))
      refine (Echo_any S0 w0 x b σ _ K hR HI.out hK c _ rfl).mono ?_
      rintro e W ⟨rfl, hW⟩
      go_wp2_with fail
      refine (Put_new S0 w0 x b _ _ K hW (HI.out.echo1 c) hK [10] (by simp) _ rfl _ rfl).mono ?_
      rintro e W2 ⟨rfl, hW2⟩
      have HS : Hid (Inv K ((σ.echo1 c).put [10]).1 ∧ ((σ.echo1 c).put [10]).1.inq.length = σ.inq.length ∧ σ.reprint c = St.reps j 0 ((σ.echo1 c).put [10]).1) := by
        refine ⟨(HI.out.echo1 c).put [10], ?_, ?_⟩
        · obtain ⟨o1, k1, e1⟩ := put_frame (σ.echo1 c) [10]
          obtain ⟨o2, k2, e2⟩ := echo1_frame σ c
          rw [e1, e2]
        · unfold St.reprint; rw [HE.out]; congr 1; omega
      clear hV k17 k2 hR hW
      go_wp2_with fail
      go_loopg [17] j (fun k iv wz => ∃ (t : Nat) (τ : St), t + k = σ.inq.length ∧ iv = .int .i64 t ∧ AtR S0 w0 x b τ wz ∧ τ.inq.length = σ.inq.length ∧ Hid (Inv K τ ∧ σ.reprint c = St.reps k t τ))
      case atStart => exact ⟨0, _, by omega, rfl, hW2, HS.out.2.1, HS.out.1, HS.out.2.2⟩
      case round =>
        clear hW2 HS HE
        obtain ⟨t, τ, hij, rfl, ⟨yi, yo, yu, yn, yd, hT⟩, hlen, HS⟩ := hrel
        obtain ⟨oz, hsz, _, _⟩ := hT.turn_inq
        obtain ⟨az, cz, rfl, hm1, hm2⟩ := hsz.shape
        have z17 := hT.c17
        by_cases hlt : t < σ.inq.length
        · have htl : t < τ.inq.length := by omega
          obtain ⟨zg, zoff, zc, he, rfl⟩ := hsz.addr (by omega)
          cases he
          obtain ⟨en, hen⟩ : ∃ en, τ.inq[t] = en := ⟨_, rfl⟩
          have zb := (hsz.cells rfl (t * 4 + 0) (u := .int .u8 (en.b.toNat : Int)) (by rw [ents_get τ.inq t htl 0 (by omega), hen]; rfl)).1
          simp only [Nat.add_zero] at zb
          have hTr := hT.r
          have hlt1 : (t : Int) < (τ.inq.length : Int) := by omega
          clear hsz hT
          go_wp2_with fail
          refine (Echo_any S0 w0 x b τ _ K hTr HS.out.1 hK en.b _ rfl).mono ?_
          rintro e W3 ⟨rfl, ⟨xi, xo, xu, xn, xd, hU⟩⟩
          obtain ⟨o9, c9, hfr⟩ := echo1_frame τ en.b
          rw [hfr] at hU
          obtain ⟨oy, hsy, _, hturn⟩ := hU.turn_inq
          obtain ⟨ay, cy, rfl, hy1, hy2⟩ := hsy.shape
          dsimp only at hsy hturn hy1 hy2
          obtain ⟨yg, yoff, yc, he, rfl⟩ := hsy.addr (by omega)
          cases he
          have y17 := hU.c17
          dsimp only at y17
          have y3 := hsy.cells rfl (t * 4 + 3) (u := .int .i64 en.cells) (by rw [ents_get τ.inq t htl 3 (by omega), hen]; rfl)
          have y3c := y3.1
          have y3f := y3.2
          simp only [← Nat.add_assoc] at y3c y3f
          have hP := hsy.poke (t * 4 + 3) (.int .i64 (τ.cellsOf en.b))
          rw [← ents_set τ.inq t htl] at hP
          have hAt := hturn _ (τ.inq.set t { τ.inq[t] with cells := τ.cellsOf en.b }) (grownBy_set W3 yg (yoff + (t * 4 + 3)) (.int .i64 (τ.cellsOf en.b))) (by rw [List.length_set]; exact hP)
          have HN : Hid (Inv K (τ.rep t) ∧ σ.reprint c = St.reps (gk - 1) (t + 1) (τ.rep t) ∧ (τ.rep t).inq.length = σ.inq.length) := by
            refine ⟨HS.out.1.rep t, ?_, ?_⟩
            · rw [HS.out.2]
              obtain ⟨g0, rfl⟩ : ∃ g0, gk = g0 + 1 := ⟨gk - 1, by omega⟩
              rfl
            · unfold St.rep; rw [List.getElem?_eq_getElem htl]; simp [hlen]
          have hrep : τ.rep t = { ({ τ with out := o9, col := c9 } : St) with inq := τ.inq.set t { τ.inq[t] with cells := τ.cellsOf en.b } } := by
            unfold St.rep; rw [List.getElem?_eq_getElem htl]; dsimp only; rw [hen, hfr]
          have hAr := hAt.r
          rw [← hrep] at hAr
          simp only [← Nat.add_assoc] at hAr
          clear hAt hP hturn hsy y3 hrep HS hTr zb z17 hfr hU
          have hlb : yg ≠ b := by rename_i h8 h9; intro e9; subst e9; exact h9 rfl
          go_wp2
          go_roundg (gk - 1)
          case measure => omega
          case rel => exact ⟨t + 1, _, by omega, by go_num, hAr, HN.out.2.2, HN.out.1, HN.out.2.1⟩
        · obtain rfl : gk = 0 := by omega
          have HT : Hid (σ.reprint c = τ) := HS.out.2
          have hTr := hT.r
          have hlt1 : ¬ (t : Int) < (τ.inq.length : Int) := by omega
          clear hsz hT HS
          go_wp2
          go_ret
          exact ⟨rfl, by rw [HT.out]; exact hTr⟩
end
end Go.Proofs.YtfnglkhhmplejaaGreat
