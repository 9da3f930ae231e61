/- Walks: the reference's terminal: can a read end? -/
import Derived.Test.YtfnglkhhmplejaaGreatR15
namespace Go.Proofs.YtfnglkhhmplejaaGreat
open Go Go.RowKit Go.Clk

section
variable (S0 : List Nat) (w0 : World) (x : List Nat) (b : Nat) (σ : St) (w : World) (K : Int)

set_option maxHeartbeats 1000000 in
set_option maxRecDepth 100000 in
theorem ready_lines (h : AtR S0 w0 x b σ w) (ok : Inv K σ) (h2 : bit σ.l 2 = true) :
    Calls Tryz.prog 146 #[.pointer (some ⟨b, 0, none⟩)] w fun r w' => r = .returned (.bool (σ.inq.any (·.fin))) ∧ AtR S0 w0 x b σ w' := by
  obtain ⟨vi, vo, vu, vn, vd, hV⟩ := h
  have l0 := ok.ok.l0; have l1 := ok.ok.l1; have hil := ok.inq
  have k2 := hV.cl
  clear ok
  go_enter Tryz.func146, Tryz.ntmps146
  go_wp2_with (go_at_call 89; refine (local_any b σ.l _ _ k2 l0 l1 (by omega) (by omega)).mono ?_; rintro e w' ⟨rfl, rfl⟩)
  go_loopg [4] σ.inq.length (fun k i wr => ∃ j : Nat, j + k = σ.inq.length ∧ i = .int .i64 j ∧ AtV S0 w0 x b σ vi vo vu vn vd wr ∧ Hid (σ.inq.any (·.fin) = (σ.inq.drop j).any (·.fin)))
  case atStart => exact ⟨0, by omega, rfl, hV, rfl⟩
  case round =>
    clear hV k2
    obtain ⟨j, hj, rfl, hV, HA⟩ := hrel
    obtain ⟨oi, hsi, _, _, _⟩ := hV.lens_inq
    obtain ⟨ai, ci, rfl, hl1, hl2⟩ := hsi.shape
    have k17 := hV.c17
    have hR := hV.r
    by_cases hlt : j < σ.inq.length
    · obtain ⟨ug, uoff, uc, he, rfl⟩ := hsi.addr (by omega)
      cases he
      have kc := (hsi.cells rfl (j * 4 + 1) (u := .bool σ.inq[j].fin) (by rw [ents_get σ.inq j hlt 1 (by omega)]; rfl)).1
      simp only [← Nat.add_assoc] at kc
      have HD : Hid (σ.inq.drop j = σ.inq[j] :: σ.inq.drop (j + 1)) := List.drop_eq_getElem_cons hlt
      clear hsi
      cases hf : σ.inq[j].fin with
      | true =>
        have HT : Hid (σ.inq.any (·.fin) = true) := by show σ.inq.any (·.fin) = true; rw [HA.out, HD.out, List.any_cons, hf]; rfl
        rw [hf] at kc
        clear HA HD hV
        go_wp2
        go_ret
        exact ⟨ret_bool HT.out.symm, hR⟩
      | false =>
        have HT : Hid (σ.inq.any (·.fin) = (σ.inq.drop (j + 1)).any (·.fin)) := by show σ.inq.any (·.fin) = _; rw [HA.out, HD.out, List.any_cons, hf]; rfl
        rw [hf] at kc
        clear HA HD
        go_wp2
        go_roundg (gk - 1)
        case measure => omega
        case rel => exact ⟨j + 1, by omega, by go_num, hV, HT⟩
    · have HT : Hid (σ.inq.any (·.fin) = false) := by show σ.inq.any (·.fin) = false; rw [HA.out, List.drop_eq_nil_of_le (by omega)]; rfl
      clear HA hV hsi
      go_wp2
      go_ret
      exact ⟨ret_bool HT.out.symm, hR⟩

set_option maxHeartbeats 1000000 in
set_option maxRecDepth 100000 in
theorem ready_raw (h : AtR S0 w0 x b σ w) (ok : Inv K σ) (h2 : bit σ.l 2 = false) :
    Calls Tryz.prog 146 #[.pointer (some ⟨b, 0, none⟩)] w fun r w' => r = .returned (.bool σ.ready) ∧ AtR S0 w0 x b σ w' := by
  obtain ⟨vi, vo, vu, vn, vd, hV⟩ := h
  have l0 := ok.ok.l0; have l1 := ok.ok.l1; have hil := ok.inq
  have c12 := ok.s.ch 12
  have c13 := ok.s.ch 13
  have n0 := ok.n0; have n1 := ok.n1; have q0 := ok.w0; have q1 := ok.w1
  have k2 := hV.cl
  obtain ⟨oi, hsi, _, _, _⟩ := hV.lens_inq
  obtain ⟨ai, ci, rfl, hl1, hl2⟩ := hsi.shape
  have k17 := hV.c17
  have k27 := hV.c27
  have k29 := hV.c29
  have k12 : w.cell? ⟨b, 15, none⟩ = some (.int .i64 (σ.ch 12)) := hV.head 15 (by omega)
  have k13 : w.cell? ⟨b, 16, none⟩ = some (.int .i64 (σ.ch 13)) := hV.head 16 (by omega)
  have a0 : 0 ≤ σ.ch 12 := c12.1
  have a1 : σ.ch 12 < 256 := c12.2
  have t0 : 0 ≤ σ.ch 13 := c13.1
  have t1 : σ.ch 13 < 256 := c13.2
  have hR := hV.r
  have HD : Hid (σ.ready = if bit σ.l 2 then σ.inq.any (·.fin) else if σ.ch 12 = 0 then (if σ.ch 13 = 0 then true else decide (0 < σ.inq.length) || decide (σ.ch 13 ≤ σ.wait)) else decide (min (σ.ch 12) σ.n ≤ σ.inq.length) || (decide (0 < σ.ch 13) && (decide (0 < σ.inq.length) && decide (σ.ch 13 ≤ σ.wait)))) := rfl
  clear ok c12 c13 hsi hV
  generalize σ.inq.length = len at *
  generalize σ.ch 12 = a at *
  generalize σ.ch 13 = t at *
  by_cases ha : a = 0
  · subst ha
    by_cases ht : t = 0
    · subst ht
      have HT : Hid (σ.ready = true) := by show σ.ready = true; rw [HD.out, h2]; rfl
      clear HD
      go_enter Tryz.func146, Tryz.ntmps146
      go_wp2_with (go_at_call 89; refine (local_any b σ.l _ _ k2 l0 l1 (by omega) (by omega)).mono ?_; rintro e w' ⟨rfl, rfl⟩)
      go_ret
      exact ⟨ret_bool HT.out.symm, hR⟩
    · have HT : Hid (σ.ready = (decide (0 < len) || decide (t ≤ σ.wait))) := by show σ.ready = _; rw [HD.out, h2]; simp [ht]
      have htb : (t == 0) = false := beq_eq_false_iff_ne.2 ht
      clear HD
      go_enter Tryz.func146, Tryz.ntmps146
      go_wp2_with (go_at_call 89; refine (local_any b σ.l _ _ k2 l0 l1 (by omega) (by omega)).mono ?_; rintro e w' ⟨rfl, rfl⟩)
      all_goals go_ret
      all_goals exact ⟨ret_bool (by rw [HT.out, Bool.eq_iff_iff]; simp only [Bool.or_eq_true, decide_eq_true_eq, true_iff]; omega), hR⟩
  · have HT : Hid (σ.ready = (decide (min a σ.n ≤ len) || (decide (0 < t) && (decide (0 < len) && decide (t ≤ σ.wait))))) := by show σ.ready = _; rw [HD.out, h2]; simp [ha]
    have hab : (a == 0) = false := beq_eq_false_iff_ne.2 ha
    clear HD
    go_enter Tryz.func146, Tryz.ntmps146
    go_wp2_with (go_at_call 89; refine (local_any b σ.l _ _ k2 l0 l1 (by omega) (by omega)).mono ?_; rintro e w' ⟨rfl, rfl⟩)
    all_goals go_ret
    all_goals exact ⟨ret_bool (by rw [HT.out, Bool.eq_iff_iff]; simp only [Bool.or_eq_true, Bool.and_eq_true, decide_eq_true_eq, true_iff]; omega), hR⟩
theorem ready_any (h : AtR S0 w0 x b σ w) (ok : Inv K σ) :
    Calls Tryz.prog 146 #[.pointer (some ⟨b, 0, none⟩)] w fun r w' => r = .returned (.bool σ.ready) ∧ AtR S0 w0 x b σ w' := by
  cases h2 : bit σ.l 2 with
  | true =>
    have e1 : σ.ready = σ.inq.any (·.fin) := by unfold St.ready St.L; rw [if_pos h2]
    rw [e1]
    exact ready_lines S0 w0 x b σ w K h ok h2
  | false => exact ready_raw S0 w0 x b σ w K h ok h2
end
end Go.Proofs.YtfnglkhhmplejaaGreat
