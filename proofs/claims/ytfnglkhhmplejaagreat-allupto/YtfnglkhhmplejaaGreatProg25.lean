/- Walks: the program: can a read end? -/
import Derived.Test.YtfnglkhhmplejaaGreatProg24
import Derived.BigQuiet
import Derived.Deep.QuietTactic
import Derived.Deep.RegionWith
namespace Go.Proofs.YtfnglkhhmplejaaGreat
open Go Go.RowKit Go.Clk

section
variable (S0 : List Nat) (w0 : World) (x : List Nat) (b : Nat) (σ : St) (w : World) (K : Int)

theorem PV.drewN {S0 : List Nat} {w0 w : World} {x : List Nat} {b : Nat} {σ : St} {vi vu vo vs : Value} (h : PV S0 w0 x b σ vi vu vo vs w) (n : Nat) : PV S0 w0 x b σ vi vu vo vs (w.drewN n) := by
  exact ⟨h.1, h.2.same ⟨h.2.kp.os, h.2.kp.tape, h.2.kp.output, h.2.kp.size, h.2.kp.block⟩ (Nat.le_refl _) fun _ _ _ => rfl⟩

set_option maxHeartbeats 2000000 in
set_option maxRecDepth 100000 in
theorem canEnd_any (h : AtP S0 w0 x b σ w) (ok : Inv K σ) (_hK : K ≤ 1099511627776) :
    Calls Tryz.prog 82 #[.pointer (some ⟨b, 0, none⟩)] w fun e w' => e = .returned (.bool σ.pready) ∧ AtP S0 w0 x b σ w' := by
  obtain ⟨vi, vu, vo, vs, hV⟩ := h
  obtain ⟨oi, hsi, _, _, _⟩ := hV.lens_in
  obtain ⟨ai, ci, rfl, hl1, hl2⟩ := hsi.shape
  have kq := hV.c_in
  have kl := hV.cl
  have l0 := ok.ok.l0; have l1 := ok.ok.l1
  have hil := ok.inq
  have HP : Hid (σ.pready = if σ.L 2 then σ.inq.any (·.fin) else if σ.ch 12 = 0 then decide (0 < σ.inq.length) || decide (σ.ch 13 ≤ σ.wait) else if σ.ch 13 = 0 then decide (min (σ.ch 12) σ.n ≤ σ.inq.length) else decide (min (σ.ch 12) σ.n ≤ σ.inq.length) || (decide (0 < σ.inq.length) && decide (σ.ch 13 ≤ σ.wait))) := rfl
  have HV : Hid (PV S0 w0 x b σ (.slice ai σ.inq.length ci) vu vo vs w) := hV
  have HRL : Hid (∀ q, σ.L 2 = q → Calls Tryz.prog 83 #[.pointer (some ⟨b, 0, none⟩)] w fun e w' => e = .returned (.bool q) ∧ w = w') := fun q e => by subst e; exact readsLines_any b σ w kl l0 l1
  cases hL : σ.L 2 with
  | true =>
    have e1 : Hid (σ.pready = decide (0 < fline σ.inq)) := by show σ.pready = _; rw [HP.out, if_pos hL, fline_any]
    have HS : Hid (Sl w 112 4 (.slice ai σ.inq.length ci) σ.inq.length (pents σ.inq) oi) := hsi
    have hrl := HRL.out true hL
    clear HP HRL hL hV hsi l0 l1
    go_enter Tryz.func82, Tryz.ntmps82
    go_wp2_with (first | (go_at_call 83; refine hrl.mono ?_; rintro e w' ⟨rfl, hw⟩; subst hw) | (go_at_call 116; refine (FirstLine_any w _ σ.inq oi HS.out hil).mono ?_; rintro e W ⟨rfl, hgW⟩))
    go_ret
    exact ⟨ret_bool (by first | exact e1.out.symm | (rw [e1.out]; simp)), (HV.out.same hgW).r⟩
  | false =>
    have hrl := HRL.out false hL
    have kn := hV.c_most
    have kw := hV.c_wait
    have c12 : w.cell? ⟨b, 15, none⟩ = some (.int .i64 (σ.ch 12)) := hV.head 15 (by omega)
    have c13 : w.cell? ⟨b, 16, none⟩ = some (.int .i64 (σ.ch 13)) := hV.head 16 (by omega)
    have hlt := hV.lt
    rw [if_neg (by rw [hL]; decide)] at HP
    clear HRL hL hV hsi l0 l1 kl
    obtain ⟨m, hm⟩ : ∃ m, σ.ch 12 = m := ⟨_, rfl⟩
    obtain ⟨t, ht⟩ : ∃ t, σ.ch 13 = t := ⟨_, rfl⟩
    have m0 : 0 ≤ m ∧ m < 256 := by rw [← hm]; exact ok.s.ch 12
    have t0 : 0 ≤ t ∧ t < 256 := by rw [← ht]; exact ok.s.ch 13
    have n0 := ok.n0; have n1 := ok.n1; have w1 := ok.w1; have w2 := ok.w0
    rw [hm] at HP c12
    rw [ht] at HP c13
    clear hm ht ok
    have HVr : Hid (∀ k, AtP S0 w0 x b σ (w.drewN k)) := fun k => (HV.out.drewN k).r
    clear HV
    obtain ⟨N, hN⟩ : ∃ N, σ.inq.length = N := ⟨_, rfl⟩
    obtain ⟨q, hq⟩ : ∃ q, σ.wait = q := ⟨_, rfl⟩
    obtain ⟨c, hc⟩ : ∃ c, σ.n = c := ⟨_, rfl⟩
    rw [hN] at HP kq hil
    rw [hq] at HP kw w1 w2
    rw [hc] at HP kn n0 n1
    clear hN hq hc hl1
    by_cases hA : 0 < N
    · have hA' : 0 < (N : Int) := by omega
      have dA : decide (0 < N) = true := decide_eq_true hA
      rw [dA] at HP
      clear dA hA
      by_cases hm0 : m = 0
      · subst hm0
        have e1 : Hid (σ.pready = true) := by show σ.pready = _; rw [HP.out, if_pos rfl]; rfl
        clear HP
        go_enter Tryz.func82, Tryz.ntmps82
        go_wp2_with (go_at_call 83; refine hrl.mono ?_; rintro e w' ⟨rfl, hw⟩; subst hw)
        go_quiet (fail)
        go_wp2_with fail
        go_quiet (fail)
        go_wp2
        go_ret
        exact ⟨ret_bool (by first | exact e1.out.symm | (rw [e1.out]; first | (simp; omega) | (rw [decide_eq_false (by omega)]; rfl))), HVr.out _⟩
      · have hmf : (m == 0) = false := by simpa using hm0
        rw [if_neg hm0] at HP
        by_cases hmn : m ≤ c
        · have hmin : min m c = m := by omega
          rw [hmin] at HP
          clear hmin
          by_cases hE : m ≤ (N : Int)
          · have e1 : Hid (σ.pready = true) := by show σ.pready = _; rw [HP.out, decide_eq_true hE]; simp
            clear HP
            by_cases ht0 : t = 0
            · subst ht0
              go_enter Tryz.func82, Tryz.ntmps82
              go_wp2_with (go_at_call 83; refine hrl.mono ?_; rintro e w' ⟨rfl, hw⟩; subst hw)
              go_quiet (fail)
              go_wp2_with fail
              go_quiet (fail)
              go_wp2
              go_ret
              exact ⟨ret_bool (by first | exact e1.out.symm | (rw [e1.out]; first | (simp; omega) | (rw [decide_eq_false (by omega)]; rfl))), HVr.out _⟩
            · have htf : (t == 0) = false := by simpa using ht0
              go_enter Tryz.func82, Tryz.ntmps82
              go_wp2_with (go_at_call 83; refine hrl.mono ?_; rintro e w' ⟨rfl, hw⟩; subst hw)
              go_quiet (fail)
              go_wp2_with fail
              go_quiet (fail)
              go_wp2
              go_ret
              exact ⟨ret_bool (by first | exact e1.out.symm | (rw [e1.out]; first | (simp; omega) | (rw [decide_eq_false (by omega)]; rfl))), HVr.out _⟩
          · have hE' : (N : Int) < m := by omega
            rw [decide_eq_false hE] at HP
            by_cases ht0 : t = 0
            · subst ht0
              have e1 : Hid (σ.pready = false) := by show σ.pready = _; rw [HP.out, if_pos rfl]
              clear HP
              go_enter Tryz.func82, Tryz.ntmps82
              go_wp2_with (go_at_call 83; refine hrl.mono ?_; rintro e w' ⟨rfl, hw⟩; subst hw)
              go_quiet (fail)
              go_wp2_with fail
              go_quiet (fail)
              go_wp2
              go_ret
              exact ⟨ret_bool (by first | exact e1.out.symm | (rw [e1.out]; first | (simp; omega) | (rw [decide_eq_false (by omega)]; rfl))), HVr.out _⟩
            · have htf : (t == 0) = false := by simpa using ht0
              have e1 : Hid (σ.pready = decide (t ≤ q)) := by show σ.pready = _; rw [HP.out, if_neg ht0]; simp
              clear HP
              go_enter Tryz.func82, Tryz.ntmps82
              go_wp2_with (go_at_call 83; refine hrl.mono ?_; rintro e w' ⟨rfl, hw⟩; subst hw)
              go_quiet (fail)
              go_wp2_with fail
              go_quiet (fail)
              go_wp2
              go_ret
              exact ⟨ret_bool (by first | exact e1.out.symm | (rw [e1.out]; first | (simp; omega) | (rw [decide_eq_false (by omega)]; rfl))), HVr.out _⟩
        · have hmin : min m c = c := by omega
          rw [hmin] at HP
          clear hmin
          have hmn' : c < m := by omega
          by_cases hE : c ≤ (N : Int)
          · have e1 : Hid (σ.pready = true) := by show σ.pready = _; rw [HP.out, decide_eq_true hE]; simp
            clear HP
            by_cases ht0 : t = 0
            · subst ht0
              go_enter Tryz.func82, Tryz.ntmps82
              go_wp2_with (go_at_call 83; refine hrl.mono ?_; rintro e w' ⟨rfl, hw⟩; subst hw)
              go_quiet (fail)
              go_wp2_with fail
              go_quiet (fail)
              go_wp2
              go_ret
              exact ⟨ret_bool (by first | exact e1.out.symm | (rw [e1.out]; first | (simp; omega) | (rw [decide_eq_false (by omega)]; rfl))), HVr.out _⟩
            · have htf : (t == 0) = false := by simpa using ht0
              go_enter Tryz.func82, Tryz.ntmps82
              go_wp2_with (go_at_call 83; refine hrl.mono ?_; rintro e w' ⟨rfl, hw⟩; subst hw)
              go_quiet (fail)
              go_wp2_with fail
              go_quiet (fail)
              go_wp2
              go_ret
              exact ⟨ret_bool (by first | exact e1.out.symm | (rw [e1.out]; first | (simp; omega) | (rw [decide_eq_false (by omega)]; rfl))), HVr.out _⟩
          · have hE' : (N : Int) < c := by omega
            rw [decide_eq_false hE] at HP
            by_cases ht0 : t = 0
            · subst ht0
              have e1 : Hid (σ.pready = false) := by show σ.pready = _; rw [HP.out, if_pos rfl]
              clear HP
              go_enter Tryz.func82, Tryz.ntmps82
              go_wp2_with (go_at_call 83; refine hrl.mono ?_; rintro e w' ⟨rfl, hw⟩; subst hw)
              go_quiet (fail)
              go_wp2_with fail
              go_quiet (fail)
              go_wp2
              go_ret
              exact ⟨ret_bool (by first | exact e1.out.symm | (rw [e1.out]; first | (simp; omega) | (rw [decide_eq_false (by omega)]; rfl))), HVr.out _⟩
            · have htf : (t == 0) = false := by simpa using ht0
              have e1 : Hid (σ.pready = decide (t ≤ q)) := by show σ.pready = _; rw [HP.out, if_neg ht0]; simp
              clear HP
              go_enter Tryz.func82, Tryz.ntmps82
              go_wp2_with (go_at_call 83; refine hrl.mono ?_; rintro e w' ⟨rfl, hw⟩; subst hw)
              go_quiet (fail)
              go_wp2_with fail
              go_quiet (fail)
              go_wp2
              go_ret
              exact ⟨ret_bool (by first | exact e1.out.symm | (rw [e1.out]; first | (simp; omega) | (rw [decide_eq_false (by omega)]; rfl))), HVr.out _⟩
    · obtain rfl : N = 0 := by omega
      by_cases hm0 : m = 0
      · subst hm0
        have e1 : Hid (σ.pready = decide (t ≤ q)) := by show σ.pready = _; rw [HP.out, if_pos rfl]; simp
        clear HP
        go_enter Tryz.func82, Tryz.ntmps82
        go_wp2_with (go_at_call 83; refine hrl.mono ?_; rintro e w' ⟨rfl, hw⟩; subst hw)
        go_quiet (fail)
        go_wp2_with fail
        go_quiet (fail)
        go_wp2
        go_ret
        exact ⟨ret_bool (by first | exact e1.out.symm | (rw [e1.out]; first | (simp; omega) | (rw [decide_eq_false (by omega)]; rfl))), HVr.out _⟩
      · have hmf : (m == 0) = false := by simpa using hm0
        rw [if_neg hm0] at HP
        have HZ : Hid (decide (min m c ≤ ((0 : Nat) : Int)) = decide (c ≤ 0)) := by
          show decide _ = decide _; apply decide_eq_decide.2; omega
        rw [HZ.out] at HP
        by_cases hc0 : c ≤ 0
        · have e1 : Hid (σ.pready = true) := by show σ.pready = _; rw [HP.out, decide_eq_true hc0]; simp
          obtain rfl : c = 0 := by omega
          have hmn' : 0 < m := by omega
          clear HP HZ
          by_cases ht0 : t = 0
          · subst ht0
            go_enter Tryz.func82, Tryz.ntmps82
            go_wp2_with (go_at_call 83; refine hrl.mono ?_; rintro e w' ⟨rfl, hw⟩; subst hw)
            go_quiet (fail)
            go_wp2_with fail
            go_quiet (fail)
            go_wp2
            go_ret
            exact ⟨ret_bool (by first | exact e1.out.symm | (rw [e1.out]; first | (simp; omega) | (rw [decide_eq_false (by omega)]; rfl))), HVr.out _⟩
          · have htf : (t == 0) = false := by simpa using ht0
            go_enter Tryz.func82, Tryz.ntmps82
            go_wp2_with (go_at_call 83; refine hrl.mono ?_; rintro e w' ⟨rfl, hw⟩; subst hw)
            go_quiet (fail)
            go_wp2_with fail
            go_quiet (fail)
            go_wp2
            go_ret
            exact ⟨ret_bool (by first | exact e1.out.symm | (rw [e1.out]; first | (simp; omega) | (rw [decide_eq_false (by omega)]; rfl))), HVr.out _⟩
        · rw [decide_eq_false hc0] at HP
          have hc1 : 0 < c := by omega
          have hm1 : 0 < m := by omega
          have e1 : Hid (σ.pready = false) := by show σ.pready = _; rw [HP.out]; split <;> simp
          clear HP HZ
          by_cases hmn : m ≤ c
          · by_cases ht0 : t = 0
            · subst ht0
              go_enter Tryz.func82, Tryz.ntmps82
              go_wp2_with (go_at_call 83; refine hrl.mono ?_; rintro e w' ⟨rfl, hw⟩; subst hw)
              go_quiet (fail)
              go_wp2_with fail
              go_quiet (fail)
              go_wp2
              go_ret
              exact ⟨ret_bool (by first | exact e1.out.symm | (rw [e1.out]; first | (simp; omega) | (rw [decide_eq_false (by omega)]; rfl))), HVr.out _⟩
            · have htf : (t == 0) = false := by simpa using ht0
              go_enter Tryz.func82, Tryz.ntmps82
              go_wp2_with (go_at_call 83; refine hrl.mono ?_; rintro e w' ⟨rfl, hw⟩; subst hw)
              go_quiet (fail)
              go_wp2_with fail
              go_quiet (fail)
              go_wp2
              go_ret
              exact ⟨ret_bool (by first | exact e1.out.symm | (rw [e1.out]; first | (simp; omega) | (rw [decide_eq_false (by omega)]; rfl))), HVr.out _⟩
          · have hmn' : c < m := by omega
            by_cases ht0 : t = 0
            · subst ht0
              go_enter Tryz.func82, Tryz.ntmps82
              go_wp2_with (go_at_call 83; refine hrl.mono ?_; rintro e w' ⟨rfl, hw⟩; subst hw)
              go_quiet (fail)
              go_wp2_with fail
              go_quiet (fail)
              go_wp2
              go_ret
              exact ⟨ret_bool (by first | exact e1.out.symm | (rw [e1.out]; first | (simp; omega) | (rw [decide_eq_false (by omega)]; rfl))), HVr.out _⟩
            · have htf : (t == 0) = false := by simpa using ht0
              go_enter Tryz.func82, Tryz.ntmps82
              go_wp2_with (go_at_call 83; refine hrl.mono ?_; rintro e w' ⟨rfl, hw⟩; subst hw)
              go_quiet (fail)
              go_wp2_with fail
              go_quiet (fail)
              go_wp2
              go_ret
              exact ⟨ret_bool (by first | exact e1.out.symm | (rw [e1.out]; first | (simp; omega) | (rw [decide_eq_false (by omega)]; rfl))), HVr.out _⟩
end
end Go.Proofs.YtfnglkhhmplejaaGreat
