/- Walks: the program: a read ends; what is looked after; Read, Take, Tick. -/
import Derived.Test.YtfnglkhhmplejaaGreatProg27
namespace Go.Clk
open Go
theorem Inv.pends {K : Int} {σ : St} (h : Inv K σ) : Inv K σ.pends := by
  unfold St.pends
  split
  · have := fetch_inv σ.n h.n0 σ.inq [] (by have := h.n0; simpa using this)
    have := h.n1; have := h.inq
    exact ⟨h.s, h.c0, h.c1, h.out, by dsimp only; omega, fun e he => h.cells e ((fetch_inv σ.n h.n0 σ.inq [] (by have := h.n0; simpa using this)).2.1 e he), h.urg, h.noted, by dsimp only; omega, h.n0, h.n1, h.w0, h.w1⟩
  · exact h
theorem Inv.plook {K : Int} {σ : St} (h : Inv K σ) : Inv (K + 1) σ.plook := h.pends.hold
theorem drop_take_min (l : List Ent) (n : Nat) : l.drop (min n l.length) = l.drop n ∧ l.take (min n l.length) = l.take n := by
  by_cases h : n ≤ l.length
  · rw [Nat.min_eq_left h]; exact ⟨rfl, rfl⟩
  · rw [Nat.min_eq_right (by omega), List.drop_eq_nil_of_le (Nat.le_refl _), List.drop_eq_nil_of_le (by omega), List.take_of_length_le (Nat.le_refl _), List.take_of_length_le (by omega)]; exact ⟨rfl, rfl⟩
theorem pends_no {σ : St} (h : σ.n ≤ 0) : σ.pends = σ := by unfold St.pends; rw [decide_eq_false (by omega)]; rfl
theorem pends_done {σ : St} (h : σ.ended = true) : σ.pends = σ := by unfold St.pends; rw [h]; simp
theorem pends_wait {σ : St} (h : σ.pready = false) : σ.pends = σ := by unfold St.pends; rw [h]; simp
theorem pends_lines {σ : St} (h0 : 0 < σ.n) (h1 : σ.ended = false) (h2 : σ.pready = true) (hw : Well σ) :
    σ.pends = { σ with ended := true, inq := σ.inq.drop (takeN σ.n.toNat σ.inq), data := bytesOf (σ.inq.take (takeN σ.n.toNat σ.inq)) } := by
  unfold St.pends
  rw [decide_eq_true h0, h1, h2, if_pos (by decide), fetch_takeN σ.n σ.inq σ.n.toNat [] (fun e he => (hw e he).1) (by simp; omega)]
  rfl
theorem pends_bytes {σ : St} (h0 : 0 < σ.n) (h1 : σ.ended = false) (h2 : σ.pready = true) (hL : σ.L 2 = false) (hw : Well σ) :
    σ.pends = { σ with ended := true, inq := σ.inq.drop σ.n.toNat, data := bytesOf (σ.inq.take σ.n.toNat) } := by
  rw [pends_lines h0 h1 h2 hw]
  have h3 : takeN σ.n.toNat σ.inq = min σ.n.toNat σ.inq.length := takeN_bytes _ _ fun e he => by
    have := hw e he
    refine ⟨this.2 hL, ?_⟩
    cases hf : e.file with
    | false => rfl
    | true => have h4 := this.1 hf; rw [this.2 hL] at h4; cases h4
  have h4 := drop_take_min σ.inq σ.n.toNat
  rw [h3, h4.1, h4.2]
theorem ready_lines {σ : St} (hL : σ.L 2 = true) (h : σ.pready = true) : 0 < fline σ.inq := by
  unfold St.pready at h
  rw [if_pos hL, ← fline_any] at h
  exact of_decide_eq_true h
end Go.Clk
namespace Go.Proofs.YtfnglkhhmplejaaGreat
open Go Go.RowKit Go.Clk

section
variable (S0 : List Nat) (w0 : World) (x : List Nat) (b : Nat) (σ : St) (w : World) (K : Int)

set_option maxHeartbeats 2000000 in
set_option maxRecDepth 100000 in
theorem endRead_any (h : AtP S0 w0 x b σ w) (ok : Inv K σ) (hK : K ≤ 1099511627776) (hw : Well σ) :
    Calls Tryz.prog 58 #[.pointer (some ⟨b, 0, none⟩)] w fun e w' => e = .returned (.tuple #[]) ∧ AtP S0 w0 x b σ.pends w' := by
  have HC : Hid (∀ q, σ.pready = q → Calls Tryz.prog 82 #[.pointer (some ⟨b, 0, none⟩)] w fun e w' => e = .returned (.bool q) ∧ AtP S0 w0 x b σ w') := fun q hq => by subst hq; exact canEnd_any S0 w0 x b σ w K h ok hK
  have hR := h
  obtain ⟨vi, vu, vo, vs, hV⟩ := h
  have kn := hV.c_most
  have ke := hV.c_ended
  have hth := isThere_any b w σ.n kn
  clear hV
  by_cases h0 : 0 < σ.n
  · rw [decide_eq_true h0] at hth
    cases h1 : σ.ended with
    | true =>
      have e1 : Hid (σ.pends = σ) := pends_done h1
      rw [h1] at ke
      clear h1 HC
      go_enter Tryz.func58, Tryz.ntmps58
      go_wp2_with (go_at_call 48; refine hth.mono ?_; rintro e w' ⟨rfl, hw⟩; subst hw)
      refine bodyPost_ret (results_none rfl _ _ _) rfl ?_
      exact ⟨rfl, by rw [e1.out]; exact hR⟩
    | false =>
      cases h2 : σ.pready with
      | false =>
        have e1 : Hid (σ.pends = σ) := pends_wait h2
        have hce := HC.out false h2
        rw [h1] at ke
        clear h1 h2 HC
        go_enter Tryz.func58, Tryz.ntmps58
        go_wp2_with (first | (go_at_call 48; refine hth.mono ?_; rintro e w' ⟨rfl, hw⟩; subst hw) | (go_at_call 82; refine hce.mono ?_; rintro e W ⟨rfl, hW⟩))
        refine bodyPost_ret (results_none rfl _ _ _) rfl ?_
        exact ⟨rfl, by rw [e1.out]; exact hW⟩
      | true =>
        have hce := HC.out true h2
        have n1 := ok.n1; have l0 := ok.ok.l0; have l1 := ok.ok.l1; have hil := ok.inq
        have HN : Hid (σ.n = (σ.n.toNat : Int)) := by show σ.n = _; omega
        obtain ⟨m, hm⟩ : ∃ m, σ.n.toNat = m := ⟨_, rfl⟩
        cases hL : σ.L 2 with
        | true =>
          have e1 : Hid (σ.pends = { σ with ended := true, inq := σ.inq.drop (takeN m σ.inq), data := bytesOf (σ.inq.take (takeN m σ.inq)) }) := by rw [← hm]; exact pends_lines h0 h1 h2 hw
          have hfl := ready_lines hL h2
          have HW : Hid (∀ e ∈ σ.inq, e.file = true → e.fin = true) := fun e he => (hw e he).1
          have HFL : Hid (0 < fline σ.inq) := hfl
          have HL : Hid (σ.L 2 = true) := hL
          rw [h1] at ke
          rw [hm] at HN
          have hm2 : m ≤ 256 := by have := HN.out; omega
          clear h1 h2 hL HC hw hfl hm ok
          go_enter Tryz.func58, Tryz.ntmps58
          go_wp2_with (first | (go_at_call 48; refine hth.mono ?_; rintro e w' ⟨rfl, hw⟩; subst hw) | (go_at_call 82; refine hce.mono ?_; rintro e W ⟨rfl, hW⟩; clear hth hce kn ke hR; obtain ⟨vi, vu, vo, vs, hV⟩ := hW; have ke2 := hV.c_ended; have fe2 := hV.frozen 24; have hE := hV.s_ended true; have kl := hE.cl; have kn2 := hE.c_most; have hEd := hE.drew.r; have hrl := readsLines_any b _ _ kl l0 l1; clear hV hE) | (go_at_call 83; rw [show ({ σ with ended := true } : St).L 2 = true from HL.out] at hrl; refine hrl.mono ?_; rintro e w' ⟨rfl, hw⟩; subst hw))
          go_region_with (go_at_call 84; refine (TakeLine_any S0 w0 x b _ _ hEd hil HW.out HFL.out m hm2 _ HN.out).mono ?_; rintro r W2 ⟨rfl, ⟨vi, vu, vo, vs, hV2⟩⟩; have k9 := hV2.c_has; have f9 := hV2.frozen 25; have hF := (hV2.s_has (bytesOf (σ.inq.take (takeN m σ.inq)))).r; clear hV2)
          all_goals go_wp2
          all_goals go_end0
          all_goals exact ⟨rfl, by rw [e1.out]; exact hF⟩
        | false =>
          have e1 : Hid (σ.pends = { σ with ended := true, inq := σ.inq.drop m, data := bytesOf (σ.inq.take m) }) := by rw [← hm]; exact pends_bytes h0 h1 h2 hL hw
          have HL : Hid (σ.L 2 = false) := hL
          rw [h1] at ke
          rw [hm] at HN
          have hm2 : m ≤ 256 := by have := HN.out; omega
          have HTK : Hid (∀ W, AtP S0 w0 x b { σ with ended := true } W → Calls Tryz.prog 85 #[.pointer (some ⟨b, 17, none⟩), .int .i64 σ.n] W fun e w' => e = .returned (.string (str (bytesOf (σ.inq.take m)))) ∧ AtP S0 w0 x b { σ with ended := true, inq := σ.inq.drop m } w') := by
            intro W hW
            have := qTake_any S0 w0 x b _ W hW hil σ.n (by omega) (by omega)
            rw [show σ.n.toNat = m by have := HN.out; omega] at this
            exact this
          clear h1 h2 hL HC hw hm ok
          go_enter Tryz.func58, Tryz.ntmps58
          go_wp2_with (first | (go_at_call 48; refine hth.mono ?_; rintro e w' ⟨rfl, hw⟩; subst hw) | (go_at_call 82; refine hce.mono ?_; rintro e W ⟨rfl, hW⟩; clear hth hce kn ke hR; obtain ⟨vi, vu, vo, vs, hV⟩ := hW; have ke2 := hV.c_ended; have fe2 := hV.frozen 24; have hE := hV.s_ended true; have kl := hE.cl; have kn2 := hE.c_most; have hEd := hE.drew.r; have hrl := readsLines_any b _ _ kl l0 l1; clear hV hE) | (go_at_call 83; rw [show ({ σ with ended := true } : St).L 2 = false from HL.out] at hrl; refine hrl.mono ?_; rintro e w' ⟨rfl, hw⟩; subst hw))
          go_region_with (go_at_call 85; refine (HTK.out _ hEd).mono ?_; rintro r W2 ⟨rfl, ⟨vi, vu, vo, vs, hV2⟩⟩; have k9 := hV2.c_has; have f9 := hV2.frozen 25; have hF := (hV2.s_has (bytesOf (σ.inq.take m))).r; clear hV2)
          all_goals go_wp2
          all_goals go_end0
          all_goals exact ⟨rfl, by rw [e1.out]; exact hF⟩
  · rw [decide_eq_false h0] at hth
    have e1 : Hid (σ.pends = σ) := pends_no (by omega)
    clear HC
    go_enter Tryz.func58, Tryz.ntmps58
    go_wp2_with (go_at_call 48; refine hth.mono ?_; rintro e w' ⟨rfl, hw⟩; subst hw)
    refine bodyPost_ret (results_none rfl _ _ _) rfl ?_
    exact ⟨rfl, by rw [e1.out]; exact hR⟩

set_option maxHeartbeats 400000 in
theorem look_any (h : AtP S0 w0 x b σ w) (ok : Inv K σ) (hK : K ≤ 1099511627776) (hw : Well σ) :
    Calls Tryz.prog 35 #[.pointer (some ⟨b, 0, none⟩)] w fun e w' => e = .returned (.tuple #[]) ∧ AtP S0 w0 x b σ.plook w' := by
  go_enter Tryz.func35, Tryz.ntmps35
  go_wp2_with (first | (go_at_call 58; refine (endRead_any S0 w0 x b σ w K h ok hK hw).mono ?_; rintro e W ⟨rfl, hW⟩) | (go_at_call 59; refine (phold_any S0 w0 x b _ _ K hW ok.pends hK).mono ?_; rintro e W2 ⟨rfl, hW2⟩))
  go_end0
  exact ⟨rfl, hW2⟩
end
end Go.Proofs.YtfnglkhhmplejaaGreat
