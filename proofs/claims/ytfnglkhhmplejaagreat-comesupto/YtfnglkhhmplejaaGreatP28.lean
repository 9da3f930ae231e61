/- Walks: the program: a read ends; what is looked after; Read, Take, Tick. -/
import Derived.Test.YtfnglkhhmplejaaGreatP26
import Derived.Test.YtfnglkhhmplejaaGreatP20
import Derived.Test.YtfnglkhhmplejaaGreatP12
namespace Go.Clk
open Go
theorem Inv.pends {K : Int} {σ : St} (h : Inv K σ) : Inv K σ.pends := by
  unfold St.pends
  split
  · have := fetch_inv σ.n h.n0 σ.inq [] (by have := h.n0; simpa using this)
    have := h.n1; have := h.inq
    exact ⟨h.s, h.c0, h.c1, h.out, by dsimp only; omega, fun e he => h.cells e ((fetch_inv σ.n h.n0 σ.inq [] (by have := h.n0; simpa using this)).2.1 e he), h.urg, h.noted, by dsimp only; omega, h.n0, h.n1, h.w0, h.w1⟩
  · exact h
theorem Inv.plook {K : Int} {σ : St} (h : Inv K σ) : Inv (K + 1) σ.plook := h.pends.hold
theorem drop_take_min (l : List Ent) (n : Nat) : l.drop (min n l.length) = l.drop n ∧ l.take (min n l.length) = l.take n := by
  by_cases h : n ≤ l.length
  · rw [Nat.min_eq_left h]; exact ⟨rfl, rfl⟩
  · rw [Nat.min_eq_right (by omega), List.drop_eq_nil_of_le (Nat.le_refl _), List.drop_eq_nil_of_le (by omega), List.take_of_length_le (Nat.le_refl _), List.take_of_length_le (by omega)]; exact ⟨rfl, rfl⟩
theorem pends_no {σ : St} (h : σ.n ≤ 0) : σ.pends = σ := by unfold St.pends; rw [decide_eq_false (by omega)]; rfl
theorem pends_done {σ : St} (h : σ.ended = true) : σ.pends = σ := by unfold St.pends; rw [h]; simp
theorem pends_wait {σ : St} (h : σ.pready = false) : σ.pends = σ := by unfold St.pends; rw [h]; simp
theorem pends_lines {σ : St} (h0 : 0 < σ.n) (h1 : σ.ended = false) (h2 : σ.pready = true) (hw : Well σ) :
    σ.pends = { σ with ended := true, inq := σ.inq.drop (takeN σ.n.toNat σ.inq), data := bytesOf (σ.inq.take (takeN σ.n.toNat σ.inq)) } := by
  unfold St.pends
  rw [decide_eq_true h0, h1, h2, if_pos (by decide), fetch_takeN σ.n σ.inq σ.n.toNat [] (fun e he => (hw e he).1) (by simp; omega)]
  rfl
theorem pends_bytes {σ : St} (h0 : 0 < σ.n) (h1 : σ.ended = false) (h2 : σ.pready = true) (hL : σ.L 2 = false) (hw : Well σ) :
    σ.pends = { σ with ended := true, inq := σ.inq.drop σ.n.toNat, data := bytesOf (σ.inq.take σ.n.toNat) } := by
  rw [pends_lines h0 h1 h2 hw]
  have h3 : takeN σ.n.toNat σ.inq = min σ.n.toNat σ.inq.length := takeN_bytes _ _ fun e he => by
    have := hw e he
    refine ⟨this.2 hL, ?_⟩
    cases hf : e.file with
    | false => rfl
    | true => have h4 := this.1 hf; rw [this.2 hL] at h4; cases h4
  have h4 := drop_take_min σ.inq σ.n.toNat
  rw [h3, h4.1, h4.2]
theorem ready_lines {σ : St} (hL : σ.L 2 = true) (h : σ.pready = true) : 0 < fline σ.inq := by
  unfold St.pready at h
  rw [if_pos hL, ← fline_any] at h
  exact of_decide_eq_true h
end Go.Clk
namespace Go.Proofs.YtfnglkhhmplejaaGreat
open Go Go.RowKit Go.Clk

section
variable (S0 : List Nat) (w0 : World) (x : List Nat) (b : Nat) (σ : St) (w : World) (K : Int)

set_option maxHeartbeats 2000000 in
set_option maxRecDepth 100000 in
theorem endRead_any (h : AtP S0 w0 x b σ w) (ok : Inv K σ) (hK : K ≤ 1099511627776) (hw : Well σ) :
    Calls Tryz.prog 58 #[.pointer (some ⟨b, 0, none⟩)] w fun e w' => e = .returned (.tuple #[]) ∧ AtP S0 w0 x b σ.pends w' := by
  have HC : Hid (∀ q, σ.pready = q → Calls Tryz.prog 82 #[.pointer (some ⟨b, 0, none⟩)] w fun e w' => e = .returned (.bool q) ∧ AtP S0 w0 x b σ w') := fun q hq => by subst hq; exact canEnd_any S0 w0 x b σ w K h ok hK
  have hR := h
  obtain ⟨vi, vu, vo, vs, hV⟩ := h
  have kn := hV.c_most
  have ke := hV.c_ended
  have hth := isThere_any b w σ.n kn
  clear hV
  by_cases h0 : 0 < σ.n
  · rw [decide_eq_true h0] at hth
    cases h1 : σ.ended with
    | true =>
      have e1 : Hid (σ.pends = σ) := pends_done h1
      rw [h1] at ke
      clear h1 HC
      go_enter Tryz.func58, Tryz.ntmps58
      go_wp2_with (go_at_call 48; refine hth.mono ?_; rintro e w' ⟨rfl, hw⟩; subst hw)
      refine bodyPost_ret (results_none rfl _ _ _) rfl ?_
      exact ⟨rfl, by rw [e1.out]; exact hR⟩
    | false =>
      cases h2 : σ.pready with
      | false =>
        have e1 : Hid (σ.pends = σ) := pends_wait h2
        have hce := HC.out false h2
        rw [h1] at ke
        clear h1 h2 HC
        go_enter Tryz.func58, Tryz.ntmps58
        go_wp2_with (first | (go_at_call 48; refine hth.mono ?_; rintro e w' ⟨rfl, hw⟩; subst hw) | (go_at_call 82; refine hce.mono ?_; rintro e W ⟨rfl, hW⟩))
        refine bodyPost_ret (results_none rfl _ _ _) rfl ?_
        exact ⟨rfl, by rw [e1.out]; exact hW⟩
      | true =>
        have hce := HC.out true h2
        have n1 := ok.n1; have l0 := ok.ok.l0; have l1 := ok.ok.l1; have hil := ok.inq
        have HN : Hid (σ.n = (σ.n.toNat : Int)) := by show σ.n = _; omega
        obtain ⟨m, hm⟩ : ∃ m, σ.n.toNat = m := ⟨_, rfl⟩
        cases hL : σ.L 2 with
        | true =>
          have e1 : Hid (σ.pends = { σ with ended := true, inq := σ.inq.drop (takeN m σ.inq), data := bytesOf (σ.inq.take (takeN m σ.inq)) }) := by rw [← hm]; exact pends_lines h0 h1 h2 hw
          have hfl := ready_lines hL h2
          have HW : Hid (∀ e ∈ σ.inq, e.file = true → e.fin = true) := fun e he => (hw e he).1
          have HFL : Hid (0 < fline σ.inq) := hfl
          have HL : Hid (σ.L 2 = true) := hL
          rw [h1] at ke
          rw [hm] at HN
          have hm2 : m ≤ 256 := by have := HN.out; omega
          clear h1 h2 hL HC hw hfl hm ok
          go_enter Tryz.func58, Tryz.ntmps58
          go_wp2_with (first | (go_at_call 48; refine hth.mono ?_; rintro e w' ⟨rfl, hw⟩; subst hw) | (go_at_call 82; refine hce.mono ?_; rintro e W ⟨rfl, hW⟩; clear hth hce kn ke hR; obtain ⟨vi, vu, vo, vs, hV⟩ := hW; have ke2 := hV.c_ended; have fe2 := hV.frozen 24; have hE := hV.s_ended true; have kl := hE.cl; have kn2 := hE.c_most; have hEd := hE.drew.r; have hrl := readsLines_any b _ _ kl l0 l1; clear hV hE) | (go_at_call 83; rw [show ({ σ with ended := true } : St).L 2 = true from HL.out] at hrl; refine hrl.mono ?_; rintro e w' ⟨rfl, hw⟩; subst hw))
          go_region_with (go_at_call 84; refine (TakeLine_any S0 w0 x b _ _ hEd hil HW.out HFL.out m hm2 _ HN.out).mono ?_; rintro r W2 ⟨rfl, ⟨vi, vu, vo, vs, hV2⟩⟩; have k9 := hV2.c_has; have f9 := hV2.frozen 25; have hF := (hV2.s_has (bytesOf (σ.inq.take (takeN m σ.inq)))).r; clear hV2)
          all_goals go_wp2
          all_goals go_end0
          all_goals exact ⟨rfl, by rw [e1.out]; exact hF⟩
        | false =>
          have e1 : Hid (σ.pends = { σ with ended := true, inq := σ.inq.drop m, data := bytesOf (σ.inq.take m) }) := by rw [← hm]; exact pends_bytes h0 h1 h2 hL hw
          have HL : Hid (σ.L 2 = false) := hL
          rw [h1] at ke
          rw [hm] at HN
          have hm2 : m ≤ 256 := by have := HN.out; omega
          have HTK : Hid (∀ W, AtP S0 w0 x b { σ with ended := true } W → Calls Tryz.prog 85 #[.pointer (some ⟨b, 17, none⟩), .int .i64 σ.n] W fun e w' => e = .returned (.string (str (bytesOf (σ.inq.take m)))) ∧ AtP S0 w0 x b { σ with ended := true, inq := σ.inq.drop m } w') := by
            intro W hW
            have := qTake_any S0 w0 x b _ W hW hil σ.n (by omega) (by omega)
            rw [show σ.n.toNat = m by have := HN.out; omega] at this
            exact this
          clear h1 h2 hL HC hw hm ok
          go_enter Tryz.func58, Tryz.ntmps58
          go_wp2_with (first | (go_at_call 48; refine hth.mono ?_; rintro e w' ⟨rfl, hw⟩; subst hw) | (go_at_call 82; refine hce.mono ?_; rintro e W ⟨rfl, hW⟩; clear hth hce kn ke hR; obtain ⟨vi, vu, vo, vs, hV⟩ := hW; have ke2 := hV.c_ended; have fe2 := hV.frozen 24; have hE := hV.s_ended true; have kl := hE.cl; have kn2 := hE.c_most; have hEd := hE.drew.r; have hrl := readsLines_any b _ _ kl l0 l1; clear hV hE) | (go_at_call 83; rw [show ({ σ with ended := true } : St).L 2 = false from HL.out] at hrl; refine hrl.mono ?_; rintro e w' ⟨rfl, hw⟩; subst hw))
          go_region_with (go_at_call 85; refine (HTK.out _ hEd).mono ?_; rintro r W2 ⟨rfl, ⟨vi, vu, vo, vs, hV2⟩⟩; have k9 := hV2.c_has; have f9 := hV2.frozen 25; have hF := (hV2.s_has (bytesOf (σ.inq.take m))).r; clear hV2)
          all_goals go_wp2
          all_goals go_end0
          all_goals exact ⟨rfl, by rw [e1.out]; exact hF⟩
  · rw [decide_eq_false h0] at hth
    have e1 : Hid (σ.pends = σ) := pends_no (by omega)
    clear HC
    go_enter Tryz.func58, Tryz.ntmps58
    go_wp2_with (go_at_call 48; refine hth.mono ?_; rintro e w' ⟨rfl, hw⟩; subst hw)
    refine bodyPost_ret (results_none rfl _ _ _) rfl ?_
    exact ⟨rfl, by rw [e1.out]; exact hR⟩

set_option maxHeartbeats 400000 in
theorem look_any (h : AtP S0 w0 x b σ w) (ok : Inv K σ) (hK : K ≤ 1099511627776) (hw : Well σ) :
    Calls Tryz.prog 35 #[.pointer (some ⟨b, 0, none⟩)] w fun e w' => e = .returned (.tuple #[]) ∧ AtP S0 w0 x b σ.plook w' := by
  go_enter Tryz.func35, Tryz.ntmps35
  go_wp2_with (first | (go_at_call 58; refine (endRead_any S0 w0 x b σ w K h ok hK hw).mono ?_; rintro e W ⟨rfl, hW⟩) | (go_at_call 59; refine (phold_any S0 w0 x b _ _ K hW ok.pends hK).mono ?_; rintro e W2 ⟨rfl, hW2⟩))
  go_end0
  exact ⟨rfl, hW2⟩
end
end Go.Proofs.YtfnglkhhmplejaaGreat
namespace Go.Proofs.YtfnglkhhmplejaaGreat
open Go Go.RowKit Go.Clk

section
variable (S0 : List Nat) (w0 : World) (x : List Nat) (b : Nat) (σ : St) (w : World) (K : Int)

theorem size_reading : (Tryz.prog.info? 74).map (·.size) = some 4 := by kernel_rfl

set_option maxHeartbeats 1000000 in
set_option maxRecDepth 100000 in
theorem PTick_any (h : AtP S0 w0 x b σ w) (ok : Inv K σ) (hK : K + 1 ≤ 1099511627776) (hw : Well σ) :
    Calls Tryz.prog 65 #[.pointer (some ⟨b, 0, none⟩)] w fun e w' => e = .returned (.tuple #[]) ∧ AtP S0 w0 x b σ.ptick w' := by
  have w0' := ok.w0; have w1' := ok.w1
  have ok2 : Inv (K + 1) ({ σ with wait := min (σ.wait + 1) 255 } : St) := ⟨ok.s, ok.c0, by have := ok.c1; dsimp only; omega, ok.out, ok.inq, ok.cells, by have := ok.urg; dsimp only; omega, by have := ok.noted; dsimp only; omega, ok.data, ok.n0, ok.n1, by dsimp only; omega, by dsimp only; omega⟩
  have hw2 : Well ({ σ with wait := min (σ.wait + 1) 255 } : St) := hw
  go_enter Tryz.func65, Tryz.ntmps65
  go_wp2_with (first | (go_at_call 95; refine (ptickr_any S0 w0 x b σ w h w0' (by omega)).mono ?_; rintro e W ⟨rfl, hW⟩) | (go_at_call 35; refine (look_any S0 w0 x b _ _ (K + 1) hW ok2 hK hw2).mono ?_; rintro e W2 ⟨rfl, hW2⟩))
  go_end0
  exact ⟨rfl, hW2⟩

set_option maxHeartbeats 1000000 in
set_option maxRecDepth 100000 in
theorem PTake_any (h : AtP S0 w0 x b σ w) :
    Calls Tryz.prog 29 #[.pointer (some ⟨b, 0, none⟩)] w fun e w' => e = .returned (.tuple #[.string (str σ.ptake.2.1), .bool σ.ptake.2.2.1, .int .i64 σ.ptake.2.2.2]) ∧ AtP S0 w0 x b σ.ptake.1 w' := by
  have hR := h
  obtain ⟨vi, vu, vo, vs, hV⟩ := h
  have kn := hV.c_most
  have ke := hV.c_ended
  have kh := hV.c_has
  have kw := hV.c_wait
  have f1 := hV.frozen 22
  have f2 := hV.frozen 23
  have f3 := hV.frozen 24
  have f4 := hV.frozen 25
  have hE := ((((hV.s_most 0).s_wait 0).s_ended false).s_has []).r
  have hth := isThere_any b w σ.n kn
  clear hV
  by_cases h0 : 0 < σ.n
  · rw [decide_eq_true h0] at hth
    cases h1 : σ.ended with
    | true =>
      have e1 : Hid (σ.ptake = ({ σ with n := 0, wait := 0, ended := false, data := [] }, σ.data, true, 0)) := by show σ.ptake = _; unfold St.ptake; rw [if_pos h0, if_pos h1]
      rw [h1] at ke
      clear h1
      go_enter Tryz.func29, Tryz.ntmps29
      go_wp2_with (go_at_call 48; refine hth.mono ?_; rintro e w' ⟨rfl, hw⟩; subst hw)
      go_ret3
      rw [e1.out]
      exact ⟨rfl, hE⟩
    | false =>
      have e1 : Hid (σ.ptake = (σ, [], false, 0)) := by show σ.ptake = _; unfold St.ptake; rw [if_pos h0, if_neg (by rw [h1]; decide)]
      rw [h1] at ke
      clear h1
      go_enter Tryz.func29, Tryz.ntmps29
      go_wp2_with (go_at_call 48; refine hth.mono ?_; rintro e w' ⟨rfl, hw⟩; subst hw)
      go_ret3
      rw [e1.out]
      exact ⟨rfl, hR⟩
  · rw [decide_eq_false h0] at hth
    have e1 : Hid (σ.ptake = (σ, [], false, 4)) := by show σ.ptake = _; unfold St.ptake; rw [if_neg h0]
    go_enter Tryz.func29, Tryz.ntmps29
    go_wp2_with (go_at_call 48; refine hth.mono ?_; rintro e w' ⟨rfl, hw⟩; subst hw)
    go_ret3
    rw [e1.out]
    exact ⟨rfl, hR⟩

set_option maxHeartbeats 1000000 in
set_option maxRecDepth 100000 in
theorem PRead_any (h : AtP S0 w0 x b σ w) (ok : Inv K σ) (hK : K ≤ 1099511627776) (hw : Well σ) (n : Int) :
    Calls Tryz.prog 28 #[.pointer (some ⟨b, 0, none⟩), .int .i64 n] w fun e w' => e = .returned (.int .i64 (σ.pread n).2) ∧ AtP S0 w0 x b (σ.pread n).1 w' := by
  have hR := h
  obtain ⟨vi, vu, vo, vs, hV⟩ := h
  have kn := hV.c_most
  have ke := hV.c_ended
  have kh := hV.c_has
  have kw := hV.c_wait
  have f1 := hV.frozen 22
  have f2 := hV.frozen 23
  have f3 := hV.frozen 24
  have f4 := hV.frozen 25
  have hE := ((((hV.s_most n).s_wait 0).s_ended false).s_has []).r
  have hth := isThere_any b w σ.n kn
  clear hV
  by_cases hn : n < 1 ∨ 256 < n
  · have e1 : Hid (σ.pread n = (σ, 2)) := by show σ.pread n = _; unfold St.pread; rw [if_pos hn]
    clear hth
    rcases hn with hn | hn
    · go_enter Tryz.func28, Tryz.ntmps28
      go_wp2
      go_ret
      rw [e1.out]
      exact ⟨rfl, hR⟩
    · have hn2 : ¬ n < 1 := by omega
      go_enter Tryz.func28, Tryz.ntmps28
      go_wp2
      go_ret
      rw [e1.out]
      exact ⟨rfl, hR⟩
  · have n1 : ¬ n < 1 := by omega
    have n2 : ¬ 256 < n := by omega
    by_cases h0 : 0 < σ.n
    · rw [decide_eq_true h0] at hth
      have e1 : Hid (σ.pread n = (σ, 3)) := by show σ.pread n = _; unfold St.pread; rw [if_neg hn, if_pos h0]
      clear hn
      go_enter Tryz.func28, Tryz.ntmps28
      go_wp2_with (go_at_call 48; refine hth.mono ?_; rintro e w' ⟨rfl, hw⟩; subst hw)
      go_ret
      rw [e1.out]
      exact ⟨rfl, hR⟩
    · rw [decide_eq_false h0] at hth
      have e1 : Hid (σ.pread n = (({ σ with n := n, wait := 0, ended := false, data := [] } : St).plook, 0)) := by show σ.pread n = _; unfold St.pread; rw [if_neg hn, if_neg h0]
      have ok2 : Inv K ({ σ with n := n, wait := 0, ended := false, data := [] } : St) := ⟨ok.s, ok.c0, ok.c1, ok.out, ok.inq, ok.cells, ok.urg, ok.noted, by simp, by dsimp only; omega, by dsimp only; omega, by simp, ok.k0⟩
      have hw2 : Well ({ σ with n := n, wait := 0, ended := false, data := [] } : St) := hw
      clear hn
      go_enter Tryz.func28, Tryz.ntmps28
      go_wp2_with (first | (go_at_call 48; refine hth.mono ?_; rintro e w' ⟨rfl, hw⟩; subst hw) | (go_at_call 35; refine (look_any S0 w0 x b _ _ K hE ok2 hK hw2).mono ?_; rintro e W2 ⟨rfl, hW2⟩))
      go_ret
      rw [e1.out]
      exact ⟨rfl, hW2⟩
end
end Go.Proofs.YtfnglkhhmplejaaGreat
namespace Go.Proofs.YtfnglkhhmplejaaGreat
open Go Go.RowKit Go.Clk

section
variable (S0 : List Nat) (w0 : World) (x : List Nat) (b : Nat) (σ : St) (w : World) (K : Int)

theorem gt_norm (s : List Int) (k : Nat) (hk : k < 17) : gt (normS s) k = gt s k % lim k := by
  rw [← partS_all s s, partS_get _ _ _ _ hk, if_pos hk]
theorem chg_norm (s : List Int) : chg σ (normS s) = σ.change s := by
  unfold chg St.change
  rw [gt_norm s 2 (by omega)]
  rfl
theorem AtP.same {S0 : List Nat} {w0 w w1 : World} {x : List Nat} {b : Nat} {σ : St} (h : AtP S0 w0 x b σ w) (hg : w.grownBy w1 none) : AtP S0 w0 x b σ w1 := by obtain ⟨vi, vu, vo, vs, hV⟩ := h; exact (hV.same hg).r
theorem size_settings2 : (Tryz.prog.info? 29).map (·.size) = some 17 := by kernel_rfl

set_option maxHeartbeats 2000000 in
set_option maxRecDepth 100000 in
/-- What is done with new settings: they are known, put in force, and looked after. -/
theorem PSet_any (h : AtP S0 w0 x b σ w) (ok : Inv K σ) (hK : K ≤ 1099511627776) (hw : Well σ) (s : List Int) (hs : s.length = 17) (k : Int) :
    Calls Tryz.prog 30 #[.pointer (some ⟨b, 0, none⟩), .agg (i64s s).toArray, .int .i64 k] w fun e w' => e = .returned (.int .i64 (σ.pset s k).2) ∧ AtP S0 w0 x b (σ.pset s k).1 w' := by
  have l0 := ok.ok.l0; have l1 := ok.ok.l1
  have e0 : 0 ≤ gt (normS s) 2 := by rw [gt_norm s 2 (by omega)]; exact Int.emod_nonneg _ (by decide)
  have e1 : gt (normS s) 2 < 8192 := by rw [gt_norm s 2 (by omega)]; have := Int.emod_lt_of_pos (gt s 2) (show (0 : Int) < 1024 by omega); show gt s 2 % 1024 < 8192; omega
  have HCL : Hid (∀ (τ : St) (W : World), Inv K τ → Well τ → AtP S0 w0 x b τ W → Calls Tryz.prog 50 #[.pointer (some ⟨b, 0, none⟩), .agg (i64s (normS s)).toArray] W fun e w' => e = .returned (.tuple #[]) ∧ AtP S0 w0 x b (τ.change s) w') := by
    intro τ W okτ _ hW
    have := change_any S0 w0 x b τ W hW okτ.inq okτ.ok.l0 okτ.ok.l1 (normS s) (by simp [normS]) e0 e1
    rw [chg_norm] at this
    exact this
  have HLK : Hid (∀ (τ : St) (W : World), Inv K τ → Well τ → AtP S0 w0 x b (τ.change s) W → Calls Tryz.prog 35 #[.pointer (some ⟨b, 0, none⟩)] W fun e w' => e = .returned (.tuple #[]) ∧ AtP S0 w0 x b (τ.change s).plook w') :=
    fun τ W okτ hwτ hW => look_any S0 w0 x b (τ.change s) W K hW (okτ.change s) hK (hwτ.change s)
  have HI : Hid (Inv K σ) := ok
  have HW : Hid (Well σ) := hw
  clear ok hw l0 l1 e0 e1
  obtain ⟨vi, vu, vo, vs, hV⟩ := h
  go_enter Tryz.func30, Tryz.ntmps30
  go_wp2_with (refine wpList_box rfl (.tmp 1) 29 rfl (i64s s) rfl ?_)
  intro W B hid
  have hB : PV S0 w0 (B :: x) b σ vi vu vo vs W := by obtain ⟨rfl, rfl⟩ := hid.out; exact hV.boxed _
  have hblk : Blk W B 29 (i64s s) := by obtain ⟨rfl, rfl⟩ := hid.out; exact Blk.new w _ _
  clear hid hV
  obtain ⟨oo, hso, _, _, _⟩ := hB.lens_out
  obtain ⟨ao, co, rfl, _, _⟩ := hso.shape
  have ko := hB.c_out
  have hR : AtP S0 w0 x b σ W := (hB.weaken fun g hg => by simp [hg]).r
  have HB : Hid (Blk W B 29 (i64s s)) := hblk
  have hsl : (i64s s).length = 17 := by rw [i64s_len, hs]
  clear hso hblk
  have hlen := Len_any b W ao σ.out.length co ko
  by_cases hk : k < 0 ∨ 2 < k
  · have HE : Hid (σ.pset s k = (σ, 1)) := by show σ.pset s k = _; unfold St.pset; rw [if_pos hk]
    have k0 : (k != 0) = true := by simp; omega
    have k1 : (k != 1) = true := by simp; omega
    have k2 : (k != 2) = true := by simp; omega
    clear HCL HLK hlen
    go_wp2_with fail
    go_ret
    rw [HE.out]
    exact ⟨rfl, hR⟩
  · have HSame : Hid (∀ W1, W.grownBy W1 none → AtP S0 w0 x b σ W1) := fun W1 hg => ((hB.weaken (y := x) fun g hg => by simp [hg]).same hg).r
    by_cases k0 : k = 0
    · subst k0
      have HE : Hid (σ.pset s 0 = ((σ.change s).plook, 0)) := by show σ.pset s 0 = _; unfold St.pset; rw [if_neg (by omega), if_neg (by omega), if_neg (by omega)]
      go_wp2_with (first
                | (refine wpList_load_part rfl (.tmp 4) 29 rfl B 0 rfl (i64s s) _ (fun j v hv => by rw [Nat.zero_add]; exact HB.out.cell j hv) Tryz.underlying29 rfl (by rw [hsl]; exact size_settings2) ?_)
                | (go_at_call 37; refine hlen.mono ?_; rintro e w' ⟨rfl, hw⟩; subst hw)
                | (go_at_call 51; refine (known_any _ s hs).mono ?_; rintro e W1 ⟨rfl, hG1⟩; have hR1 := HSame.out W1 hG1)
                | (go_at_call 50; refine (HCL.out _ _ HI.out HW.out hR1).mono ?_; rintro e W2 ⟨rfl, hR2⟩)
                | (go_at_call 35; refine (HLK.out _ _ HI.out HW.out hR2).mono ?_; rintro e W3 ⟨rfl, hR3⟩))
      go_ret
      rw [HE.out]
      exact ⟨rfl, hR3⟩
    · have hk12 : k = 1 ∨ k = 2 := by omega
      by_cases ho : 0 < σ.out.length
      · have HE : Hid (σ.pset s k = (σ, 3)) := by
          show σ.pset s k = _; unfold St.pset; rw [if_neg hk, if_pos ⟨by omega, fun e => by rw [e] at ho; simp at ho⟩]
        have ho' : 0 < (σ.out.length : Int) := by omega
        have ho2 : decide (0 < (σ.out.length : Int)) = true := decide_eq_true ho'
        clear HCL HLK HSame
        rcases hk12 with rfl | rfl
        · go_wp2_with (go_at_call 37; refine hlen.mono ?_; rintro e w' ⟨rfl, hw⟩; subst hw)
          go_ret
          rw [HE.out]
          exact ⟨rfl, hR⟩
        · go_wp2_with (go_at_call 37; refine hlen.mono ?_; rintro e w' ⟨rfl, hw⟩; subst hw)
          go_ret
          rw [HE.out]
          exact ⟨rfl, hR⟩
      · have ho0 : σ.out.length = 0 := by omega
        rw [ho0] at hlen
        have HO : Hid (σ.out = []) := List.eq_nil_of_length_eq_zero ho0
        rcases hk12 with rfl | rfl
        · have HE : Hid (σ.pset s 1 = ((σ.change s).plook, 0)) := by show σ.pset s 1 = _; unfold St.pset; rw [if_neg (by omega), if_neg (fun h => h.2 HO.out), if_neg (by omega)]
          clear HO ho0 ho
          go_wp2_with (first
                | (refine wpList_load_part rfl (.tmp 4) 29 rfl B 0 rfl (i64s s) _ (fun j v hv => by rw [Nat.zero_add]; exact HB.out.cell j hv) Tryz.underlying29 rfl (by rw [hsl]; exact size_settings2) ?_)
                | (go_at_call 37; refine hlen.mono ?_; rintro e w' ⟨rfl, hw⟩; subst hw)
                | (go_at_call 51; refine (known_any _ s hs).mono ?_; rintro e W1 ⟨rfl, hG1⟩; have hR1 := HSame.out W1 hG1)
                | (go_at_call 50; refine (HCL.out _ _ HI.out HW.out hR1).mono ?_; rintro e W2 ⟨rfl, hR2⟩)
                | (go_at_call 35; refine (HLK.out _ _ HI.out HW.out hR2).mono ?_; rintro e W3 ⟨rfl, hR3⟩))
          go_ret
          rw [HE.out]
          exact ⟨rfl, hR3⟩
        · have HE : Hid (σ.pset s 2 = ((({ σ with inq := [] } : St).change s).plook, 0)) := by show σ.pset s 2 = _; unfold St.pset; rw [if_neg (by omega), if_neg (fun h => h.2 HO.out), if_pos rfl]
          have HI2 : Hid (Inv K { σ with inq := [] }) := HI.out.inq_ [] (by simp) (by simp)
          have HW2 : Hid (Well { σ with inq := [] }) := fun e he => by cases he
          obtain ⟨S, hSR, hS1, hS2, hS3, hback⟩ := hB.r.rebase
          have hBS : B ∉ S := hS2 B (by simp)
          have hcl := qClear_any S W (B :: x) b σ W hSR
          clear HO ho0 ho hSR hS1 hS2 hS3 HSame hR
          go_wp2_with (first
                | (go_at_call 37; refine hlen.mono ?_; rintro e w' ⟨rfl, hw⟩; subst hw)
                | (go_at_call 49; refine hcl.mono ?_; rintro e W0 ⟨rfl, hR0⟩; have HB2 : Hid (Blk W0 B 29 (i64s s)) := hR0.kp.blk HB.out hBS; have hR0b := (hback _ _ hR0).weaken (y := x) fun g hg => by simp [hg])
                | (refine wpList_load_part rfl (.tmp 4) 29 rfl B 0 rfl (i64s s) _ (fun j v hv => by rw [Nat.zero_add]; exact HB2.out.cell j hv) Tryz.underlying29 rfl (by rw [hsl]; exact size_settings2) ?_)
                | (go_at_call 51; refine (known_any _ s hs).mono ?_; rintro e W1 ⟨rfl, hG1⟩; have hR1 := hR0b.same hG1)
                | (go_at_call 50; refine (HCL.out _ _ HI2.out HW2.out hR1).mono ?_; rintro e W2 ⟨rfl, hR2⟩)
                | (go_at_call 35; refine (HLK.out _ _ HI2.out HW2.out hR2).mono ?_; rintro e W3 ⟨rfl, hR3⟩))
          go_ret
          rw [HE.out]
          exact ⟨rfl, hR3⟩
end
end Go.Proofs.YtfnglkhhmplejaaGreat
