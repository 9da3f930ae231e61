/- Walks: the program: Read, Take, Tick. -/
import Derived.Test.YtfnglkhhmplejaaGreatProg28
namespace Go.Proofs.YtfnglkhhmplejaaGreat
open Go Go.RowKit Go.Clk

section
variable (S0 : List Nat) (w0 : World) (x : List Nat) (b : Nat) (σ : St) (w : World) (K : Int)

theorem size_reading : (Tryz.prog.info? 74).map (·.size) = some 4 := by kernel_rfl

set_option maxHeartbeats 1000000 in
set_option maxRecDepth 100000 in
theorem PTick_any (h : AtP S0 w0 x b σ w) (ok : Inv K σ) (hK : K + 1 ≤ 1099511627776) (hw : Well σ) :
    Calls Tryz.prog 65 #[.pointer (some ⟨b, 0, none⟩)] w fun e w' => e = .returned (.tuple #[]) ∧ AtP S0 w0 x b σ.ptick w' := by
  have w0' := ok.w0; have w1' := ok.w1
  have ok2 : Inv (K + 1) ({ σ with wait := min (σ.wait + 1) 255 } : St) := ⟨ok.s, ok.c0, by have := ok.c1; dsimp only; omega, ok.out, ok.inq, ok.cells, by have := ok.urg; dsimp only; omega, by have := ok.noted; dsimp only; omega, ok.data, ok.n0, ok.n1, by dsimp only; omega, by dsimp only; omega⟩
  have hw2 : Well ({ σ with wait := min (σ.wait + 1) 255 } : St) := hw
  go_enter Tryz.func65, Tryz.ntmps65
  go_wp2_with (first | (go_at_call 95; refine (ptickr_any S0 w0 x b σ w h w0' (by omega)).mono ?_; rintro e W ⟨rfl, hW⟩) | (go_at_call 35; refine (look_any S0 w0 x b _ _ (K + 1) hW ok2 hK hw2).mono ?_; rintro e W2 ⟨rfl, hW2⟩))
  go_end0
  exact ⟨rfl, hW2⟩

set_option maxHeartbeats 1000000 in
set_option maxRecDepth 100000 in
theorem PTake_any (h : AtP S0 w0 x b σ w) :
    Calls Tryz.prog 29 #[.pointer (some ⟨b, 0, none⟩)] w fun e w' => e = .returned (.tuple #[.string (str σ.ptake.2.1), .bool σ.ptake.2.2.1, .int .i64 σ.ptake.2.2.2]) ∧ AtP S0 w0 x b σ.ptake.1 w' := by
  have hR := h
  obtain ⟨vi, vu, vo, vs, hV⟩ := h
  have kn := hV.c_most
  have ke := hV.c_ended
  have kh := hV.c_has
  have kw := hV.c_wait
  have f1 := hV.frozen 22
  have f2 := hV.frozen 23
  have f3 := hV.frozen 24
  have f4 := hV.frozen 25
  have hE := ((((hV.s_most 0).s_wait 0).s_ended false).s_has []).r
  have hth := isThere_any b w σ.n kn
  clear hV
  by_cases h0 : 0 < σ.n
  · rw [decide_eq_true h0] at hth
    cases h1 : σ.ended with
    | true =>
      have e1 : Hid (σ.ptake = ({ σ with n := 0, wait := 0, ended := false, data := [] }, σ.data, true, 0)) := by show σ.ptake = _; unfold St.ptake; rw [if_pos h0, if_pos h1]
      rw [h1] at ke
      clear h1
      go_enter Tryz.func29, Tryz.ntmps29
      go_wp2_with (go_at_call 48; refine hth.mono ?_; rintro e w' ⟨rfl, hw⟩; subst hw)
      go_ret3
      rw [e1.out]
      exact ⟨rfl, hE⟩
    | false =>
      have e1 : Hid (σ.ptake = (σ, [], false, 0)) := by show σ.ptake = _; unfold St.ptake; rw [if_pos h0, if_neg (by rw [h1]; decide)]
      rw [h1] at ke
      clear h1
      go_enter Tryz.func29, Tryz.ntmps29
      go_wp2_with (go_at_call 48; refine hth.mono ?_; rintro e w' ⟨rfl, hw⟩; subst hw)
      go_ret3
      rw [e1.out]
      exact ⟨rfl, hR⟩
  · rw [decide_eq_false h0] at hth
    have e1 : Hid (σ.ptake = (σ, [], false, 4)) := by show σ.ptake = _; unfold St.ptake; rw [if_neg h0]
    go_enter Tryz.func29, Tryz.ntmps29
    go_wp2_with (go_at_call 48; refine hth.mono ?_; rintro e w' ⟨rfl, hw⟩; subst hw)
    go_ret3
    rw [e1.out]
    exact ⟨rfl, hR⟩

set_option maxHeartbeats 1000000 in
set_option maxRecDepth 100000 in
theorem PRead_any (h : AtP S0 w0 x b σ w) (ok : Inv K σ) (hK : K ≤ 1099511627776) (hw : Well σ) (n : Int) :
    Calls Tryz.prog 28 #[.pointer (some ⟨b, 0, none⟩), .int .i64 n] w fun e w' => e = .returned (.int .i64 (σ.pread n).2) ∧ AtP S0 w0 x b (σ.pread n).1 w' := by
  have hR := h
  obtain ⟨vi, vu, vo, vs, hV⟩ := h
  have kn := hV.c_most
  have ke := hV.c_ended
  have kh := hV.c_has
  have kw := hV.c_wait
  have f1 := hV.frozen 22
  have f2 := hV.frozen 23
  have f3 := hV.frozen 24
  have f4 := hV.frozen 25
  have hE := ((((hV.s_most n).s_wait 0).s_ended false).s_has []).r
  have hth := isThere_any b w σ.n kn
  clear hV
  by_cases hn : n < 1 ∨ 256 < n
  · have e1 : Hid (σ.pread n = (σ, 2)) := by show σ.pread n = _; unfold St.pread; rw [if_pos hn]
    clear hth
    rcases hn with hn | hn
    · go_enter Tryz.func28, Tryz.ntmps28
      go_wp2
      go_ret
      rw [e1.out]
      exact ⟨rfl, hR⟩
    · have hn2 : ¬ n < 1 := by omega
      go_enter Tryz.func28, Tryz.ntmps28
      go_wp2
      go_ret
      rw [e1.out]
      exact ⟨rfl, hR⟩
  · have n1 : ¬ n < 1 := by omega
    have n2 : ¬ 256 < n := by omega
    by_cases h0 : 0 < σ.n
    · rw [decide_eq_true h0] at hth
      have e1 : Hid (σ.pread n = (σ, 3)) := by show σ.pread n = _; unfold St.pread; rw [if_neg hn, if_pos h0]
      clear hn
      go_enter Tryz.func28, Tryz.ntmps28
      go_wp2_with (go_at_call 48; refine hth.mono ?_; rintro e w' ⟨rfl, hw⟩; subst hw)
      go_ret
      rw [e1.out]
      exact ⟨rfl, hR⟩
    · rw [decide_eq_false h0] at hth
      have e1 : Hid (σ.pread n = (({ σ with n := n, wait := 0, ended := false, data := [] } : St).plook, 0)) := by show σ.pread n = _; unfold St.pread; rw [if_neg hn, if_neg h0]
      have ok2 : Inv K ({ σ with n := n, wait := 0, ended := false, data := [] } : St) := ⟨ok.s, ok.c0, ok.c1, ok.out, ok.inq, ok.cells, ok.urg, ok.noted, by simp, by dsimp only; omega, by dsimp only; omega, by simp, ok.k0⟩
      have hw2 : Well ({ σ with n := n, wait := 0, ended := false, data := [] } : St) := hw
      clear hn
      go_enter Tryz.func28, Tryz.ntmps28
      go_wp2_with (first | (go_at_call 48; refine hth.mono ?_; rintro e w' ⟨rfl, hw⟩; subst hw) | (go_at_call 35; refine (look_any S0 w0 x b _ _ K hE ok2 hK hw2).mono ?_; rintro e W2 ⟨rfl, hW2⟩))
      go_ret
      rw [e1.out]
      exact ⟨rfl, hW2⟩
end
end Go.Proofs.YtfnglkhhmplejaaGreat
