/- Walks: the program: the other side is held, or let go. -/
import Derived.Test.YtfnglkhhmplejaaGreatProg20
import Derived.Test.YtfnglkhhmplejaaGreatBase2
namespace Go.Proofs.YtfnglkhhmplejaaGreat
open Go Go.RowKit Go.Clk

section
variable (S0 : List Nat) (w0 : World) (x : List Nat) (b : Nat) (σ : St) (w : World) (K : Int)

set_option maxHeartbeats 1000000 in
set_option maxRecDepth 100000 in
theorem phold_any (h : AtP S0 w0 x b σ w) (ok : Inv K σ) (hK : K ≤ 1099511627776) :
    Calls Tryz.prog 59 #[.pointer (some ⟨b, 0, none⟩)] w fun e w' => e = .returned (.tuple #[]) ∧ AtP S0 w0 x b σ.hold w' := by
  obtain ⟨vi, vu, vo, vs, hV⟩ := h
  obtain ⟨oi, hsi, _, _, _⟩ := hV.lens_in
  obtain ⟨ai, ci, rfl, hl1, hl2⟩ := hsi.shape
  have k0 := hV.ci
  have kq := hV.c_in
  have kh := hV.c_held
  have fh := hV.frozen 27
  have hR := hV.r
  have hT := (hV.s_held true).r
  have hF := (hV.s_held false).r
  have oT := ok.held_ true
  have oF := ok.held_ false
  have i0 := ok.ok.i0; have i1 := ok.ok.i1
  have a2048 := has2048 σ.i i0 i1
  have HH : Hid (σ.hold = if σ.I 2048 && (!σ.held && decide (192 ≤ σ.inq.length)) then ({ σ with held := true } : St).urge 9 else if σ.held && (!σ.I 2048 || decide (σ.inq.length ≤ 64)) then ({ σ with held := false } : St).urge 8 else σ) := rfl
  have hil := ok.inq
  clear hV hsi ok i0 i1
  cases hI : bit σ.i 2048 with
  | true =>
    rw [hI] at a2048
    have HI : Hid (σ.I 2048 = true) := hI
    clear hI
    cases hh : σ.held with
    | true =>
      rw [hh] at kh
      by_cases hlo : σ.inq.length ≤ 64
      · have e1 : Hid (σ.hold = ({ σ with held := false } : St).urge 8) := by show σ.hold = _; rw [HH.out, HI.out, hh]; simp [hlo]
        have hlo' : (σ.inq.length : Int) ≤ 64 := by omega
        clear HH hh hT oT hR hlo
        go_enter Tryz.func59, Tryz.ntmps59
        go_wp2_with (first | (go_at_call 52; refine (Has_any _ _ _).mono ?_; rintro e w' ⟨rfl, hw⟩; subst hw) | (go_at_call 86; refine (purge_any S0 w0 x b _ _ K hF oF hK 8 (by omega) _ rfl).mono ?_; rintro e W ⟨rfl, hW⟩))
        go_end0
        exact ⟨rfl, by rw [e1.out]; exact hW⟩
      · have e1 : Hid (σ.hold = σ) := by show σ.hold = _; rw [HH.out, HI.out, hh]; simp [hlo]
        have hlo' : ¬ (σ.inq.length : Int) ≤ 64 := by omega
        clear HH hh hT oT hF oF hlo
        go_enter Tryz.func59, Tryz.ntmps59
        go_wp2_with (go_at_call 52; refine (Has_any _ _ _).mono ?_; rintro e w' ⟨rfl, hw⟩; subst hw)
        go_end0
        exact ⟨rfl, by rw [e1.out]; exact hR⟩
    | false =>
      rw [hh] at kh
      by_cases hhi : 192 ≤ σ.inq.length
      · have e1 : Hid (σ.hold = ({ σ with held := true } : St).urge 9) := by show σ.hold = _; rw [HH.out, HI.out, hh]; simp [hhi]
        have hhi' : 192 ≤ (σ.inq.length : Int) := by omega
        clear HH hh hF oF hR hhi
        go_enter Tryz.func59, Tryz.ntmps59
        go_wp2_with (first | (go_at_call 52; refine (Has_any _ _ _).mono ?_; rintro e w' ⟨rfl, hw⟩; subst hw) | (go_at_call 86; refine (purge_any S0 w0 x b _ _ K hT oT hK 9 (by omega) _ rfl).mono ?_; rintro e W ⟨rfl, hW⟩))
        go_end0
        exact ⟨rfl, by rw [e1.out]; exact hW⟩
      · have e1 : Hid (σ.hold = σ) := by show σ.hold = _; rw [HH.out, HI.out, hh]; simp [hhi]
        have hhi' : ¬ 192 ≤ (σ.inq.length : Int) := by omega
        clear HH hh hT oT hF oF hhi
        go_enter Tryz.func59, Tryz.ntmps59
        go_wp2_with (go_at_call 52; refine (Has_any _ _ _).mono ?_; rintro e w' ⟨rfl, hw⟩; subst hw)
        go_end0
        exact ⟨rfl, by rw [e1.out]; exact hR⟩
  | false =>
    rw [hI] at a2048
    have HI : Hid (σ.I 2048 = false) := hI
    clear hI
    cases hh : σ.held with
    | true =>
      rw [hh] at kh
      have e1 : Hid (σ.hold = ({ σ with held := false } : St).urge 8) := by show σ.hold = _; rw [HH.out, HI.out, hh]; simp
      clear HH hh hT oT hR
      go_enter Tryz.func59, Tryz.ntmps59
      go_wp2_with (first | (go_at_call 52; refine (Has_any _ _ _).mono ?_; rintro e w' ⟨rfl, hw⟩; subst hw) | (go_at_call 86; refine (purge_any S0 w0 x b _ _ K hF oF hK 8 (by omega) _ rfl).mono ?_; rintro e W ⟨rfl, hW⟩))
      all_goals go_end0
      all_goals exact ⟨rfl, by rw [e1.out]; exact hW⟩
    | false =>
      rw [hh] at kh
      have e1 : Hid (σ.hold = σ) := by show σ.hold = _; rw [HH.out, HI.out, hh]; simp
      clear HH hh hT oT hF oF
      go_enter Tryz.func59, Tryz.ntmps59
      go_wp2_with (go_at_call 52; refine (Has_any _ _ _).mono ?_; rintro e w' ⟨rfl, hw⟩; subst hw)
      go_end0
      exact ⟨rfl, by rw [e1.out]; exact hR⟩
end
end Go.Proofs.YtfnglkhhmplejaaGreat
