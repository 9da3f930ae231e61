/- Walks: the reference's terminal: how it stands; a new one. -/
import Derived.Test.YtfnglkhhmplejaaGreatRef5
import Derived.BigRegion
import Derived.BigQuiet
import Derived.Deep.QuietTactic
import Derived.Deep.RegionWith
import Derived.Test.YtfnglkhhmplejaaGreatBase2
namespace Go.Proofs.YtfnglkhhmplejaaGreat
open Go Go.RowKit Go.Clk

theorem AtV.drew {S0 : List Nat} {w0 w : World} {x : List Nat} {b : Nat} {σ : St} {vi vo vu vn vd : Value} (h : AtV S0 w0 x b σ vi vo vu vn vd w) : AtV S0 w0 x b σ vi vo vu vn vd w.drew := ⟨h.1, h.2.drew⟩

section
variable (S0 : List Nat) (w0 : World) (x : List Nat) (b : Nat) (σ : St) (w : World)

set_option maxHeartbeats 2000000 in
set_option maxRecDepth 100000 in
theorem Status_any (h : AtR S0 w0 x b σ w) :
    Calls Tryz.prog 99 #[.pointer (some ⟨b, 0, none⟩)] w fun e w' => e = .returned (statusV σ) ∧ AtR S0 w0 x b σ w' := by
  obtain ⟨vi, vo, vu, vn, vd, hV⟩ := h
  obtain ⟨oi, hsi, _, _, _⟩ := hV.lens_inq
  obtain ⟨ai, ci, rfl, _, _⟩ := hsi.shape
  obtain ⟨oo, hso, _, _, _⟩ := hV.lens_out
  obtain ⟨ao, co, rfl, _, _⟩ := hso.shape
  have k17 := hV.c17
  have k18 := hV.c18
  have k20 := hV.c20
  have k21 := hV.c21
  have k22 := hV.c22
  have k23 := hV.c23
  have hlt := hV.lt
  clear hsi hso
  go_enter Tryz.func99, Tryz.ntmps99
  go_wp2
  go_region
  go_wp2
  refine bodyPost_ret (v := statusV σ) (by simp [results, Tryz.results99, go_sem, statusV]) rfl ⟨rfl, ?_⟩
  exact (AtV.drew (hV.alloc _)).r
end
end Go.Proofs.YtfnglkhhmplejaaGreat
