/- Walks: the reference's terminal: a new one; it is looked after; its settings. -/
import Derived.Test.YtnalckkllogdaaaRef5
import Derived.BigRegion
import Derived.BigQuiet
import Derived.Deep.QuietTactic
import Derived.Deep.RegionWith
namespace Go.Proofs.Ytnalckkllogdaaa
open Go Go.RowKit Go.Clk

section
variable (S0 : List Nat) (w0 : World) (x : List Nat) (b : Nat) (σ : St) (w : World)

set_option maxHeartbeats 2000000 in
set_option maxRecDepth 100000 in
theorem refNew_any :
    Calls Try.prog 15 #[] w fun e w' => ∃ b, e = .returned (.pointer (some ⟨b, 0, none⟩)) ∧ AtR [] w [] b newS w' := by
  go_enter Try.func15, Try.ntmps15
  go_wp2
  go_ret
  refine ⟨w.heap.size, rfl, .slice none 0 0, .slice none 0 0, .slice none 0 0, .slice none 0 0, .slice none 0 0, rfl, ?_⟩
  exact AtO.made w (i64s newS.ss ++ rtl newS (.slice none 0 0) (.slice none 0 0) (.slice none 0 0) (.slice none 0 0) (.slice none 0 0)) 66 _ (by
    intro k f hf
    match k, hf with
    | 0, hf => cases hf; exact ⟨rfl, rfl, rfl⟩
    | 1, hf => cases hf; exact ⟨rfl, rfl, rfl⟩
    | 2, hf => cases hf; exact ⟨rfl, rfl, rfl⟩
    | 3, hf => cases hf; exact ⟨rfl, rfl, rfl⟩
    | 4, hf => cases hf; exact ⟨rfl, rfl, rfl⟩
    | n + 5, hf => simp [rfs] at hf)

set_option maxHeartbeats 1000000 in
set_option maxRecDepth 100000 in
theorem ends_idle (h : AtR S0 w0 x b σ w) (hr : σ.reads = false) :
    Calls Try.prog 62 #[.pointer (some ⟨b, 0, none⟩)] w fun e w' => e = .returned (.tuple #[]) ∧ AtR S0 w0 x b σ w' := by
  obtain ⟨vi, vo, vu, vn, vd, hV⟩ := h
  have k25 := hV.c25
  go_enter Try.func62, Try.ntmps62
  go_wp2
  refine bodyPost_ret (results_none rfl _ _ _) rfl ?_
  exact ⟨rfl, hV.r⟩
set_option maxHeartbeats 1000000 in
set_option maxRecDepth 100000 in
theorem Look_idle (h : AtR S0 w0 x b σ w) (hr : σ.reads = false) (i0 : 0 ≤ σ.i) (i1 : σ.i < 8192) (hf : bit σ.i 2048 = false) (hh : σ.held = false) :
    Calls Try.prog 46 #[.pointer (some ⟨b, 0, none⟩)] w fun e w' => e = .returned (.tuple #[]) ∧ AtR S0 w0 x b σ w' := by
  go_enter Try.func46, Try.ntmps46
  go_wp2_with fail
  refine (ends_idle S0 w0 x b σ _ h hr).mono ?_
  rintro e W ⟨rfl, vi, vo, vu, vn, vd, hV⟩
  have k0 := hV.ci
  have k22 := hV.c22
  go_wp2_with (go_at_call 63; refine (in_any b σ.i _ _ k0 i0 i1 (by omega) (by omega)).mono ?_; rintro e w' ⟨rfl, rfl⟩)
  go_end0
  exact ⟨rfl, hV.r⟩
end
end Go.Proofs.Ytnalckkllogdaaa
