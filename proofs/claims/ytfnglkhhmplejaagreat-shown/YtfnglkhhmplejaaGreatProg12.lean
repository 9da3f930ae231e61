/- Walks: the program: Status. -/
import Derived.Test.YtfnglkhhmplejaaGreatProg13
import Derived.Test.YtfnglkhhmplejaaGreatBase2
import Derived.Deep.RegionHeld
namespace Go.Proofs.YtfnglkhhmplejaaGreat
open Go Go.RowKit Go.Clk

section
variable (S0 : List Nat) (w0 : World) (x : List Nat) (b : Nat) (σ : St) (w : World)

set_option maxHeartbeats 400000 in
theorem Len_any (a : Option Addr) (n cap : Nat) (h : w.cell? ⟨b, 19, none⟩ = some (.slice a n cap)) :
    Calls Tryz.prog 37 #[.pointer (some ⟨b, 18, none⟩)] w fun e w' => e = .returned (.int .i64 n) ∧ w = w' := by
  go_enter Tryz.func37, Tryz.ntmps37
  go_wp2
  go_ret
  exact ⟨rfl, rfl⟩
set_option maxHeartbeats 400000 in
theorem Stopped_any (q : Bool) (h : w.cell? ⟨b, 21, none⟩ = some (.bool q)) :
    Calls Tryz.prog 39 #[.pointer (some ⟨b, 18, none⟩)] w fun e w' => e = .returned (.bool q) ∧ w = w' := by
  go_enter Tryz.func39, Tryz.ntmps39
  go_wp2
  go_ret
  exact ⟨rfl, rfl⟩

set_option maxHeartbeats 4000000 in
set_option maxRecDepth 100000 in
theorem PStatus_any (h : AtP S0 w0 x b σ w) :
    Calls Tryz.prog 20 #[.pointer (some ⟨b, 0, none⟩)] w fun e w' => e = .returned (statusV σ) ∧ AtP S0 w0 x b σ w' := by
  obtain ⟨vi, vu, vo, vs, hV⟩ := h
  obtain ⟨oi, hsi, _, _, _⟩ := hV.lens_in
  obtain ⟨ai, ci, rfl, _, _⟩ := hsi.shape
  obtain ⟨oo, hso, _, _, _⟩ := hV.lens_out
  obtain ⟨ao, co, rfl, _, _⟩ := hso.shape
  have k17 := hV.c_in
  have k19 := hV.c_out
  have k20 := hV.c_col
  have k21 := hV.c_stopped
  have k22 := hV.c_held
  have k23 := hV.c_quo
  have hlt := hV.lt
  clear hsi hso
  go_enter Tryz.func20, Tryz.ntmps20
  have hne : w.heap.size ≠ b := by omega
  go_wp2
  go_region_held (fun w' => w'.cell? ⟨b, 17, none⟩ = some (.slice ai σ.inq.length ci) ∧ w'.cell? ⟨b, 19, none⟩ = some (.slice ao σ.out.length co) ∧ w'.cell? ⟨b, 20, none⟩ = some (.int .i64 σ.col) ∧ w'.cell? ⟨b, 21, none⟩ = some (.bool σ.stopped) ∧ w'.cell? ⟨b, 27, none⟩ = some (.bool σ.held) ∧ w'.cell? ⟨b, 28, none⟩ = some (.bool σ.quoted)) (go_keep) (first
    | (go_at_call 37; refine (Len_any b _ ao σ.out.length co ?_).mono ?_; (simp [*]); rintro e w' ⟨rfl, rfl⟩)
    | (go_at_call 38; refine (Column_any b _ σ.col ?_).mono ?_; (simp [*]); rintro e w' ⟨rfl, rfl⟩)
    | (go_at_call 39; refine (Stopped_any b _ σ.stopped ?_).mono ?_; (simp [*]); rintro e w' ⟨rfl, rfl⟩))
  all_goals go_wp2
  all_goals refine bodyPost_ret (v := statusV σ) (by simp [results, Tryz.results20, go_sem, statusV]) rfl ⟨rfl, ?_⟩
  all_goals exact (PV.drew (hV.alloc _)).r
end
end Go.Proofs.YtfnglkhhmplejaaGreat
