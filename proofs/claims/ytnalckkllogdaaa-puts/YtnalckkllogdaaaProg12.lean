/- Walks: the program: Status. -/
import Derived.Test.YtnalckkllogdaaaProg11
import Derived.Test.YtnalckkllogdaaaRef6
import Derived.Deep.RegionHeld
namespace Go.Proofs.Ytnalckkllogdaaa
open Go Go.RowKit Go.Clk

section
variable (S0 : List Nat) (w0 : World) (x : List Nat) (b : Nat) (σ : St) (w : World)

set_option maxHeartbeats 400000 in
theorem Len_any (a : Option Addr) (n cap : Nat) (h : w.cell? ⟨b, 19, none⟩ = some (.slice a n cap)) :
    Calls Try.prog 40 #[.pointer (some ⟨b, 18, none⟩)] w fun e w' => e = .returned (.int .i64 n) ∧ w = w' := by
  go_enter Try.func40, Try.ntmps40
  go_wp2
  go_ret
  exact ⟨rfl, rfl⟩
set_option maxHeartbeats 400000 in
theorem Column_any (n : Int) (h : w.cell? ⟨b, 20, none⟩ = some (.int .i64 n)) :
    Calls Try.prog 69 #[.pointer (some ⟨b, 18, none⟩)] w fun e w' => e = .returned (.int .i64 n) ∧ w = w' := by
  go_enter Try.func69, Try.ntmps69
  go_wp2
  go_ret
  exact ⟨rfl, rfl⟩
set_option maxHeartbeats 400000 in
theorem Stopped_any (q : Bool) (h : w.cell? ⟨b, 21, none⟩ = some (.bool q)) :
    Calls Try.prog 70 #[.pointer (some ⟨b, 18, none⟩)] w fun e w' => e = .returned (.bool q) ∧ w = w' := by
  go_enter Try.func70, Try.ntmps70
  go_wp2
  go_ret
  exact ⟨rfl, rfl⟩

set_option maxHeartbeats 4000000 in
set_option maxRecDepth 100000 in
theorem PStatus_any (h : AtP S0 w0 x b σ w) :
    Calls Try.prog 51 #[.pointer (some ⟨b, 0, none⟩)] w fun e w' => e = .returned (statusV σ) ∧ AtP S0 w0 x b σ w' := by
  obtain ⟨vi, vu, vo, hV⟩ := h
  obtain ⟨oi, hsi, _, _, _⟩ := hV.lens_inq
  obtain ⟨ai, ci, rfl, _, _⟩ := hsi.shape
  obtain ⟨oo, hso, _, _, _⟩ := hV.lens_out
  obtain ⟨ao, co, rfl, _, _⟩ := hso.shape
  have k17 := hV.c17
  have k19 := hV.c19
  have k20 := hV.c20
  have k21 := hV.c21
  have k22 := hV.c22
  have k23 := hV.c23
  have hlt := hV.lt
  clear hsi hso
  go_enter Try.func51, Try.ntmps51
  have hne : w.heap.size ≠ b := by omega
  go_wp2
  go_region_held (fun w' => w'.cell? ⟨b, 17, none⟩ = some (.slice ai σ.inq.length ci) ∧ w'.cell? ⟨b, 19, none⟩ = some (.slice ao σ.out.length co) ∧ w'.cell? ⟨b, 20, none⟩ = some (.int .i64 σ.col) ∧ w'.cell? ⟨b, 21, none⟩ = some (.bool σ.stopped) ∧ w'.cell? ⟨b, 22, none⟩ = some (.bool σ.held) ∧ w'.cell? ⟨b, 23, none⟩ = some (.bool σ.quoted)) (go_keep) (first
    | (go_at_call 40; refine (Len_any b _ ao σ.out.length co ?_).mono ?_; (simp [*]); rintro e w' ⟨rfl, rfl⟩)
    | (go_at_call 69; refine (Column_any b _ σ.col ?_).mono ?_; (simp [*]); rintro e w' ⟨rfl, rfl⟩)
    | (go_at_call 70; refine (Stopped_any b _ σ.stopped ?_).mono ?_; (simp [*]); rintro e w' ⟨rfl, rfl⟩))
  all_goals go_wp2
  all_goals refine bodyPost_ret (v := statusV σ) (by simp [results, Try.results51, go_sem, statusV]) rfl ⟨rfl, ?_⟩
  all_goals exact (PV.drew (hV.alloc _)).r
end
end Go.Proofs.Ytnalckkllogdaaa
