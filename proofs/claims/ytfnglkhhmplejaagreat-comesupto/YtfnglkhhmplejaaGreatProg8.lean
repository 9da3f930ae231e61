/- Walks: the program: its settings; a new one. -/
import Derived.Test.YtfnglkhhmplejaaGreatP5
import Derived.Test.YtfnglkhhmplejaaGreatBase
import Derived.Test.YtfnglkhhmplejaaGreatBase2
namespace Go.Proofs.YtfnglkhhmplejaaGreat
open Go Go.RowKit Go.Clk

theorem size_settings : (Tryz.prog.info? 29).map (·.size) = some 17 := by kernel_rfl
theorem size_terminal : (Tryz.prog.info? 76).map (·.size) = some 29 := by kernel_rfl
abbrev z17 : List Value := [.int .i64 0, .int .i64 0, .int .i64 0, .int .i64 0, .int .i64 0, .int .i64 0, .int .i64 0, .int .i64 0, .int .i64 0, .int .i64 0, .int .i64 0, .int .i64 0, .int .i64 0, .int .i64 0, .int .i64 0, .int .i64 0, .int .i64 0]

section
variable (S0 : List Nat) (w0 : World) (x : List Nat) (b : Nat) (σ : St) (w : World)

set_option maxHeartbeats 1000000 in
set_option maxRecDepth 100000 in
theorem Get_any (h : AtP S0 w0 x b σ w) :
    Calls Tryz.prog 11 #[.pointer (some ⟨b, 0, none⟩)] w fun e w' => e = .returned (.agg (i64s σ.ss).toArray) ∧ AtP S0 w0 x b σ w' := by
  obtain ⟨vi, vu, vo, vs, hV⟩ := h
  have hlen : (i64s σ.ss).length = 17 := by rw [i64s_len, hV.1]
  have hi : (Tryz.prog.info? 29).map (·.size) = some (i64s σ.ss).length := by rw [hlen]; exact size_settings
  have hbk : Blk (w.alloc (.cells z17.toArray 29)) w.heap.size 29 z17 := Blk.new w z17 _
  have hV1 := hV.alloc (.cells z17.toArray 29)
  have hlt := hV.lt
  go_enter Tryz.func11, Tryz.ntmps11
  go_wp2_with (first | refine wpList_load_part rfl (.tmp 5) 29 rfl b 0 rfl (i64s σ.ss) _ ?hc Tryz.underlying29 rfl hi ?next | refine wpList_store_whole rfl (.tmp 2) (.tmp 6) 29 rfl w.heap.size rfl (i64s σ.ss) rfl 29 z17 hbk ?hlen hi (i64s_one _) ?_)
  case hc =>
    intro j v hv
    have hj : j < 17 := by have := (List.getElem?_eq_some_iff.1 hv).1; omega
    have h1 := hV1.2.blk.cell j (v := v) (by rw [List.getElem?_append_left (by omega)]; exact hv)
    rw [Nat.zero_add]
    exact h1
  case hlen => rw [hlen]; rfl
  · intro W hW hG hsz
    go_wp2
    refine bodyPost_ret (v := .agg (i64s σ.ss).toArray) (results_cell_row (P := Tryz.prog) rfl _ _ w.heap.size 29 (i64s σ.ss).toArray (0, 0) _ rfl hW Tryz.underlying29 rfl (by simpa using hi)) rfl ⟨rfl, ?_⟩
    exact (hV.same (grownBy_then (World.grownBy_alloc w (.cells z17.toArray 29) none) hG fun g e => by cases e; exact Nat.le_refl _)).r

set_option maxHeartbeats 1000000 in
set_option maxRecDepth 100000 in
theorem first_any : Calls Tryz.prog 46 #[] w fun e w' => e = .returned (.agg #[.int .i64 640, .int .i64 3, .int .i64 735, .int .i64 3, .int .i64 28, .int .i64 26, .int .i64 127, .int .i64 23, .int .i64 21, .int .i64 4, .int .i64 0, .int .i64 17, .int .i64 19, .int .i64 22, .int .i64 18, .int .i64 1, .int .i64 0]) ∧ w.grownBy w' none := by
  go_enter Tryz.func46, Tryz.ntmps46
  go_wp2
  refine bodyPost_ret (v := .agg #[.int .i64 640, .int .i64 3, .int .i64 735, .int .i64 3, .int .i64 28, .int .i64 26, .int .i64 127, .int .i64 23, .int .i64 21, .int .i64 4, .int .i64 0, .int .i64 17, .int .i64 19, .int .i64 22, .int .i64 18, .int .i64 1, .int .i64 0]) (results_cell_row (P := Tryz.prog) rfl _ _ w.heap.size 29 _ (0, 0) _ rfl (heap_alloc_new w _) Tryz.underlying29 rfl (by kernel_rfl)) rfl ⟨rfl, World.grownBy_alloc w _ none⟩
set_option maxHeartbeats 1000000 in
set_option maxRecDepth 100000 in
theorem New_any : Calls Tryz.prog 26 #[] w fun e w' => ∃ b, e = .returned (.pointer (some ⟨b, 0, none⟩)) ∧ AtP [] w [] b newS w' := by
  go_enter Tryz.func26, Tryz.ntmps26
  go_wp2_with (go_at_call 46; refine (first_any _).mono ?_; rintro e W ⟨rfl, hW⟩)
  go_ret
  refine ⟨_, rfl, .slice none 0 0, .slice none 0 0, .slice none 0 0, .slice none 0 0, rfl, ?_⟩
  have h1 := AtO.made W (i64s newS.ss ++ ptl newS (.slice none 0 0) (.slice none 0 0) (.slice none 0 0) (.slice none 0 0)) 76 (pfs newS (.slice none 0 0) (.slice none 0 0) (.slice none 0 0) (.slice none 0 0)) (by
    intro k f hf
    have hm := List.mem_of_getElem? hf
    simp only [pfs, List.mem_cons, List.not_mem_nil, or_false] at hm
    rcases hm with rfl | rfl | rfl | rfl <;> exact ⟨rfl, rfl, rfl⟩)
  exact h1.older hW
end
end Go.Proofs.YtfnglkhhmplejaaGreat
