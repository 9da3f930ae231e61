/- Walks: the program: its settings; a new one. -/
import Derived.Test.YtfnglkhhmplejaaProg7
import Derived.Test.YtfnglkhhmplejaaBase
import Derived.Test.YtfnglkhhmplejaaBase2
namespace Go.Proofs.Ytfnglkhhmplejaa
open Go Go.RowKit Go.Clk

theorem size_settings : (Try.prog.info? 26).map (·.size) = some 17 := by kernel_rfl
theorem size_terminal : (Try.prog.info? 72).map (·.size) = some 29 := by kernel_rfl
abbrev z17 : List Value := [.int .i64 0, .int .i64 0, .int .i64 0, .int .i64 0, .int .i64 0, .int .i64 0, .int .i64 0, .int .i64 0, .int .i64 0, .int .i64 0, .int .i64 0, .int .i64 0, .int .i64 0, .int .i64 0, .int .i64 0, .int .i64 0, .int .i64 0]

section
variable (S0 : List Nat) (w0 : World) (x : List Nat) (b : Nat) (σ : St) (w : World)

set_option maxHeartbeats 1000000 in
set_option maxRecDepth 100000 in
theorem Get_any (h : AtP S0 w0 x b σ w) :
    Calls Try.prog 10 #[.pointer (some ⟨b, 0, none⟩)] w fun e w' => e = .returned (.agg (i64s σ.ss).toArray) ∧ AtP S0 w0 x b σ w' := by
  obtain ⟨vi, vu, vo, vs, hV⟩ := h
  have hlen : (i64s σ.ss).length = 17 := by rw [i64s_len, hV.1]
  have hi : (Try.prog.info? 26).map (·.size) = some (i64s σ.ss).length := by rw [hlen]; exact size_settings
  have hbk : Blk (w.alloc (.cells z17.toArray 26)) w.heap.size 26 z17 := Blk.new w z17 _
  have hV1 := hV.alloc (.cells z17.toArray 26)
  have hlt := hV.lt
  go_enter Try.func10, Try.ntmps10
  go_wp2_with (first | refine wpList_load_part rfl (.tmp 5) 26 rfl b 0 rfl (i64s σ.ss) _ ?hc Try.underlying26 rfl hi ?next | refine wpList_store_whole rfl (.tmp 2) (.tmp 6) 26 rfl w.heap.size rfl (i64s σ.ss) rfl 26 z17 hbk ?hlen hi (i64s_one _) ?_)
  case hc =>
    intro j v hv
    have hj : j < 17 := by have := (List.getElem?_eq_some_iff.1 hv).1; omega
    have h1 := hV1.2.blk.cell j (v := v) (by rw [List.getElem?_append_left (by omega)]; exact hv)
    rw [Nat.zero_add]
    exact h1
  case hlen => rw [hlen]; rfl
  · intro W hW hG hsz
    go_wp2
    refine bodyPost_ret (v := .agg (i64s σ.ss).toArray) (results_cell_row (P := Try.prog) rfl _ _ w.heap.size 26 (i64s σ.ss).toArray (0, 0) _ rfl hW Try.underlying26 rfl (by simpa using hi)) rfl ⟨rfl, ?_⟩
    exact (hV.same (grownBy_then (World.grownBy_alloc w (.cells z17.toArray 26) none) hG fun g e => by cases e; exact Nat.le_refl _)).r

set_option maxHeartbeats 1000000 in
set_option maxRecDepth 100000 in
theorem first_any : Calls Try.prog 51 #[] w fun e w' => e = .returned (.agg #[.int .i64 640, .int .i64 3, .int .i64 735, .int .i64 3, .int .i64 28, .int .i64 26, .int .i64 127, .int .i64 23, .int .i64 21, .int .i64 4, .int .i64 0, .int .i64 17, .int .i64 19, .int .i64 22, .int .i64 18, .int .i64 1, .int .i64 0]) ∧ w.grownBy w' none := by
  go_enter Try.func51, Try.ntmps51
  go_wp2
  refine bodyPost_ret (v := .agg #[.int .i64 640, .int .i64 3, .int .i64 735, .int .i64 3, .int .i64 28, .int .i64 26, .int .i64 127, .int .i64 23, .int .i64 21, .int .i64 4, .int .i64 0, .int .i64 17, .int .i64 19, .int .i64 22, .int .i64 18, .int .i64 1, .int .i64 0]) (results_cell_row (P := Try.prog) rfl _ _ w.heap.size 26 _ (0, 0) _ rfl (heap_alloc_new w _) Try.underlying26 rfl (by kernel_rfl)) rfl ⟨rfl, World.grownBy_alloc w _ none⟩
set_option maxHeartbeats 1000000 in
set_option maxRecDepth 100000 in
theorem New_any : Calls Try.prog 31 #[] w fun e w' => ∃ b, e = .returned (.pointer (some ⟨b, 0, none⟩)) ∧ AtP [] w [] b newS w' := by
  go_enter Try.func31, Try.ntmps31
  go_wp2_with (go_at_call 51; refine (first_any _).mono ?_; rintro e W ⟨rfl, hW⟩)
  go_ret
  refine ⟨_, rfl, .slice none 0 0, .slice none 0 0, .slice none 0 0, .slice none 0 0, rfl, ?_⟩
  have h1 := AtO.made W (i64s newS.ss ++ ptl newS (.slice none 0 0) (.slice none 0 0) (.slice none 0 0) (.slice none 0 0)) 72 (pfs newS (.slice none 0 0) (.slice none 0 0) (.slice none 0 0) (.slice none 0 0)) (by
    intro k f hf
    have hm := List.mem_of_getElem? hf
    simp only [pfs, List.mem_cons, List.not_mem_nil, or_false] at hm
    rcases hm with rfl | rfl | rfl | rfl <;> exact ⟨rfl, rfl, rfl⟩)
  exact h1.older hW
end
end Go.Proofs.Ytfnglkhhmplejaa
