/- Walks: the program: what was rubbed out is taken off the screen. -/
import Derived.Test.YtfnglkhhmplejaaGreatProg31
namespace Go.Clk
open Go Go.RowKit
section
variable {S0 : List Nat} {w0 w : World} {x : List Nat} {b : Nat} {e : TypeId} {cs : List Value} {fs : List Fld}
/-- The frame begun anew here; what may turn holds cells. -/
theorem AtO.rebase2 (h : AtO S0 w0 x b e cs fs w) : ∃ S, AtO S w x b e cs fs w ∧ (∀ k, k ∈ S → ∃ c t, w.heap[k]? = some (.cells c t (0, 0))) ∧ (∀ g, g ∈ x → g ∉ S) ∧
    ∀ cs' fs' w', AtO S w x b e cs' fs' w' → AtO S0 w0 x b e cs' fs' w' := by
  obtain ⟨os, h, hk, hbS, ht, hx⟩ := h
  have mem : ∀ k, k ∈ b :: os.filterMap id → k = b ∨ ∃ j : Nat, os[j]? = some (some k) := by
    intro k hk
    rcases List.mem_cons.1 hk with h1 | h1
    · exact .inl h1
    · obtain ⟨o, ho, h2⟩ := List.mem_filterMap.1 h1
      simp only [id] at h2
      subst h2
      exact .inr (List.mem_iff_getElem?.1 ho)
  refine ⟨b :: os.filterMap id, ⟨os, h, Kp.refl _ _, .inl (by simp), fun k g hj => .inl ?_, hx⟩, ?_, ?_, ?_⟩
  · exact List.mem_cons_of_mem _ (List.mem_filterMap.2 ⟨some g, List.mem_iff_getElem?.2 ⟨k, hj⟩, rfl⟩)
  · intro k hk
    rcases mem k hk with rfl | ⟨j, hj⟩
    · exact ⟨_, _, h.blk⟩
    · have hjl : j < fs.length := by rw [← h.len]; exact (List.getElem?_eq_some_iff.1 hj).1
      have := h.sl j fs[j] (some k) (List.getElem?_eq_getElem hjl) hj
      rcases this.2 with ⟨_, _, h3⟩ | ⟨g, off, cap, cur, _, h3, h4, _⟩
      · cases h3
      · cases h3; exact ⟨_, _, h4⟩
  · intro g e hc
    rcases mem g hc with h1 | ⟨j, hj⟩
    · exact (hx g e).2.1 h1
    · exact (hx g e).2.2 j hj
  · rintro cs' fs' w' ⟨os', h', hk', hbS', ht', hx'⟩
    have sub : ∀ k, k ∈ b :: os.filterMap id → k ∈ S0 ∨ w0.heap.size ≤ k := fun k hk => by
      rcases mem k hk with rfl | ⟨j, hj⟩
      · exact hbS
      · exact ht j k hj
    exact ⟨os', h', hk.trans hk' sub, hbS, fun k g hg => (ht' k g hg).elim (fun c => sub g c) (fun c => .inr (Nat.le_trans hk.size c)), hx'⟩
/-- What is no cells turns. -/
theorem AtO.turned {w1 : World} {row : Option Nat} (h : AtO S0 w0 x b e cs fs w) (hg : w.grownBy w1 row) (hr : ∀ r, row = some r → w0.heap.size ≤ r ∧ ∃ o : Obj, w.heap[r]? = some o ∧ o.isCells = false) : AtO S0 w0 x b e cs fs w1 := by
  obtain ⟨os, h, hk, hbS, ht, hx⟩ := h
  have hne : ∀ (k : Nat) (c : Array Value) (t : TypeId), w.heap[k]? = some (.cells c t (0, 0)) → w1.heap[k]? = w.heap[k]? := by
    intro k c t hc
    refine hg.block k (Array.getElem?_eq_some_iff.1 hc).1 fun e => ?_
    obtain ⟨_, o, ho, hi⟩ := hr k e.symm
    rw [ho] at hc; cases hc; cases hi
  refine ⟨os, ⟨?_, h.len, fun k f o hf ho => ?_, h.notB, h.inj⟩, hk.grown hg fun k e => .inr (hr k e).1, hbS, ht, fun g e => ⟨Nat.lt_of_lt_of_le (hx g e).1 hg.size, (hx g e).2⟩⟩
  · exact (hne b _ _ h.blk).trans h.blk
  · refine (h.sl k f o hf ho).same fun g e => ?_
    rcases (h.sl k f o hf ho).2 with ⟨_, _, h3⟩ | ⟨g', off, cap, cur, _, h3, h4, _⟩
    · rw [e] at h3; cases h3
    · rw [e] at h3; cases h3; exact hne _ _ _ h4
end
/-- The echoes of these are taken off, one after the other. -/
def offEach (σ : St) (l : List Ent) : St := l.foldl (fun τ e => (τ.put (rubOne e)).1) σ
theorem offEach_snoc (σ : St) (l : List Ent) (e : Ent) : offEach σ (l ++ [e]) = ((offEach σ l).put (rubOne e)).1 := by simp [offEach]
theorem Inv.offEach {K : Int} {σ : St} (h : Inv K σ) (l : List Ent) : Inv K (offEach σ l) := by
  unfold Go.Clk.offEach
  induction l generalizing σ with
  | nil => exact h
  | cons e l ih => exact ih (h.put _)
theorem rubOne_len (e : Ent) (h : e.cells ≤ 128) : (rubOne e).length ≤ 384 := by
  unfold rubOne
  have h1 : ∀ (n : Nat) (l : List UInt8), l.length ≤ 3 → (List.replicate n l).flatten.length ≤ 3 * n := by
    intro n l hl
    induction n with
    | zero => simp
    | succ n ih => rw [List.replicate_succ, List.flatten_cons, List.length_append]; omega
  have h2 := h1 e.cells.toNat (if ((e.b.toNat : Int) == 9) then [(8 : UInt8)] else [8, 32, 8]) (by split <;> simp)
  omega
end Go.Clk
namespace Go.Proofs.YtfnglkhhmplejaaGreat
open Go Go.RowKit Go.Clk Go.Shelf
attribute [local go_sem] Oper.semAt_some
theorem offs_eq (e : Ent) : offs e = rubOne e := rfl
section
variable {S0 : List Nat} {w0 w : World} {x : List Nat} {b : Nat} {σ : St} {ci vi : Value}
theorem AtQ.rebase2 (h : AtQ S0 w0 x b σ ci vi w) : ∃ S, AtQ S w x b σ ci vi w ∧ (∀ k, k ∈ S → ∃ c t, w.heap[k]? = some (.cells c t (0, 0))) ∧ (∀ g, g ∈ x → g ∉ S) ∧ ∀ σ' w', AtQ S w x b σ' ci vi w' → AtQ S0 w0 x b σ' ci vi w' := by
  obtain ⟨vu, vo, vs, hl, h⟩ := h
  obtain ⟨S, h1, h2, h3, h5⟩ := h.rebase2
  exact ⟨S, ⟨vu, vo, vs, hl, h1⟩, h2, h3, fun σ' w' ⟨vu', vo', vs', hl', h'⟩ => ⟨vu', vo', vs', hl', h5 _ _ _ h'⟩⟩
theorem AtQ.turned {w1 : World} {row : Option Nat} (h : AtQ S0 w0 x b σ ci vi w) (hg : w.grownBy w1 row) (hr : ∀ r, row = some r → w0.heap.size ≤ r ∧ ∃ o : Obj, w.heap[r]? = some o ∧ o.isCells = false) : AtQ S0 w0 x b σ ci vi w1 := by
  obtain ⟨vu, vo, vs, hl, h⟩ := h; exact ⟨vu, vo, vs, hl, h.turned hg hr⟩
theorem AtQ.weaken {y : List Nat} (h : AtQ S0 w0 x b σ ci vi w) (hy : ∀ g, g ∈ y → g ∈ x) : AtQ S0 w0 y b σ ci vi w := by
  obtain ⟨vu, vo, vs, hl, h⟩ := h; exact ⟨vu, vo, vs, hl, h.weaken hy⟩
theorem AtQ.boxed (h : AtQ S0 w0 x b σ ci vi w) (o : Obj) : AtQ S0 w0 (w.heap.size :: x) b σ ci vi (w.alloc o) := by
  obtain ⟨vu, vo, vs, hl, h⟩ := h
  exact ⟨vu, vo, vs, hl, h.avoid (h.kp.alloc o) (by simp) (fun k hk _ => Below.heap_alloc w o k hk) (Nat.le_refl _) (by simp)⟩
theorem AtQ.lt (h : AtQ S0 w0 x b σ ci vi w) : b < w.heap.size := by obtain ⟨vu, vo, vs, hl, h⟩ := h; exact h.lt
theorem AtQ.below (h : AtQ S0 w0 x b σ ci vi w) {g : Nat} (hg : g ∈ x) : g < w.heap.size := by obtain ⟨vu, vo, vs, hl, h⟩ := h; exact h.below hg
end
end Go.Proofs.YtfnglkhhmplejaaGreat
