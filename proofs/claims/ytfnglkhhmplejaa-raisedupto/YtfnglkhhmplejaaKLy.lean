/- Walks: lines beside other things. -/
import Derived.Test.YtfnglkhhmplejaaKL
import Derived.Test.YtfnglkhhmplejaaKeep12
namespace Go.Clk
open Go
theorem Kq.weaken {x y : List Nat} {w w' : World} (h : Kq x w w') (hy : ∀ g, g ∈ y → g ∈ x) : Kq y w w' := by
  obtain ⟨S, h1, h2⟩ := h; exact ⟨S, h1, fun g hg => h2 g (hy g hg)⟩
end Go.Clk
namespace Go.Proofs.Ytfnglkhhmplejaa
open Go Go.RowKit Go.Clk
section
variable {w0 w w' : World} {x y S : List Nat} {b : Nat} {σ : St}
/-- What it keeps clear of turns, and one block may be new. -/
theorem AtT.turn (h : AtT [] w0 x b σ w) (hk : Kp S w w') (hS : ∀ g, g ∈ S → g ∈ x ∧ w0.heap.size ≤ g) (n : Nat) (hy : ∀ g, g ∈ y → g ∈ x ∨ (g = n ∧ w.heap.size ≤ n ∧ n < w'.heap.size)) : AtT [] w0 y b σ w' := by
  obtain ⟨ρ, hs, ⟨vi, vu, vo, vs, h⟩⟩ := h
  have hkp : Kp [] w0 w' := h.2.kp.trans hk fun g hg => .inr (hS g hg).2
  have hb : ∀ k, k < w.heap.size → k ∉ x → w'.heap[k]? = w.heap[k]? := fun k q1 q2 => hk.block k q1 fun hc => q2 (hS k hc).1
  by_cases hn : w.heap.size ≤ n ∧ n < w'.heap.size
  · have h3 := h.2.avoid hkp hk.size hb hn.1 hn.2
    refine ⟨ρ, hs, vi, vu, vo, vs, h.1, h3.weaken fun g hg => ?_⟩
    rcases hy g hg with q | ⟨q, _⟩
    · simp [q]
    · simp [q]
  · have h2 := h.2.same hkp hk.size hb
    refine ⟨ρ, hs, vi, vu, vo, vs, h.1, h2.weaken fun g hg => ?_⟩
    rcases hy g hg with q | ⟨_, q⟩
    · exact q
    · exact absurd q hn
end
/-- A line at L and a list of numbers wv beside it. -/
structure LW (w0 : World) (L : Nat) (o ow : Option Nat) (p : List UInt8) (en fi : Bool) (ns : List Int) (wv : Value) (w : World) : Prop where
  ln : LnAt L o p en fi w
  sl : Sl w 3 1 wv ns.length (i64s ns) ow
  dj : ∀ g, ow = some g → g ≠ L ∧ o ≠ some g
  hL : w0.heap.size ≤ L
  ho : ∀ g, o = some g → w0.heap.size ≤ g
  hw : ∀ g, ow = some g → w0.heap.size ≤ g
abbrev xs3 (L : Nat) (o ow : Option Nat) : List Nat := L :: (o.toList ++ ow.toList)
section
variable {w0 w w' : World} {L : Nat} {o ow o' : Option Nat} {p p' : List UInt8} {en fi en' fi' : Bool} {ns : List Int} {wv : Value} {b : Nat} {σ : St}
theorem LW.kq (h : LW w0 L o ow p en fi ns wv w) (hk : Kq (xs3 L o ow) w w') : LW w0 L o ow p en fi ns wv w' :=
  ⟨h.ln.kq hk (by simp) (fun g e => by simp [e]), hk.sl h.sl (fun g e => by simp [e]), h.dj, h.hL, h.ho, h.hw⟩
theorem LW.drewN (h : LW w0 L o ow p en fi ns wv w) (n : Nat) : LW w0 L o ow p en fi ns wv (w.drewN n) := by
  refine h.kq ⟨[], ⟨rfl, rfl, rfl, Nat.le_refl _, fun _ _ _ => rfl⟩, fun _ _ => by simp⟩
/-- The line turns. -/
theorem LW.line (h : LW w0 L o ow p en fi ns wv w) (hA : AtT [] w0 (xs3 L o ow) b σ w) (hn : LnAt L o' p' en' fi' w') (ht : LnTo L o o' w w') :
    LW w0 L o' ow p' en' fi' ns wv w' ∧ AtT [] w0 (xs3 L o' ow) b σ w' := by
  obtain ⟨hk, ho⟩ := ht
  have hS : ∀ g, g ∈ L :: o.toList → g ∈ xs3 L o ow ∧ w0.heap.size ≤ g := by
    intro g hg
    rcases List.mem_cons.1 hg with rfl | hg
    · exact ⟨by simp, h.hL⟩
    · have : o = some g := by simpa using hg
      exact ⟨by simp [this], h.ho g this⟩
  have hsl := h.sl.kp hk fun g e hc => by
    rcases List.mem_cons.1 hc with q | q
    · exact (h.dj g e).1 q
    · exact (h.dj g e).2 (by simpa using q)
  have hA2 : AtT [] w0 (xs3 L o' ow) b σ w' := by
    rcases ho with rfl | rfl | ⟨n, rfl, n1, n2⟩
    · exact hA.turn hk hS 0 fun g hg => .inl hg
    · exact hA.turn hk hS 0 fun g hg => .inl (by simp at hg; rcases hg with q | q <;> simp [q])
    · refine hA.turn hk hS n fun g hg => ?_
      simp at hg
      rcases hg with q | q | q
      · exact .inl (by simp [q])
      · exact .inr ⟨q.symm ▸ rfl, n1, n2⟩
      · exact .inl (by simp [q])
  refine ⟨⟨hn, hsl, fun g e => ⟨(h.dj g e).1, ?_⟩, h.hL, ?_, h.hw⟩, hA2⟩
  · rcases ho with rfl | rfl | ⟨n, rfl, n1, n2⟩
    · exact (h.dj g e).2
    · simp
    · have := h.sl.lt e
      intro q; cases q; omega
  · rcases ho with rfl | rfl | ⟨n, rfl, n1, n2⟩
    · exact h.ho
    · intro g e; cases e
    · intro g e; cases e; exact Nat.le_trans hA.kp.size n1
/-- A new line. -/
theorem LW.fresh (h : LW w0 L o ow p en fi ns wv w) (hA : AtT [] w0 (xs3 L o ow) b σ w) (W : World) (B : Nat) (hid : B = w.heap.size ∧ W = w.alloc (.cells [Value.slice none 0 0, Value.bool false, Value.bool false].toArray 32)) :
    LW w0 B none ow [] false false ns wv W ∧ AtT [] w0 (xs3 B none ow) b σ W := by
  obtain ⟨rfl, rfl⟩ := hid
  refine ⟨⟨⟨⟨_, Blk.new w _ _, Sl.nil _ _ _⟩, fun g e => by cases e⟩, h.sl.alloc _, (fun g e => ⟨Nat.ne_of_lt (h.sl.lt e), by simp⟩), hA.kp.size, (fun g e => by cases e), h.hw⟩, (hA.boxed _).weaken fun g hg => ?_⟩
  simp at hg
  rcases hg with q | q <;> simp [q]
/-- The list of numbers turns. -/
theorem LW.note (h : LW w0 L o ow p en fi ns wv w) (hA : AtT [] w0 (xs3 L o ow) b σ w) (n : Int) {a' : Option Addr} {cap' : Nat} {w1 : World} {oz : Option Nat} (h1 : Sl w1 3 1 (.slice a' (ns.length + 1) cap') (ns.length + 1) (i64s ns ++ [.int .i64 n]) oz)
    (h2 : (w.alloc (.cells #[.int .i64 n] 3)).grownBy w1 ow) (h3 : oz = ow ∨ oz = some (w.heap.size + 1) ∧ w.heap.size + 1 < w1.heap.size) :
    LW w0 L o oz p en fi (ns ++ [n]) (.slice a' (ns.length + 1) cap') w1 ∧ AtT [] w0 (xs3 L o oz) b σ w1 := by
  have hk0 : Kp ow.toList w (w.alloc (.cells #[.int .i64 n] 3)) := (Kp.refl _ w).alloc _
  have hk1 : Kp ow.toList w w1 := hk0.grown h2 fun k e => .inl (by simp [e])
  have hS : ∀ g, g ∈ ow.toList → g ∈ xs3 L o ow ∧ w0.heap.size ≤ g := fun g hg => by
    have : ow = some g := by simpa using hg
    exact ⟨by simp [this], h.hw g this⟩
  have hln : LnAt L o p en fi w1 := by
    obtain ⟨⟨v, hb, hs⟩, hn⟩ := h.ln
    refine ⟨⟨v, hk1.blk hb fun hc => (h.dj L (by simpa using hc)).1 rfl, hs.kp hk1 fun g e hc => (h.dj g (by simpa using hc)).2 e⟩, hn⟩
  have hLlt := h.ln.lt
  have holt : ∀ g, o = some g → g < w.heap.size := fun g e => by obtain ⟨⟨v, hb, hs⟩, hn⟩ := h.ln; exact hs.lt e
  have hA2 : AtT [] w0 (xs3 L o oz) b σ w1 := by
    rcases h3 with rfl | ⟨rfl, h5⟩
    · exact hA.turn hk1 hS 0 fun g hg => .inl hg
    · refine hA.turn hk1 hS (w.heap.size + 1) fun g hg => ?_
      simp at hg
      rcases hg with q | q | q
      · exact .inl (by simp [q])
      · exact .inl (by simp [q])
      · exact .inr ⟨q.symm ▸ rfl, by omega, h5⟩
  refine ⟨⟨hln, ?_, ?_, h.hL, h.ho, ?_⟩, hA2⟩
  · have e1 : i64s (ns ++ [n]) = i64s ns ++ [.int .i64 n] := by rw [i64s_app]; rfl
    rw [List.length_append, e1]; exact h1
  · intro g e
    rcases h3 with rfl | ⟨rfl, h5⟩
    · exact h.dj g e
    · cases e; exact ⟨by omega, fun q => by have := holt _ q; omega⟩
  · intro g e
    rcases h3 with rfl | ⟨rfl, h5⟩
    · exact h.hw g e
    · cases e; have := hA.kp.size; omega
end
/-- A byte is put behind a line, by hand. -/
theorem LnAt.push {L : Nat} {o : Option Nat} {p : List UInt8} {w : World} (h : LnAt L o p false false w) (c : UInt8) : ∃ a cap, w.cell? ⟨L, 0, none⟩ = some (.slice a p.length cap) ∧ Sl (w.alloc (.cells #[.int .u8 c.toNat] 5)) 5 1 (.slice a p.length cap) p.length (bys p) o ∧
    ∀ a' cap' w1 oz, Sl w1 5 1 (.slice a' (p.length + 1) cap') (p.length + 1) (bys p ++ [.int .u8 c.toNat]) oz → (w.alloc (.cells #[.int .u8 c.toNat] 5)).grownBy w1 o → (oz = o ∨ oz = some (w.heap.size + 1) ∧ w.heap.size + 1 < w1.heap.size) →
      (w1.cell? ⟨L, 0, none⟩ = some (.slice a p.length cap) ∧ w1.frozen? ⟨L, 0, none⟩ = false) ∧ ∃ o', LnAt L o' (p ++ [c]) false false (w1.setCell ⟨L, 0, none⟩ (.slice a' (p.length + 1) cap')) ∧ LnTo L o o' w (w1.setCell ⟨L, 0, none⟩ (.slice a' (p.length + 1) cap')) := by
  obtain ⟨⟨v, hb, hs⟩, hn⟩ := h
  obtain ⟨a, cap, rfl, hl1, hl2⟩ := hs.shape
  have hs' := hs.alloc (.cells #[.int .u8 c.toNat] 5)
  have hb' := hb.alloc (.cells #[.int .u8 c.toNat] 5)
  refine ⟨a, cap, hb.cell 0 rfl, hs', fun a' cap' w1 oz h1 h2 h3 => ?_⟩
  have hk0 : Kp (L :: o.toList) w (w.alloc (.cells #[.int .u8 c.toNat] 5)) := (Kp.refl _ w).alloc _
  have hk1 : Kp (L :: o.toList) w w1 := hk0.grown h2 fun k e => .inl (by simp [e])
  have hL : L < (w.alloc (.cells #[.int .u8 c.toNat] 5)).heap.size := hb'.lt
  have hbl : Blk w1 L 32 [.slice a p.length cap, .bool false, .bool false] := by
    unfold Blk
    rw [h2.block L hL fun e => hn L e.symm rfl]; exact hb'
  have hzn : ∀ g, oz = some g → g ≠ L := by
    intro g e
    rcases h3 with h | ⟨h, _⟩
    · exact hn g (by rw [← h, e])
    · rw [h] at e; cases e; have : L < w.heap.size := hb.lt; omega
  refine ⟨⟨hbl.cell 0 rfl, hbl.frozen 0⟩, oz, ⟨⟨_, hbl.set 0 _, ?_⟩, hzn⟩, hk1.set _ _ (.inl (by simp)), ?_⟩
  · have e1 : bys (p ++ [c]) = bys p ++ [.int .u8 c.toNat] := by rw [bys_app]; rfl
    rw [List.length_append, e1]
    exact h1.set _ _ hzn
  · rcases h3 with h | ⟨h, h5⟩
    · exact .inl h
    · refine .inr (.inr ⟨_, h, by omega, ?_⟩)
      simpa using h5
end Go.Proofs.Ytfnglkhhmplejaa
