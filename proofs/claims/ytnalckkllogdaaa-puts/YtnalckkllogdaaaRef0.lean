/- The reference's terminal in memory. -/
import Derived.Test.YtnalckkllogdaaaSpec
import Derived.Test.YtnalckkllogdaaaRows
namespace Go.Proofs.Ytnalckkllogdaaa
open Go Go.RowKit Go.Clk

def rtl (σ : St) (vi vo vu vn vd : Value) : List Value :=
  [vi, vo, vu, .int .i64 σ.col, .bool σ.stopped, .bool σ.held, .bool σ.quoted, vn, .bool σ.reads, .bool σ.ended, .int .i64 σ.n, vd, .int .i64 σ.wait]
def rfs (σ : St) (vi vo vu vn vd : Value) : List Fld :=
  [⟨82, 4, vi, σ.inq.length, ents σ.inq⟩, ⟨5, 1, vo, σ.out.length, bys σ.out⟩, ⟨5, 1, vu, σ.urg.length, bys σ.urg⟩, ⟨3, 1, vn, σ.noted.length, i64s σ.noted⟩, ⟨5, 1, vd, σ.data.length, bys σ.data⟩]

/-- The reference's terminal with these values in its slices' cells. -/
def AtV (S0 : List Nat) (w0 : World) (x : List Nat) (b : Nat) (σ : St) (vi vo vu vn vd : Value) (w : World) : Prop :=
  σ.ss.length = 17 ∧ AtO S0 w0 x b 66 (i64s σ.ss ++ rtl σ vi vo vu vn vd) (rfs σ vi vo vu vn vd) w
def AtR (S0 : List Nat) (w0 : World) (x : List Nat) (b : Nat) (σ : St) (w : World) : Prop := ∃ vi vo vu vn vd, AtV S0 w0 x b σ vi vo vu vn vd w

theorem cell_tail {S0 : List Nat} {w0 w : World} {x : List Nat} {b : Nat} {e : TypeId} {ss : List Int} {tl : List Value} {fs : List Fld} (h : AtO S0 w0 x b e (i64s ss ++ tl) fs w) (hl : ss.length = 17) (k : Nat) {v : Value} (hv : tl[k]? = some v) :
    w.cell? ⟨b, 17 + k, none⟩ = some v := by
  refine h.cell (17 + k) ?_
  have : (i64s ss).length = 17 := by rw [i64s_len, hl]
  rw [List.getElem?_append_right (by omega), this, Nat.add_sub_cancel_left, hv]
theorem cell_head {S0 : List Nat} {w0 w : World} {x : List Nat} {b : Nat} {e : TypeId} {ss : List Int} {tl : List Value} {fs : List Fld} (h : AtO S0 w0 x b e (i64s ss ++ tl) fs w) (hl : ss.length = 17) (k : Nat) (hk : k < 17) :
    w.cell? ⟨b, k, none⟩ = some (.int .i64 (gt ss k)) := by
  refine h.cell k ?_
  have : (i64s ss).length = 17 := by rw [i64s_len, hl]
  rw [List.getElem?_append_left (by omega), i64s, List.getElem?_map, List.getElem?_eq_getElem (by rw [hl]; omega)]
  simp [gt, List.getD, List.getElem?_eq_getElem (show k < ss.length by rw [hl]; omega)]
theorem set_tail {S0 : List Nat} {w0 w : World} {x : List Nat} {b : Nat} {e : TypeId} {ss : List Int} {tl : List Value} {fs : List Fld} (h : AtO S0 w0 x b e (i64s ss ++ tl) fs w) (hl : ss.length = 17) (k : Nat) (v : Value) :
    AtO S0 w0 x b e (i64s ss ++ tl.set k v) fs (w.setCell ⟨b, 17 + k, none⟩ v) := by
  have hl : (i64s ss).length = 17 := by rw [i64s_len, hl]
  have := h.set (17 + k) v
  rwa [List.set_append_right _ _ (by omega), hl, Nat.add_sub_cancel_left] at this
theorem set_head {S0 : List Nat} {w0 w : World} {x : List Nat} {b : Nat} {e : TypeId} {ss : List Int} {tl : List Value} {fs : List Fld} (h : AtO S0 w0 x b e (i64s ss ++ tl) fs w) (hl : ss.length = 17) (k : Nat) (hk : k < 17) (n : Int) :
    AtO S0 w0 x b e (i64s (ss.set k n) ++ tl) fs (w.setCell ⟨b, k, none⟩ (.int .i64 n)) := by
  have hl : (i64s ss).length = 17 := by rw [i64s_len, hl]
  have := h.set k (.int .i64 n)
  rw [List.set_append_left _ _ (by omega)] at this
  have e1 : (i64s ss).set k (.int .i64 n) = i64s (ss.set k n) := by simp [i64s, List.map_set]
  rwa [e1] at this

section
variable {S0 : List Nat} {w0 w : World} {x : List Nat} {b : Nat} {σ : St} {vi vo vu vn vd : Value}
theorem AtV.lt (h : AtV S0 w0 x b σ vi vo vu vn vd w) : b < w.heap.size := h.2.lt
theorem AtV.frozen (h : AtV S0 w0 x b σ vi vo vu vn vd w) (i : Nat) : w.frozen? ⟨b, i, none⟩ = false := h.2.frozen i
theorem AtV.head (h : AtV S0 w0 x b σ vi vo vu vn vd w) (k : Nat) (hk : k < 17) : w.cell? ⟨b, k, none⟩ = some (.int .i64 (gt σ.ss k)) := cell_head h.2 h.1 k hk
theorem AtV.ci (h : AtV S0 w0 x b σ vi vo vu vn vd w) : w.cell? ⟨b, 0, none⟩ = some (.int .i64 σ.i) := h.head 0 (by omega)
theorem AtV.co (h : AtV S0 w0 x b σ vi vo vu vn vd w) : w.cell? ⟨b, 1, none⟩ = some (.int .i64 σ.o) := h.head 1 (by omega)
theorem AtV.cl (h : AtV S0 w0 x b σ vi vo vu vn vd w) : w.cell? ⟨b, 2, none⟩ = some (.int .i64 σ.l) := h.head 2 (by omega)
theorem AtV.c17 (h : AtV S0 w0 x b σ vi vo vu vn vd w) : w.cell? ⟨b, 17, none⟩ = some vi := cell_tail h.2 h.1 0 rfl
theorem AtV.c18 (h : AtV S0 w0 x b σ vi vo vu vn vd w) : w.cell? ⟨b, 18, none⟩ = some vo := cell_tail h.2 h.1 1 rfl
theorem AtV.c19 (h : AtV S0 w0 x b σ vi vo vu vn vd w) : w.cell? ⟨b, 19, none⟩ = some vu := cell_tail h.2 h.1 2 rfl
theorem AtV.c20 (h : AtV S0 w0 x b σ vi vo vu vn vd w) : w.cell? ⟨b, 20, none⟩ = some (.int .i64 σ.col) := cell_tail h.2 h.1 3 rfl
theorem AtV.c21 (h : AtV S0 w0 x b σ vi vo vu vn vd w) : w.cell? ⟨b, 21, none⟩ = some (.bool σ.stopped) := cell_tail h.2 h.1 4 rfl
theorem AtV.c22 (h : AtV S0 w0 x b σ vi vo vu vn vd w) : w.cell? ⟨b, 22, none⟩ = some (.bool σ.held) := cell_tail h.2 h.1 5 rfl
theorem AtV.c23 (h : AtV S0 w0 x b σ vi vo vu vn vd w) : w.cell? ⟨b, 23, none⟩ = some (.bool σ.quoted) := cell_tail h.2 h.1 6 rfl
theorem AtV.c24 (h : AtV S0 w0 x b σ vi vo vu vn vd w) : w.cell? ⟨b, 24, none⟩ = some vn := cell_tail h.2 h.1 7 rfl
theorem AtV.c25 (h : AtV S0 w0 x b σ vi vo vu vn vd w) : w.cell? ⟨b, 25, none⟩ = some (.bool σ.reads) := cell_tail h.2 h.1 8 rfl
theorem AtV.c26 (h : AtV S0 w0 x b σ vi vo vu vn vd w) : w.cell? ⟨b, 26, none⟩ = some (.bool σ.ended) := cell_tail h.2 h.1 9 rfl
theorem AtV.c27 (h : AtV S0 w0 x b σ vi vo vu vn vd w) : w.cell? ⟨b, 27, none⟩ = some (.int .i64 σ.n) := cell_tail h.2 h.1 10 rfl
theorem AtV.c28 (h : AtV S0 w0 x b σ vi vo vu vn vd w) : w.cell? ⟨b, 28, none⟩ = some vd := cell_tail h.2 h.1 11 rfl
theorem AtV.c29 (h : AtV S0 w0 x b σ vi vo vu vn vd w) : w.cell? ⟨b, 29, none⟩ = some (.int .i64 σ.wait) := cell_tail h.2 h.1 12 rfl
theorem AtV.alloc (h : AtV S0 w0 x b σ vi vo vu vn vd w) (o : Obj) : AtV S0 w0 x b σ vi vo vu vn vd (w.alloc o) := ⟨h.1, h.2.alloc o⟩
theorem AtV.drewN (h : AtV S0 w0 x b σ vi vo vu vn vd w) (n : Nat) : AtV S0 w0 x b σ vi vo vu vn vd (w.drewN n) := ⟨h.1, h.2.drewN n⟩
theorem AtV.r (h : AtV S0 w0 x b σ vi vo vu vn vd w) : AtR S0 w0 x b σ w := ⟨vi, vo, vu, vn, vd, h⟩
theorem AtV.s_col (h : AtV S0 w0 x b σ vi vo vu vn vd w) (v : Int) : AtV S0 w0 x b { σ with col := v } vi vo vu vn vd (w.setCell ⟨b, 20, none⟩ (.int .i64 v)) := ⟨h.1, set_tail h.2 h.1 3 _⟩
theorem AtV.s_stopped (h : AtV S0 w0 x b σ vi vo vu vn vd w) (v : Bool) : AtV S0 w0 x b { σ with stopped := v } vi vo vu vn vd (w.setCell ⟨b, 21, none⟩ (.bool v)) := ⟨h.1, set_tail h.2 h.1 4 _⟩
theorem AtV.s_held (h : AtV S0 w0 x b σ vi vo vu vn vd w) (v : Bool) : AtV S0 w0 x b { σ with held := v } vi vo vu vn vd (w.setCell ⟨b, 22, none⟩ (.bool v)) := ⟨h.1, set_tail h.2 h.1 5 _⟩
theorem AtV.s_quoted (h : AtV S0 w0 x b σ vi vo vu vn vd w) (v : Bool) : AtV S0 w0 x b { σ with quoted := v } vi vo vu vn vd (w.setCell ⟨b, 23, none⟩ (.bool v)) := ⟨h.1, set_tail h.2 h.1 6 _⟩
theorem AtV.s_set (h : AtV S0 w0 x b σ vi vo vu vn vd w) (k : Nat) (hk : k < 17) (v : Int) : AtV S0 w0 x b { σ with ss := σ.ss.set k v } vi vo vu vn vd (w.setCell ⟨b, k, none⟩ (.int .i64 v)) :=
  ⟨by simp [h.1], set_head h.2 h.1 k hk v⟩
/-- The output queue: what it is, and when it has turned and lies in its cell. -/
theorem AtV.lens_out (h : AtV S0 w0 x b σ vi vo vu vn vd w) : ∃ o, Sl w 5 1 vo σ.out.length (bys σ.out) o ∧ o ≠ some b ∧ (∀ g, o = some g → g ∉ x) ∧
    ∀ (w1 : World) (v' : Value) (xs : List UInt8) (o' : Option Nat), w.grownBy w1 o → Sl w1 5 1 v' xs.length (bys xs) o' → (o' = none ∨ o' = o ∨ ∃ g, o' = some g ∧ w.heap.size ≤ g) →
      w1.cell? ⟨b, 18, none⟩ = some vo ∧ w1.frozen? ⟨b, 18, none⟩ = false ∧ AtV S0 w0 x b { σ with out := xs } vi v' vu vn vd (w1.setCell ⟨b, 18, none⟩ v') := by
  obtain ⟨o, h1, h2, h3, _, h5⟩ := h.2.lens 1 rfl
  refine ⟨o, h1, h2, h3, fun w1 v' xs o' hg hs ho => ?_⟩
  have := h5 w1 ⟨_, 1, v', xs.length, bys xs⟩ o' hg hs ho
  exact ⟨cell_tail this h.1 1 rfl, this.frozen _, h.1, set_tail this h.1 1 v'⟩
theorem AtV.lens_urg (h : AtV S0 w0 x b σ vi vo vu vn vd w) : ∃ o, Sl w 5 1 vu σ.urg.length (bys σ.urg) o ∧ o ≠ some b ∧ (∀ g, o = some g → g ∉ x) ∧
    ∀ (w1 : World) (v' : Value) (xs : List UInt8) (o' : Option Nat), w.grownBy w1 o → Sl w1 5 1 v' xs.length (bys xs) o' → (o' = none ∨ o' = o ∨ ∃ g, o' = some g ∧ w.heap.size ≤ g) →
      w1.cell? ⟨b, 19, none⟩ = some vu ∧ w1.frozen? ⟨b, 19, none⟩ = false ∧ AtV S0 w0 x b { σ with urg := xs } vi vo v' vn vd (w1.setCell ⟨b, 19, none⟩ v') := by
  obtain ⟨o, h1, h2, h3, _, h5⟩ := h.2.lens 2 rfl
  refine ⟨o, h1, h2, h3, fun w1 v' xs o' hg hs ho => ?_⟩
  have := h5 w1 ⟨_, 1, v', xs.length, bys xs⟩ o' hg hs ho
  exact ⟨cell_tail this h.1 2 rfl, this.frozen _, h.1, set_tail this h.1 2 v'⟩
theorem AtV.lens_inq (h : AtV S0 w0 x b σ vi vo vu vn vd w) : ∃ o, Sl w 82 4 vi σ.inq.length (ents σ.inq) o ∧ o ≠ some b ∧ (∀ g, o = some g → g ∉ x) ∧
    ∀ (w1 : World) (v' : Value) (xs : List Ent) (o' : Option Nat), w.grownBy w1 o → Sl w1 82 4 v' xs.length (ents xs) o' → (o' = none ∨ o' = o ∨ ∃ g, o' = some g ∧ w.heap.size ≤ g) →
      w1.cell? ⟨b, 17, none⟩ = some vi ∧ w1.frozen? ⟨b, 17, none⟩ = false ∧ AtV S0 w0 x b { σ with inq := xs } v' vo vu vn vd (w1.setCell ⟨b, 17, none⟩ v') := by
  obtain ⟨o, h1, h2, h3, _, h5⟩ := h.2.lens 0 rfl
  refine ⟨o, h1, h2, h3, fun w1 v' xs o' hg hs ho => ?_⟩
  have := h5 w1 ⟨_, 4, v', xs.length, ents xs⟩ o' hg hs ho
  exact ⟨cell_tail this h.1 0 rfl, this.frozen _, h.1, set_tail this h.1 0 v'⟩
theorem AtR.rebase (h : AtR S0 w0 x b σ w) : ∃ S, AtR S w x b σ w ∧ (∀ k, k ∈ S → k < w.heap.size) ∧ (∀ g, g ∈ x → g ∉ S) ∧ (∀ k, k ∈ S → k ∈ S0 ∨ w0.heap.size ≤ k) ∧ ∀ σ' w', AtR S w x b σ' w' → AtR S0 w0 x b σ' w' := by
  obtain ⟨vi, vo, vu, vn, vd, hl, h⟩ := h
  obtain ⟨S, h1, h2, h3, h4, h5⟩ := h.rebase
  exact ⟨S, ⟨vi, vo, vu, vn, vd, hl, h1⟩, h2, h3, h4, fun σ' w' ⟨vi', vo', vu', vn', vd', hl', h'⟩ => ⟨vi', vo', vu', vn', vd', hl', h5 _ _ _ h'⟩⟩
theorem AtV.fresh (h : AtV S0 w0 x b σ vi vo vu vn vd w) {w1 : World} (hg : w.grownBy w1 none) {oc : Option Nat} (ho : oc = none ∨ oc = some w.heap.size ∧ w.heap.size < w1.heap.size) : AtV S0 w0 (oc.toList ++ x) b σ vi vo vu vn vd w1 := ⟨h.1, h.2.fresh hg ho⟩
theorem AtV.adopt_out (h : AtV S0 w0 x b σ vi vo vu vn vd w) (v' : Value) (xs : List UInt8) (o' : Option Nat) (y : List Nat) (hs' : Sl w 5 1 v' xs.length (bys xs) o') (hg : ∀ g, o' = some g → g ∈ x ∧ (g ∈ S0 ∨ w0.heap.size ≤ g) ∧ g ∉ y) (hy : ∀ z, z ∈ y → z ∈ x) :
    AtV S0 w0 y b { σ with out := xs } vi v' vu vn vd (w.setCell ⟨b, 18, none⟩ v') := by
  have := h.2.adopt 1 (by simp [rfs]) ⟨_, 1, v', xs.length, bys xs⟩ o' y hs' hg hy
  exact ⟨h.1, set_tail this h.1 1 v'⟩
theorem AtV.local {ol ol' : Option Nat} (h : AtV S0 w0 (ol.toList ++ x) b σ vi vo vu vn vd w) {w1 : World} (hg : w.grownBy w1 ol) (ho : ol' = ol ∨ ol' = some w.heap.size ∧ w.heap.size < w1.heap.size) (hn : ∀ g, ol = some g → w0.heap.size ≤ g) :
    AtV S0 w0 (ol'.toList ++ x) b σ vi vo vu vn vd w1 := ⟨h.1, h.2.local hg ho hn⟩
theorem AtV.boxed (h : AtV S0 w0 x b σ vi vo vu vn vd w) (o : Obj) : AtV S0 w0 (w.heap.size :: x) b σ vi vo vu vn vd (w.alloc o) :=
  ⟨h.1, h.2.avoid (h.2.kp.alloc o) (by simp) (fun k hk _ => Below.heap_alloc w o k hk) (Nat.le_refl _) (by simp)⟩
theorem AtR.boxed (h : AtR S0 w0 x b σ w) (o : Obj) : AtR S0 w0 (w.heap.size :: x) b σ (w.alloc o) := by
  obtain ⟨vi, vo, vu, vn, vd, h⟩ := h
  exact ⟨vi, vo, vu, vn, vd, h.boxed o⟩
theorem AtR.weaken {y : List Nat} (h : AtR S0 w0 x b σ w) (hy : ∀ g, g ∈ y → g ∈ x) : AtR S0 w0 y b σ w := by
  obtain ⟨vi, vo, vu, vn, vd, hl, h⟩ := h
  exact ⟨vi, vo, vu, vn, vd, hl, h.weaken hy⟩
theorem AtR.kp (h : AtR S0 w0 x b σ w) : Kp S0 w0 w := by obtain ⟨vi, vo, vu, vn, vd, hl, h⟩ := h; exact h.kp
end
end Go.Proofs.Ytnalckkllogdaaa
