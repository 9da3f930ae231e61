/- The program's terminal in memory. (Written by mkProg0.py.) -/
import Derived.Test.YtfnglkhhmplejaaGreatBase2
import Derived.Test.YtfnglkhhmplejaaGreatBase
import Derived.Laws.BitsAllLaws
import Derived.Deep.LoopGhost
namespace Go.Clk
open Go
/-- An entry of the program's. -/
def pentCells (e : Ent) : List Value := [.int .u8 e.b.toNat, .bool e.file, .bool e.fin, .int .i64 e.cells]
def pents (l : List Ent) : List Value := l.flatMap pentCells
theorem pents_len (l : List Ent) : (pents l).length = l.length * 4 := by
  unfold pents
  induction l with
  | nil => rfl
  | cons a l ih => rw [List.flatMap_cons, List.length_append, ih]; simp [pentCells]; omega
theorem pents_app (l k : List Ent) : pents (l ++ k) = pents l ++ pents k := by simp [pents]
theorem pents_one (l : List Ent) : ∀ u ∈ pents l, u.oneCell' = true := by
  intro u hu; obtain ⟨e, _, h⟩ := List.mem_flatMap.1 hu
  simp only [pentCells, List.mem_cons, List.not_mem_nil, or_false] at h
  rcases h with rfl | rfl | rfl | rfl <;> rfl
theorem pents_get (l : List Ent) (q : Nat) (h : q < l.length) (k : Nat) (hk : k < 4) : (pents l)[q * 4 + k]? = (pentCells l[q])[k]? := by
  unfold pents
  induction l generalizing q with
  | nil => simp at h
  | cons a l ih =>
    rw [List.flatMap_cons]
    cases q with
    | zero => rw [List.getElem?_append_left (by simp [pentCells]; omega)]; simp
    | succ q =>
      rw [List.getElem?_append_right (by simp [pentCells]; omega)]
      have : (q + 1) * 4 + k - (pentCells a).length = q * 4 + k := by simp [pentCells]; omega
      rw [this, ih q (by simpa using h)]
      simp
theorem pents_take (l : List Ent) (n : Nat) : pents (l.take n) = (pents l).take (n * 4) := by
  unfold pents
  induction l generalizing n with
  | nil => simp
  | cons a l ih =>
    cases n with
    | zero => simp
    | succ n =>
      rw [List.take_succ_cons, List.flatMap_cons, List.flatMap_cons, ih]
      have : (n + 1) * 4 = (pentCells a).length + n * 4 := by simp [pentCells]; omega
      rw [this, List.take_length_add_append]
theorem pents_drop (l : List Ent) (n : Nat) : pents (l.drop n) = (pents l).drop (n * 4) := by
  unfold pents
  induction l generalizing n with
  | nil => simp
  | cons a l ih =>
    cases n with
    | zero => simp
    | succ n =>
      rw [List.drop_succ_cons, List.flatMap_cons, ih]
      have : (n + 1) * 4 = (pentCells a).length + n * 4 := by simp [pentCells]; omega
      rw [this, List.drop_length_add_append]
theorem pents_set (l : List Ent) : ∀ (q : Nat) (h : q < l.length) (c : Int), pents (l.set q { l[q] with cells := c }) = (pents l).set (q * 4 + 3) (.int .i64 c) := by
  induction l with
  | nil => intro q h; simp at h
  | cons a l ih =>
    intro q h c
    cases q with
    | zero => simp [pents, pentCells]
    | succ q =>
      have h' : q < l.length := by simpa using h
      have e1 := ih q h' c
      have e2 : ∀ (a : Ent) (l : List Ent), pents (a :: l) = pentCells a ++ pents l := fun a l => List.flatMap_cons
      rw [List.set_cons_succ, e2, e2, List.set_append_right _ _ (by simp [pentCells]; omega)]
      congr 1
      have e3 : (q + 1) * 4 + 3 - (pentCells a).length = q * 4 + 3 := by simp [pentCells]; omega
      rw [e3, ← e1]
      simp
end Go.Clk
namespace Go.Proofs.YtfnglkhhmplejaaGreat
open Go Go.RowKit Go.Clk

def ptl (σ : St) (vi vu vo vs : Value) : List Value := [vi, vu, vo, .int .i64 σ.col, .bool σ.stopped, .int .i64 σ.n, .int .i64 σ.wait, .bool σ.ended, .string (str σ.data), vs, .bool σ.held, .bool σ.quoted]
def pfs (σ : St) (vi vu vo vs : Value) : List Fld :=
  [⟨112, 4, vi, σ.inq.length, pents σ.inq⟩, ⟨5, 1, vu, σ.urg.length, bys σ.urg⟩, ⟨5, 1, vo, σ.out.length, bys σ.out⟩, ⟨3, 1, vs, σ.noted.length, i64s σ.noted⟩]
/-- The program's terminal with these values in its slices' cells. -/
def PV (S0 : List Nat) (w0 : World) (x : List Nat) (b : Nat) (σ : St) (vi vu vo vs : Value) (w : World) : Prop :=
  σ.ss.length = 17 ∧ AtO S0 w0 x b 76 (i64s σ.ss ++ ptl σ vi vu vo vs) (pfs σ vi vu vo vs) w
def AtP (S0 : List Nat) (w0 : World) (x : List Nat) (b : Nat) (σ : St) (w : World) : Prop := ∃ vi vu vo vs, PV S0 w0 x b σ vi vu vo vs w

section
variable {S0 : List Nat} {w0 w : World} {x : List Nat} {b : Nat} {σ : St} {vi vu vo vs : Value}
theorem PV.lt (h : PV S0 w0 x b σ vi vu vo vs w) : b < w.heap.size := h.2.lt
theorem PV.frozen (h : PV S0 w0 x b σ vi vu vo vs w) (i : Nat) : w.frozen? ⟨b, i, none⟩ = false := h.2.frozen i
theorem PV.head (h : PV S0 w0 x b σ vi vu vo vs w) (k : Nat) (hk : k < 17) : w.cell? ⟨b, k, none⟩ = some (.int .i64 (gt σ.ss k)) := cell_head h.2 h.1 k hk
theorem PV.ci (h : PV S0 w0 x b σ vi vu vo vs w) : w.cell? ⟨b, 0, none⟩ = some (.int .i64 σ.i) := h.head 0 (by omega)
theorem PV.co (h : PV S0 w0 x b σ vi vu vo vs w) : w.cell? ⟨b, 1, none⟩ = some (.int .i64 σ.o) := h.head 1 (by omega)
theorem PV.cl (h : PV S0 w0 x b σ vi vu vo vs w) : w.cell? ⟨b, 2, none⟩ = some (.int .i64 σ.l) := h.head 2 (by omega)
theorem PV.alloc (h : PV S0 w0 x b σ vi vu vo vs w) (o : Obj) : PV S0 w0 x b σ vi vu vo vs (w.alloc o) := ⟨h.1, h.2.alloc o⟩
theorem PV.drew (h : PV S0 w0 x b σ vi vu vo vs w) : PV S0 w0 x b σ vi vu vo vs w.drew := ⟨h.1, h.2.drew⟩
theorem PV.r (h : PV S0 w0 x b σ vi vu vo vs w) : AtP S0 w0 x b σ w := ⟨vi, vu, vo, vs, h⟩
theorem PV.s_set (h : PV S0 w0 x b σ vi vu vo vs w) (k : Nat) (hk : k < 17) (v : Int) : PV S0 w0 x b { σ with ss := σ.ss.set k v } vi vu vo vs (w.setCell ⟨b, k, none⟩ (.int .i64 v)) :=
  ⟨by simp [h.1], set_head h.2 h.1 k hk v⟩
theorem PV.same {w1 : World} (h : PV S0 w0 x b σ vi vu vo vs w) (hg : w.grownBy w1 none) : PV S0 w0 x b σ vi vu vo vs w1 :=
  ⟨h.1, h.2.same (h.2.kp.grown hg fun k e => by cases e) hg.size fun k hk _ => hg.block k hk (by simp)⟩
theorem PV.fresh (h : PV S0 w0 x b σ vi vu vo vs w) {w1 : World} (hg : w.grownBy w1 none) {oc : Option Nat} (ho : oc = none ∨ oc = some w.heap.size ∧ w.heap.size < w1.heap.size) : PV S0 w0 (oc.toList ++ x) b σ vi vu vo vs w1 := ⟨h.1, h.2.fresh hg ho⟩
theorem PV.local {ol ol' : Option Nat} (h : PV S0 w0 (ol.toList ++ x) b σ vi vu vo vs w) {w1 : World} (hg : w.grownBy w1 ol) (ho : ol' = ol ∨ ol' = some w.heap.size ∧ w.heap.size < w1.heap.size) (hn : ∀ g, ol = some g → w0.heap.size ≤ g) :
    PV S0 w0 (ol'.toList ++ x) b σ vi vu vo vs w1 := ⟨h.1, h.2.local hg ho hn⟩
theorem PV.boxed (h : PV S0 w0 x b σ vi vu vo vs w) (o : Obj) : PV S0 w0 (w.heap.size :: x) b σ vi vu vo vs (w.alloc o) :=
  ⟨h.1, h.2.avoid (h.2.kp.alloc o) (by simp) (fun k hk _ => Below.heap_alloc w o k hk) (Nat.le_refl _) (by simp)⟩
theorem PV.poke (h : PV S0 w0 x b σ vi vu vo vs w) {g : Nat} (hg : g ∈ x) (h0 : w0.heap.size ≤ g) (k : Nat) (v : Value) : PV S0 w0 x b σ vi vu vo vs (w.setCell ⟨g, k, none⟩ v) :=
  ⟨h.1, h.2.same (h.2.kp.set ⟨g, k, none⟩ v (.inr h0)) (by simp) fun j _ hx => heap_setCell_other w ⟨g, k, none⟩ j v fun e => hx (by rw [e]; exact hg)⟩
theorem PV.weaken {y : List Nat} (h : PV S0 w0 x b σ vi vu vo vs w) (hy : ∀ g, g ∈ y → g ∈ x) : PV S0 w0 y b σ vi vu vo vs w := ⟨h.1, h.2.weaken hy⟩
theorem PV.c_in (h : PV S0 w0 x b σ vi vu vo vs w) : w.cell? ⟨b, 17, none⟩ = some (vi) := cell_tail h.2 h.1 0 rfl
theorem PV.lens_in (h : PV S0 w0 x b σ vi vu vo vs w) : ∃ o, Sl w 112 4 vi σ.inq.length (pents σ.inq) o ∧ o ≠ some b ∧ (∀ g, o = some g → g ∉ x) ∧
    ∀ (w1 : World) (v' : Value) (xs : List Ent) (o' : Option Nat), w.grownBy w1 o → Sl w1 112 4 v' xs.length (pents xs) o' → (o' = none ∨ o' = o ∨ ∃ g, o' = some g ∧ w.heap.size ≤ g) →
      w1.cell? ⟨b, 17, none⟩ = some vi ∧ w1.frozen? ⟨b, 17, none⟩ = false ∧ PV S0 w0 x b { σ with inq := xs } v' vu vo vs (w1.setCell ⟨b, 17, none⟩ v') := by
  obtain ⟨o, h1, h2, h3, _, h5⟩ := h.2.lens 0 rfl
  refine ⟨o, h1, h2, h3, fun w1 v' xs o' hg hs ho => ?_⟩
  have := h5 w1 ⟨_, 4, v', xs.length, pents xs⟩ o' hg hs ho
  exact ⟨cell_tail this h.1 0 rfl, this.frozen _, h.1, set_tail this h.1 0 v'⟩
theorem PV.nil_in (h : PV S0 w0 x b σ vi vu vo vs w) : PV S0 w0 x b { σ with inq := [] } (.slice none 0 0) vu vo vs (w.setCell ⟨b, 17, none⟩ (.slice none 0 0)) := by
  obtain ⟨o, _, _, _, h4⟩ := h.lens_in
  exact (h4 w (.slice none 0 0) [] none (grownBy_refl w o) (Sl.nil w _ _) (.inl rfl)).2.2
theorem PV.adopt_in (h : PV S0 w0 x b σ vi vu vo vs w) (v' : Value) (xs : List Ent) (o' : Option Nat) (y : List Nat) (hs' : Sl w 112 4 v' xs.length (pents xs) o') (hg : ∀ g, o' = some g → g ∈ x ∧ (g ∈ S0 ∨ w0.heap.size ≤ g) ∧ g ∉ y) (hy : ∀ z, z ∈ y → z ∈ x) :
    PV S0 w0 y b { σ with inq := xs } v' vu vo vs (w.setCell ⟨b, 17, none⟩ v') := by
  have := h.2.adopt 0 (by simp [pfs]) ⟨_, 4, v', xs.length, pents xs⟩ o' y hs' hg hy
  exact ⟨h.1, set_tail this h.1 0 v'⟩
theorem PV.turn_in (h : PV S0 w0 x b σ vi vu vo vs w) : ∃ o, Sl w 112 4 vi σ.inq.length (pents σ.inq) o ∧ o ≠ some b ∧ (∀ g, o = some g → g ∉ x) ∧
    ∀ (w1 : World) (xs : List Ent), w.grownBy w1 o → Sl w1 112 4 vi xs.length (pents xs) o → PV S0 w0 x b { σ with inq := xs } vi vu vo vs w1 := by
  obtain ⟨o, h1, h2, h3, _, h5⟩ := h.2.lens 0 rfl
  exact ⟨o, h1, h2, h3, fun w1 xs hg hs => ⟨h.1, h5 w1 ⟨_, 4, vi, xs.length, pents xs⟩ o hg hs (.inr (.inl rfl))⟩⟩
theorem PV.give_in (h : PV S0 w0 x b σ vi vu vo vs w) : ∃ o, Sl w 112 4 vi σ.inq.length (pents σ.inq) o ∧
    (∀ g, o = some g → g ≠ b ∧ g ∉ x ∧ (g ∈ S0 ∨ w0.heap.size ≤ g)) ∧ PV S0 w0 (o.toList ++ x) b { σ with inq := [] } (.slice none 0 0) vu vo vs (w.setCell ⟨b, 17, none⟩ (.slice none 0 0)) := by
  obtain ⟨o, h1, h2, h3⟩ := h.2.give 0 rfl
  exact ⟨o, h1, h2, h.1, set_tail h3 h.1 0 _⟩
theorem PV.c_urg (h : PV S0 w0 x b σ vi vu vo vs w) : w.cell? ⟨b, 18, none⟩ = some (vu) := cell_tail h.2 h.1 1 rfl
theorem PV.lens_urg (h : PV S0 w0 x b σ vi vu vo vs w) : ∃ o, Sl w 5 1 vu σ.urg.length (bys σ.urg) o ∧ o ≠ some b ∧ (∀ g, o = some g → g ∉ x) ∧
    ∀ (w1 : World) (v' : Value) (xs : List UInt8) (o' : Option Nat), w.grownBy w1 o → Sl w1 5 1 v' xs.length (bys xs) o' → (o' = none ∨ o' = o ∨ ∃ g, o' = some g ∧ w.heap.size ≤ g) →
      w1.cell? ⟨b, 18, none⟩ = some vu ∧ w1.frozen? ⟨b, 18, none⟩ = false ∧ PV S0 w0 x b { σ with urg := xs } vi v' vo vs (w1.setCell ⟨b, 18, none⟩ v') := by
  obtain ⟨o, h1, h2, h3, _, h5⟩ := h.2.lens 1 rfl
  refine ⟨o, h1, h2, h3, fun w1 v' xs o' hg hs ho => ?_⟩
  have := h5 w1 ⟨_, 1, v', xs.length, bys xs⟩ o' hg hs ho
  exact ⟨cell_tail this h.1 1 rfl, this.frozen _, h.1, set_tail this h.1 1 v'⟩
theorem PV.nil_urg (h : PV S0 w0 x b σ vi vu vo vs w) : PV S0 w0 x b { σ with urg := [] } vi (.slice none 0 0) vo vs (w.setCell ⟨b, 18, none⟩ (.slice none 0 0)) := by
  obtain ⟨o, _, _, _, h4⟩ := h.lens_urg
  exact (h4 w (.slice none 0 0) [] none (grownBy_refl w o) (Sl.nil w _ _) (.inl rfl)).2.2
theorem PV.adopt_urg (h : PV S0 w0 x b σ vi vu vo vs w) (v' : Value) (xs : List UInt8) (o' : Option Nat) (y : List Nat) (hs' : Sl w 5 1 v' xs.length (bys xs) o') (hg : ∀ g, o' = some g → g ∈ x ∧ (g ∈ S0 ∨ w0.heap.size ≤ g) ∧ g ∉ y) (hy : ∀ z, z ∈ y → z ∈ x) :
    PV S0 w0 y b { σ with urg := xs } vi v' vo vs (w.setCell ⟨b, 18, none⟩ v') := by
  have := h.2.adopt 1 (by simp [pfs]) ⟨_, 1, v', xs.length, bys xs⟩ o' y hs' hg hy
  exact ⟨h.1, set_tail this h.1 1 v'⟩
theorem PV.turn_urg (h : PV S0 w0 x b σ vi vu vo vs w) : ∃ o, Sl w 5 1 vu σ.urg.length (bys σ.urg) o ∧ o ≠ some b ∧ (∀ g, o = some g → g ∉ x) ∧
    ∀ (w1 : World) (xs : List UInt8), w.grownBy w1 o → Sl w1 5 1 vu xs.length (bys xs) o → PV S0 w0 x b { σ with urg := xs } vi vu vo vs w1 := by
  obtain ⟨o, h1, h2, h3, _, h5⟩ := h.2.lens 1 rfl
  exact ⟨o, h1, h2, h3, fun w1 xs hg hs => ⟨h.1, h5 w1 ⟨_, 1, vu, xs.length, bys xs⟩ o hg hs (.inr (.inl rfl))⟩⟩
theorem PV.give_urg (h : PV S0 w0 x b σ vi vu vo vs w) : ∃ o, Sl w 5 1 vu σ.urg.length (bys σ.urg) o ∧
    (∀ g, o = some g → g ≠ b ∧ g ∉ x ∧ (g ∈ S0 ∨ w0.heap.size ≤ g)) ∧ PV S0 w0 (o.toList ++ x) b { σ with urg := [] } vi (.slice none 0 0) vo vs (w.setCell ⟨b, 18, none⟩ (.slice none 0 0)) := by
  obtain ⟨o, h1, h2, h3⟩ := h.2.give 1 rfl
  exact ⟨o, h1, h2, h.1, set_tail h3 h.1 1 _⟩
theorem PV.c_out (h : PV S0 w0 x b σ vi vu vo vs w) : w.cell? ⟨b, 19, none⟩ = some (vo) := cell_tail h.2 h.1 2 rfl
theorem PV.lens_out (h : PV S0 w0 x b σ vi vu vo vs w) : ∃ o, Sl w 5 1 vo σ.out.length (bys σ.out) o ∧ o ≠ some b ∧ (∀ g, o = some g → g ∉ x) ∧
    ∀ (w1 : World) (v' : Value) (xs : List UInt8) (o' : Option Nat), w.grownBy w1 o → Sl w1 5 1 v' xs.length (bys xs) o' → (o' = none ∨ o' = o ∨ ∃ g, o' = some g ∧ w.heap.size ≤ g) →
      w1.cell? ⟨b, 19, none⟩ = some vo ∧ w1.frozen? ⟨b, 19, none⟩ = false ∧ PV S0 w0 x b { σ with out := xs } vi vu v' vs (w1.setCell ⟨b, 19, none⟩ v') := by
  obtain ⟨o, h1, h2, h3, _, h5⟩ := h.2.lens 2 rfl
  refine ⟨o, h1, h2, h3, fun w1 v' xs o' hg hs ho => ?_⟩
  have := h5 w1 ⟨_, 1, v', xs.length, bys xs⟩ o' hg hs ho
  exact ⟨cell_tail this h.1 2 rfl, this.frozen _, h.1, set_tail this h.1 2 v'⟩
theorem PV.nil_out (h : PV S0 w0 x b σ vi vu vo vs w) : PV S0 w0 x b { σ with out := [] } vi vu (.slice none 0 0) vs (w.setCell ⟨b, 19, none⟩ (.slice none 0 0)) := by
  obtain ⟨o, _, _, _, h4⟩ := h.lens_out
  exact (h4 w (.slice none 0 0) [] none (grownBy_refl w o) (Sl.nil w _ _) (.inl rfl)).2.2
theorem PV.adopt_out (h : PV S0 w0 x b σ vi vu vo vs w) (v' : Value) (xs : List UInt8) (o' : Option Nat) (y : List Nat) (hs' : Sl w 5 1 v' xs.length (bys xs) o') (hg : ∀ g, o' = some g → g ∈ x ∧ (g ∈ S0 ∨ w0.heap.size ≤ g) ∧ g ∉ y) (hy : ∀ z, z ∈ y → z ∈ x) :
    PV S0 w0 y b { σ with out := xs } vi vu v' vs (w.setCell ⟨b, 19, none⟩ v') := by
  have := h.2.adopt 2 (by simp [pfs]) ⟨_, 1, v', xs.length, bys xs⟩ o' y hs' hg hy
  exact ⟨h.1, set_tail this h.1 2 v'⟩
theorem PV.turn_out (h : PV S0 w0 x b σ vi vu vo vs w) : ∃ o, Sl w 5 1 vo σ.out.length (bys σ.out) o ∧ o ≠ some b ∧ (∀ g, o = some g → g ∉ x) ∧
    ∀ (w1 : World) (xs : List UInt8), w.grownBy w1 o → Sl w1 5 1 vo xs.length (bys xs) o → PV S0 w0 x b { σ with out := xs } vi vu vo vs w1 := by
  obtain ⟨o, h1, h2, h3, _, h5⟩ := h.2.lens 2 rfl
  exact ⟨o, h1, h2, h3, fun w1 xs hg hs => ⟨h.1, h5 w1 ⟨_, 1, vo, xs.length, bys xs⟩ o hg hs (.inr (.inl rfl))⟩⟩
theorem PV.give_out (h : PV S0 w0 x b σ vi vu vo vs w) : ∃ o, Sl w 5 1 vo σ.out.length (bys σ.out) o ∧
    (∀ g, o = some g → g ≠ b ∧ g ∉ x ∧ (g ∈ S0 ∨ w0.heap.size ≤ g)) ∧ PV S0 w0 (o.toList ++ x) b { σ with out := [] } vi vu (.slice none 0 0) vs (w.setCell ⟨b, 19, none⟩ (.slice none 0 0)) := by
  obtain ⟨o, h1, h2, h3⟩ := h.2.give 2 rfl
  exact ⟨o, h1, h2, h.1, set_tail h3 h.1 2 _⟩
theorem PV.c_col (h : PV S0 w0 x b σ vi vu vo vs w) : w.cell? ⟨b, 20, none⟩ = some (.int .i64 σ.col) := cell_tail h.2 h.1 3 rfl
theorem PV.s_col (h : PV S0 w0 x b σ vi vu vo vs w) (v : Int) : PV S0 w0 x b { σ with col := v } vi vu vo vs (w.setCell ⟨b, 20, none⟩ (.int .i64 v)) := ⟨h.1, set_tail h.2 h.1 3 _⟩
theorem PV.c_stopped (h : PV S0 w0 x b σ vi vu vo vs w) : w.cell? ⟨b, 21, none⟩ = some (.bool σ.stopped) := cell_tail h.2 h.1 4 rfl
theorem PV.s_stopped (h : PV S0 w0 x b σ vi vu vo vs w) (v : Bool) : PV S0 w0 x b { σ with stopped := v } vi vu vo vs (w.setCell ⟨b, 21, none⟩ (.bool v)) := ⟨h.1, set_tail h.2 h.1 4 _⟩
theorem PV.c_most (h : PV S0 w0 x b σ vi vu vo vs w) : w.cell? ⟨b, 22, none⟩ = some (.int .i64 σ.n) := cell_tail h.2 h.1 5 rfl
theorem PV.s_most (h : PV S0 w0 x b σ vi vu vo vs w) (v : Int) : PV S0 w0 x b { σ with n := v } vi vu vo vs (w.setCell ⟨b, 22, none⟩ (.int .i64 v)) := ⟨h.1, set_tail h.2 h.1 5 _⟩
theorem PV.c_wait (h : PV S0 w0 x b σ vi vu vo vs w) : w.cell? ⟨b, 23, none⟩ = some (.int .i64 σ.wait) := cell_tail h.2 h.1 6 rfl
theorem PV.s_wait (h : PV S0 w0 x b σ vi vu vo vs w) (v : Int) : PV S0 w0 x b { σ with wait := v } vi vu vo vs (w.setCell ⟨b, 23, none⟩ (.int .i64 v)) := ⟨h.1, set_tail h.2 h.1 6 _⟩
theorem PV.c_ended (h : PV S0 w0 x b σ vi vu vo vs w) : w.cell? ⟨b, 24, none⟩ = some (.bool σ.ended) := cell_tail h.2 h.1 7 rfl
theorem PV.s_ended (h : PV S0 w0 x b σ vi vu vo vs w) (v : Bool) : PV S0 w0 x b { σ with ended := v } vi vu vo vs (w.setCell ⟨b, 24, none⟩ (.bool v)) := ⟨h.1, set_tail h.2 h.1 7 _⟩
theorem PV.c_has (h : PV S0 w0 x b σ vi vu vo vs w) : w.cell? ⟨b, 25, none⟩ = some (.string (str σ.data)) := cell_tail h.2 h.1 8 rfl
theorem PV.s_has (h : PV S0 w0 x b σ vi vu vo vs w) (v : List UInt8) : PV S0 w0 x b { σ with data := v } vi vu vo vs (w.setCell ⟨b, 25, none⟩ (.string (str v))) := ⟨h.1, set_tail h.2 h.1 8 _⟩
theorem PV.c_sig (h : PV S0 w0 x b σ vi vu vo vs w) : w.cell? ⟨b, 26, none⟩ = some (vs) := cell_tail h.2 h.1 9 rfl
theorem PV.lens_sig (h : PV S0 w0 x b σ vi vu vo vs w) : ∃ o, Sl w 3 1 vs σ.noted.length (i64s σ.noted) o ∧ o ≠ some b ∧ (∀ g, o = some g → g ∉ x) ∧
    ∀ (w1 : World) (v' : Value) (xs : List Int) (o' : Option Nat), w.grownBy w1 o → Sl w1 3 1 v' xs.length (i64s xs) o' → (o' = none ∨ o' = o ∨ ∃ g, o' = some g ∧ w.heap.size ≤ g) →
      w1.cell? ⟨b, 26, none⟩ = some vs ∧ w1.frozen? ⟨b, 26, none⟩ = false ∧ PV S0 w0 x b { σ with noted := xs } vi vu vo v' (w1.setCell ⟨b, 26, none⟩ v') := by
  obtain ⟨o, h1, h2, h3, _, h5⟩ := h.2.lens 3 rfl
  refine ⟨o, h1, h2, h3, fun w1 v' xs o' hg hs ho => ?_⟩
  have := h5 w1 ⟨_, 1, v', xs.length, i64s xs⟩ o' hg hs ho
  exact ⟨cell_tail this h.1 9 rfl, this.frozen _, h.1, set_tail this h.1 9 v'⟩
theorem PV.nil_sig (h : PV S0 w0 x b σ vi vu vo vs w) : PV S0 w0 x b { σ with noted := [] } vi vu vo (.slice none 0 0) (w.setCell ⟨b, 26, none⟩ (.slice none 0 0)) := by
  obtain ⟨o, _, _, _, h4⟩ := h.lens_sig
  exact (h4 w (.slice none 0 0) [] none (grownBy_refl w o) (Sl.nil w _ _) (.inl rfl)).2.2
theorem PV.adopt_sig (h : PV S0 w0 x b σ vi vu vo vs w) (v' : Value) (xs : List Int) (o' : Option Nat) (y : List Nat) (hs' : Sl w 3 1 v' xs.length (i64s xs) o') (hg : ∀ g, o' = some g → g ∈ x ∧ (g ∈ S0 ∨ w0.heap.size ≤ g) ∧ g ∉ y) (hy : ∀ z, z ∈ y → z ∈ x) :
    PV S0 w0 y b { σ with noted := xs } vi vu vo v' (w.setCell ⟨b, 26, none⟩ v') := by
  have := h.2.adopt 3 (by simp [pfs]) ⟨_, 1, v', xs.length, i64s xs⟩ o' y hs' hg hy
  exact ⟨h.1, set_tail this h.1 9 v'⟩
theorem PV.turn_sig (h : PV S0 w0 x b σ vi vu vo vs w) : ∃ o, Sl w 3 1 vs σ.noted.length (i64s σ.noted) o ∧ o ≠ some b ∧ (∀ g, o = some g → g ∉ x) ∧
    ∀ (w1 : World) (xs : List Int), w.grownBy w1 o → Sl w1 3 1 vs xs.length (i64s xs) o → PV S0 w0 x b { σ with noted := xs } vi vu vo vs w1 := by
  obtain ⟨o, h1, h2, h3, _, h5⟩ := h.2.lens 3 rfl
  exact ⟨o, h1, h2, h3, fun w1 xs hg hs => ⟨h.1, h5 w1 ⟨_, 1, vs, xs.length, i64s xs⟩ o hg hs (.inr (.inl rfl))⟩⟩
theorem PV.give_sig (h : PV S0 w0 x b σ vi vu vo vs w) : ∃ o, Sl w 3 1 vs σ.noted.length (i64s σ.noted) o ∧
    (∀ g, o = some g → g ≠ b ∧ g ∉ x ∧ (g ∈ S0 ∨ w0.heap.size ≤ g)) ∧ PV S0 w0 (o.toList ++ x) b { σ with noted := [] } vi vu vo (.slice none 0 0) (w.setCell ⟨b, 26, none⟩ (.slice none 0 0)) := by
  obtain ⟨o, h1, h2, h3⟩ := h.2.give 3 rfl
  exact ⟨o, h1, h2, h.1, set_tail h3 h.1 9 _⟩
theorem PV.c_held (h : PV S0 w0 x b σ vi vu vo vs w) : w.cell? ⟨b, 27, none⟩ = some (.bool σ.held) := cell_tail h.2 h.1 10 rfl
theorem PV.s_held (h : PV S0 w0 x b σ vi vu vo vs w) (v : Bool) : PV S0 w0 x b { σ with held := v } vi vu vo vs (w.setCell ⟨b, 27, none⟩ (.bool v)) := ⟨h.1, set_tail h.2 h.1 10 _⟩
theorem PV.c_quo (h : PV S0 w0 x b σ vi vu vo vs w) : w.cell? ⟨b, 28, none⟩ = some (.bool σ.quoted) := cell_tail h.2 h.1 11 rfl
theorem PV.s_quo (h : PV S0 w0 x b σ vi vu vo vs w) (v : Bool) : PV S0 w0 x b { σ with quoted := v } vi vu vo vs (w.setCell ⟨b, 28, none⟩ (.bool v)) := ⟨h.1, set_tail h.2 h.1 11 _⟩
theorem AtP.kp (h : AtP S0 w0 x b σ w) : Kp S0 w0 w := by obtain ⟨vi, vu, vo, vs, hl, h⟩ := h; exact h.kp
theorem AtP.weaken {y : List Nat} (h : AtP S0 w0 x b σ w) (hy : ∀ g, g ∈ y → g ∈ x) : AtP S0 w0 y b σ w := by
  obtain ⟨vi, vu, vo, vs, hl, h⟩ := h
  exact ⟨vi, vu, vo, vs, hl, h.weaken hy⟩
theorem AtP.boxed (h : AtP S0 w0 x b σ w) (o : Obj) : AtP S0 w0 (w.heap.size :: x) b σ (w.alloc o) := by
  obtain ⟨vi, vu, vo, vs, h⟩ := h
  exact ⟨vi, vu, vo, vs, h.boxed o⟩
theorem AtP.rebase (h : AtP S0 w0 x b σ w) : ∃ S, AtP S w x b σ w ∧ (∀ k, k ∈ S → k < w.heap.size) ∧ (∀ g, g ∈ x → g ∉ S) ∧ (∀ k, k ∈ S → k ∈ S0 ∨ w0.heap.size ≤ k) ∧ ∀ σ' w', AtP S w x b σ' w' → AtP S0 w0 x b σ' w' := by
  obtain ⟨vi, vu, vo, vs, hl, h⟩ := h
  obtain ⟨S, h1, h2, h3, h4, h5⟩ := h.rebase
  exact ⟨S, ⟨vi, vu, vo, vs, hl, h1⟩, h2, h3, h4, fun σ' w' ⟨vi', vu', vo', vs', hl', h'⟩ => ⟨vi', vu', vo', vs', hl', h5 _ _ _ h'⟩⟩
end
end Go.Proofs.YtfnglkhhmplejaaGreat
namespace Go.Proofs.YtfnglkhhmplejaaGreat
open Go.RowKit Go.Clk

theorem i64_and_nat (a b : Nat) (ha : a < 9223372036854775808) (hb : b < 9223372036854775808) : bits .and .i64 (a : Int) (b : Int) = ((a &&& b : Nat) : Int) := by
  have hx : a &&& b < 2 ^ 63 := Nat.and_lt_two_pow _ (by omega)
  have e1 : ∀ n : Nat, n < 9223372036854775808 → (BitVec.ofInt 64 (n : Int)).toNat = n := fun n hn => by
    rw [BitVec.ofInt_natCast, BitVec.toNat_ofNat]; exact Nat.mod_eq_of_lt (by omega)
  show IntKind.i64.wrap ((BitVec.ofInt 64 (a : Int) &&& BitVec.ofInt 64 (b : Int)).toNat : Int) = _
  rw [BitVec.toNat_and, e1 a ha, e1 b hb]
  have e2 : ∀ n : Nat, n < 9223372036854775808 → IntKind.i64.wrap (n : Int) = n := fun n hn => by
    simp [IntKind.wrap, IntKind.bits, IntKind.signed]; omega
  exact e2 _ (by omega)
theorem and_pow (a k : Nat) : (a &&& 2 ^ k = 2 ^ k) ↔ a / 2 ^ k % 2 = 1 := by
  rw [nat_bit]
  have hp := Nat.two_pow_pos k
  rcases Nat.mod_two_eq_zero_or_one (a / 2 ^ k) with h | h
  · rw [h]; simp; omega
  · rw [h]; simp
theorem and_or (a p q : Nat) : (a &&& (p ||| q) = p ||| q) ↔ (a &&& p = p) ∧ (a &&& q = q) := by
  constructor
  · intro h
    constructor
    · apply Nat.eq_of_testBit_eq
      intro i
      have := congrArg (fun n => Nat.testBit n i) h
      simp only [Nat.testBit_and, Nat.testBit_or] at this ⊢
      cases h1 : a.testBit i <;> cases h2 : p.testBit i <;> simp_all
    · apply Nat.eq_of_testBit_eq
      intro i
      have := congrArg (fun n => Nat.testBit n i) h
      simp only [Nat.testBit_and, Nat.testBit_or] at this ⊢
      cases h1 : a.testBit i <;> cases h2 : q.testBit i <;> simp_all
  · rintro ⟨h1, h2⟩
    rw [Nat.and_or_distrib_left, h1, h2]
/-- Are these flags all set? -/
def hasB (a n : Int) : Bool := bits BinOp.and IntKind.i64 a n == n
theorem hasB_nat (a : Int) (n : Nat) (h1 : 0 ≤ a) (h2 : a < 8192) (hn : n < 8192) : hasB a (n : Int) = decide (a.toNat &&& n = n) := by
  obtain ⟨A, rfl⟩ := Int.eq_ofNat_of_zero_le h1
  unfold hasB
  rw [i64_and_nat A n (by omega) (by omega), Bool.eq_iff_iff]
  simp
  omega
theorem hasB_pow (a : Int) (k : Nat) (h1 : 0 ≤ a) (h2 : a < 8192) (hk : k < 13) : hasB a ((2 ^ k : Nat) : Int) = bit a ((2 ^ k : Nat) : Int) := by
  have hp : 2 ^ k ≤ 2 ^ 12 := Nat.pow_le_pow_right (by omega) (by omega)
  rw [hasB_nat a (2 ^ k) h1 h2 (by omega)]
  obtain ⟨A, rfl⟩ := Int.eq_ofNat_of_zero_le h1
  unfold bit
  have e : ((A : Int) / ((2 ^ k : Nat) : Int) % 2) = ((A / 2 ^ k % 2 : Nat) : Int) := by simp
  rw [e, Bool.eq_iff_iff]
  simp only [decide_eq_true_eq, beq_iff_eq, Int.toNat_natCast, and_pow]
  omega
theorem hasB_or (a : Int) (p q : Nat) (h1 : 0 ≤ a) (h2 : a < 8192) (hp : p < 8192) (hq : q < 8192) : hasB a ((p ||| q : Nat) : Int) = (hasB a (p : Int) && hasB a (q : Int)) := by
  have hpq : p ||| q < 2 ^ 13 := Nat.or_lt_two_pow (by omega) (by omega)
  rw [hasB_nat a (p ||| q) h1 h2 (by omega), hasB_nat a p h1 h2 hp, hasB_nat a q h1 h2 hq, Bool.eq_iff_iff]
  simp only [decide_eq_true_eq, Bool.and_eq_true, and_or]
theorem has1 (a : Int) (h1 : 0 ≤ a) (h2 : a < 8192) : hasB a 1 = bit a 1 := hasB_pow a 0 h1 h2 (by omega)
theorem has2 (a : Int) (h1 : 0 ≤ a) (h2 : a < 8192) : hasB a 2 = bit a 2 := hasB_pow a 1 h1 h2 (by omega)
theorem has4 (a : Int) (h1 : 0 ≤ a) (h2 : a < 8192) : hasB a 4 = bit a 4 := hasB_pow a 2 h1 h2 (by omega)
theorem has8 (a : Int) (h1 : 0 ≤ a) (h2 : a < 8192) : hasB a 8 = bit a 8 := hasB_pow a 3 h1 h2 (by omega)
theorem has16 (a : Int) (h1 : 0 ≤ a) (h2 : a < 8192) : hasB a 16 = bit a 16 := hasB_pow a 4 h1 h2 (by omega)
theorem has32 (a : Int) (h1 : 0 ≤ a) (h2 : a < 8192) : hasB a 32 = bit a 32 := hasB_pow a 5 h1 h2 (by omega)
theorem has64 (a : Int) (h1 : 0 ≤ a) (h2 : a < 8192) : hasB a 64 = bit a 64 := hasB_pow a 6 h1 h2 (by omega)
theorem has128 (a : Int) (h1 : 0 ≤ a) (h2 : a < 8192) : hasB a 128 = bit a 128 := hasB_pow a 7 h1 h2 (by omega)
theorem has256 (a : Int) (h1 : 0 ≤ a) (h2 : a < 8192) : hasB a 256 = bit a 256 := hasB_pow a 8 h1 h2 (by omega)
theorem has512 (a : Int) (h1 : 0 ≤ a) (h2 : a < 8192) : hasB a 512 = bit a 512 := hasB_pow a 9 h1 h2 (by omega)
theorem has1024 (a : Int) (h1 : 0 ≤ a) (h2 : a < 8192) : hasB a 1024 = bit a 1024 := hasB_pow a 10 h1 h2 (by omega)
theorem has2048 (a : Int) (h1 : 0 ≤ a) (h2 : a < 8192) : hasB a 2048 = bit a 2048 := hasB_pow a 11 h1 h2 (by omega)
theorem has4096 (a : Int) (h1 : 0 ≤ a) (h2 : a < 8192) : hasB a 4096 = bit a 4096 := hasB_pow a 12 h1 h2 (by omega)
theorem has0 (a : Int) (h1 : 0 ≤ a) (h2 : a < 8192) : hasB a 0 = true := by rw [show (0 : Int) = ((0 : Nat) : Int) from rfl, hasB_nat a 0 h1 h2 (by omega)]; simp
theorem has1536 (a : Int) (h1 : 0 ≤ a) (h2 : a < 8192) : hasB a 1536 = (bit a 512 && bit a 1024) := by rw [← has512 a h1 h2, ← has1024 a h1 h2]; exact hasB_or a 512 1024 h1 h2 (by omega) (by omega)
theorem has17 (a : Int) (h1 : 0 ≤ a) (h2 : a < 8192) : hasB a 17 = (bit a 1 && bit a 16) := by rw [← has1 a h1 h2, ← has16 a h1 h2]; exact hasB_or a 1 16 h1 h2 (by omega) (by omega)
theorem has12 (a : Int) (h1 : 0 ≤ a) (h2 : a < 8192) : hasB a 12 = (bit a 4 && bit a 8) := by rw [← has4 a h1 h2, ← has8 a h1 h2]; exact hasB_or a 4 8 h1 h2 (by omega) (by omega)
theorem has140 (a : Int) (h1 : 0 ≤ a) (h2 : a < 8192) : hasB a 140 = ((bit a 4 && bit a 8) && bit a 128) := by rw [← has12 a h1 h2, ← has128 a h1 h2]; exact hasB_or a 12 128 h1 h2 (by omega) (by omega)
theorem has20 (a : Int) (h1 : 0 ≤ a) (h2 : a < 8192) : hasB a 20 = (bit a 4 && bit a 16) := by rw [← has4 a h1 h2, ← has16 a h1 h2]; exact hasB_or a 4 16 h1 h2 (by omega) (by omega)
theorem has34 (a : Int) (h1 : 0 ≤ a) (h2 : a < 8192) : hasB a 34 = (bit a 32 && bit a 2) := by rw [← has32 a h1 h2, ← has2 a h1 h2]; exact hasB_or a 32 2 h1 h2 (by omega) (by omega)
theorem has68 (a : Int) (h1 : 0 ≤ a) (h2 : a < 8192) : hasB a 68 = (bit a 4 && bit a 64) := by rw [← has4 a h1 h2, ← has64 a h1 h2]; exact hasB_or a 4 64 h1 h2 (by omega) (by omega)
theorem has514 (a : Int) (h1 : 0 ≤ a) (h2 : a < 8192) : hasB a 514 = (bit a 2 && bit a 512) := by rw [← has2 a h1 h2, ← has512 a h1 h2]; exact hasB_or a 2 512 h1 h2 (by omega) (by omega)
theorem has518 (a : Int) (h1 : 0 ≤ a) (h2 : a < 8192) : hasB a 518 = ((bit a 2 && bit a 512) && bit a 4) := by rw [← has514 a h1 h2, ← has4 a h1 h2]; exact hasB_or a 514 4 h1 h2 (by omega) (by omega)
set_option maxHeartbeats 400000 in
theorem Has_any (a b : Int) (w : World) :
    Calls Tryz.prog 52 #[.int .i64 a, .int .i64 b] w fun e w' => e = .returned (.bool (hasB a b)) ∧ w' = w := by
  go_enter Tryz.func52, Tryz.ntmps52
  go_wp2
  go_ret
  exact ⟨rfl, rfl⟩
def ctrlB (b : Nat) : Bool := decide (b < 32 ∨ b = 127)
set_option maxHeartbeats 400000 in
theorem ctrl_any (b : Nat) (w : World) :
    Calls Tryz.prog 153 #[.int .u8 b] w fun e w' => e = .returned (.bool (ctrlB b)) ∧ w' = w := by
  go_enter Tryz.func153, Tryz.ntmps153
  go_wp2
  all_goals go_ret
  · rename_i h
    exact ⟨ret_bool (by unfold ctrlB; have h1 : ¬ b < 32 := by omega
                        rw [Bool.eq_iff_iff]; simp [h1]; omega), rfl⟩
  · exact ⟨ret_bool (by unfold ctrlB; simp; omega), rfl⟩
/-- Great letters are small, small ones great. -/
def great (c : UInt8) : UInt8 := if decide (97 ≤ (c.toNat : Int)) && decide ((c.toNat : Int) ≤ 122) then c - 32 else c
def smallC (c : UInt8) : UInt8 := if decide (65 ≤ (c.toNat : Int)) && decide ((c.toNat : Int) ≤ 90) then c + 32 else c
theorem sub32 (c : UInt8) (h : 97 ≤ (c.toNat : Int)) : ((c - 32).toNat : Int) = (c.toNat : Int) - 32 := by
  rw [UInt8.toNat_sub_of_le _ _ (by rw [UInt8.le_iff_toNat_le]; show 32 ≤ _; omega)]
  show ((c.toNat - 32 : Nat) : Int) = _
  omega
theorem add32' (c : UInt8) (h : (c.toNat : Int) ≤ 90) : ((c + 32).toNat : Int) = (c.toNat : Int) + 32 := by
  rw [UInt8.toNat_add]
  have : (32 : UInt8).toNat = 32 := rfl
  omega
set_option maxHeartbeats 400000 in
theorem great_any (c : UInt8) (w : World) :
    Calls Tryz.prog 157 #[.int .u8 c.toNat] w fun e w' => e = .returned (.int .u8 (great c).toNat) ∧ w' = w := by
  have hlt := UInt8.toNat_lt c
  by_cases h1 : 97 ≤ (c.toNat : Int)
  · by_cases h2 : (c.toNat : Int) ≤ 122
    · have HS : Hid (((great c).toNat : Int) = (c.toNat : Int) - 32) := by show ((great c).toNat : Int) = _; unfold great; rw [if_pos (by simp [h1, h2]), sub32 c h1]
      go_enter Tryz.func157, Tryz.ntmps157
      go_wp2
      go_ret
      exact ⟨ret_int (by rw [HS.out]; omega), rfl⟩
    · have HS : Hid (great c = c) := by show great c = c; unfold great; rw [if_neg (by simp [h2])]
      go_enter Tryz.func157, Tryz.ntmps157
      go_wp2
      go_ret
      exact ⟨ret_int (by rw [HS.out]), rfl⟩
  · have HS : Hid (great c = c) := by show great c = c; unfold great; rw [if_neg (by simp [h1])]
    go_enter Tryz.func157, Tryz.ntmps157
    go_wp2
    go_ret
    exact ⟨ret_int (by rw [HS.out]), rfl⟩
set_option maxHeartbeats 400000 in
theorem small_any (c : UInt8) (n : Int) (hn : n = (c.toNat : Int)) (w : World) :
    Calls Tryz.prog 54 #[.int .u8 n] w fun e w' => e = .returned (.int .u8 (smallC c).toNat) ∧ w' = w := by
  subst hn
  have hlt := UInt8.toNat_lt c
  by_cases h1 : 65 ≤ (c.toNat : Int)
  · by_cases h2 : (c.toNat : Int) ≤ 90
    · have HS : Hid (((smallC c).toNat : Int) = (c.toNat : Int) + 32) := by show ((smallC c).toNat : Int) = _; unfold smallC; rw [if_pos (by simp [h1, h2]), add32' c h2]
      go_enter Tryz.func54, Tryz.ntmps54
      go_wp2
      go_ret
      exact ⟨ret_int (by rw [HS.out]; omega), rfl⟩
    · have HS : Hid (smallC c = c) := by show smallC c = c; unfold smallC; rw [if_neg (by simp [h2])]
      go_enter Tryz.func54, Tryz.ntmps54
      go_wp2
      go_ret
      exact ⟨ret_int (by rw [HS.out]), rfl⟩
  · have HS : Hid (smallC c = c) := by show smallC c = c; unfold smallC; rw [if_neg (by simp [h1])]
    go_enter Tryz.func54, Tryz.ntmps54
    go_wp2
    go_ret
    exact ⟨ret_int (by rw [HS.out]), rfl⟩
set_option maxHeartbeats 400000 in
theorem tab_any (c : Int) (w : World) (h0 : 0 ≤ c) (h1 : c < 4611686018427387904) :
    Calls Tryz.prog 159 #[.int .i64 c] w fun e w' => e = .returned (.int .i64 (8 - c % 8)) ∧ w' = w := by
  go_enter Tryz.func159, Tryz.ntmps159
  go_wp2
  go_ret
  exact ⟨rfl, rfl⟩
end Go.Proofs.YtfnglkhhmplejaaGreat
namespace Go.Proofs.YtfnglkhhmplejaaGreat
open Go Go.RowKit Go.Clk

set_option maxHeartbeats 1000000 in
set_option maxRecDepth 100000 in
theorem move_any (f col : Int) (c : UInt8) (n : Int) (hn : n = (c.toNat : Int)) (w : World) (f0 : 0 ≤ f) (f1 : f < 8192) (c0 : 0 ≤ col) (c1 : col < 4611686018427387000) :
    Calls Tryz.prog 145 #[.int .i64 f, .int .i64 col, .int .u8 n] w fun e w' => e = .returned (.int .i64 (moved f col c)) ∧ w' = w := by
  subst hn
  have h17 := has17 f f0 f1
  have hct : ctrlB c.toNat = decide (c.toNat < 32 ∨ c.toNat = 127) := rfl
  go_enter Tryz.func145, Tryz.ntmps145
  go_wp2_with (first | (go_at_call 159; refine (tab_any _ _ (by omega) (by omega)).mono ?_; rintro e w' ⟨rfl, rfl⟩) | (go_at_call 52; refine (Has_any _ _ _).mono ?_; rintro e w' ⟨rfl, rfl⟩) | (go_at_call 153; refine (ctrl_any _ _).mono ?_; rintro e w' ⟨rfl, rfl⟩))
  all_goals go_ret
  all_goals refine ⟨ret_int ?_, rfl⟩
  all_goals
    simp only [beq_iff_eq, beq_eq_false_iff_ne, ne_eq] at *
    unfold moved
  · rw [if_pos (by omega)]; split <;> omega
  · rw [if_pos (by omega)]; split <;> omega
  · rw [if_neg (by omega), if_neg (by omega), if_pos (by omega)]
  · rw [if_neg (by omega), if_pos (by omega)]; omega
  · rw [if_neg (by omega), if_neg (by omega), if_neg (by omega), if_pos (by omega)]; simp [*]
  · rw [if_neg (by omega), if_neg (by omega), if_neg (by omega), if_pos (by omega)]
    rcases ‹bit f 1 = false ∨ bit f 16 = false› with h | h <;> simp [h]
  · rw [if_neg (by omega), if_neg (by omega), if_neg (by omega), if_neg (by omega), if_pos (by omega)]
  · rw [if_neg (by omega), if_neg (by omega), if_neg (by omega), if_neg (by omega), if_neg (by omega)]
end Go.Proofs.YtfnglkhhmplejaaGreat
