/- The program's terminal in memory. -/
import Derived.Test.YtnalckkllogdaaaRef0
namespace Go.Proofs.Ytnalckkllogdaaa
open Go Go.RowKit Go.Clk

def pentCells (e : Ent) : List Value := [.int .u8 e.b.toNat, .bool e.file, .bool e.fin, .int .i64 e.cells]
def pents (l : List Ent) : List Value := l.flatMap pentCells
def ptl (σ : St) (vi vu vo : Value) : List Value := [vi, vu, vo, .int .i64 σ.col, .bool σ.stopped, .bool σ.held, .bool σ.quoted]
def pfs (σ : St) (vi vu vo : Value) : List Fld :=
  [⟨103, 4, vi, σ.inq.length, pents σ.inq⟩, ⟨5, 1, vu, σ.urg.length, bys σ.urg⟩, ⟨5, 1, vo, σ.out.length, bys σ.out⟩]
/-- The program's terminal with these values in its slices' cells. -/
def PV (S0 : List Nat) (w0 : World) (x : List Nat) (b : Nat) (σ : St) (vi vu vo : Value) (w : World) : Prop :=
  σ.ss.length = 17 ∧ AtO S0 w0 x b 62 (i64s σ.ss ++ ptl σ vi vu vo) (pfs σ vi vu vo) w
def AtP (S0 : List Nat) (w0 : World) (x : List Nat) (b : Nat) (σ : St) (w : World) : Prop := ∃ vi vu vo, PV S0 w0 x b σ vi vu vo w

section
variable {S0 : List Nat} {w0 w : World} {x : List Nat} {b : Nat} {σ : St} {vi vu vo : Value}
theorem PV.lt (h : PV S0 w0 x b σ vi vu vo w) : b < w.heap.size := h.2.lt
theorem PV.frozen (h : PV S0 w0 x b σ vi vu vo w) (i : Nat) : w.frozen? ⟨b, i, none⟩ = false := h.2.frozen i
theorem PV.head (h : PV S0 w0 x b σ vi vu vo w) (k : Nat) (hk : k < 17) : w.cell? ⟨b, k, none⟩ = some (.int .i64 (gt σ.ss k)) := cell_head h.2 h.1 k hk
theorem PV.ci (h : PV S0 w0 x b σ vi vu vo w) : w.cell? ⟨b, 0, none⟩ = some (.int .i64 σ.i) := h.head 0 (by omega)
theorem PV.co (h : PV S0 w0 x b σ vi vu vo w) : w.cell? ⟨b, 1, none⟩ = some (.int .i64 σ.o) := h.head 1 (by omega)
theorem PV.cl (h : PV S0 w0 x b σ vi vu vo w) : w.cell? ⟨b, 2, none⟩ = some (.int .i64 σ.l) := h.head 2 (by omega)
theorem PV.c17 (h : PV S0 w0 x b σ vi vu vo w) : w.cell? ⟨b, 17, none⟩ = some vi := cell_tail h.2 h.1 0 rfl
theorem PV.c18 (h : PV S0 w0 x b σ vi vu vo w) : w.cell? ⟨b, 18, none⟩ = some vu := cell_tail h.2 h.1 1 rfl
theorem PV.c19 (h : PV S0 w0 x b σ vi vu vo w) : w.cell? ⟨b, 19, none⟩ = some vo := cell_tail h.2 h.1 2 rfl
theorem PV.c20 (h : PV S0 w0 x b σ vi vu vo w) : w.cell? ⟨b, 20, none⟩ = some (.int .i64 σ.col) := cell_tail h.2 h.1 3 rfl
theorem PV.c21 (h : PV S0 w0 x b σ vi vu vo w) : w.cell? ⟨b, 21, none⟩ = some (.bool σ.stopped) := cell_tail h.2 h.1 4 rfl
theorem PV.c22 (h : PV S0 w0 x b σ vi vu vo w) : w.cell? ⟨b, 22, none⟩ = some (.bool σ.held) := cell_tail h.2 h.1 5 rfl
theorem PV.c23 (h : PV S0 w0 x b σ vi vu vo w) : w.cell? ⟨b, 23, none⟩ = some (.bool σ.quoted) := cell_tail h.2 h.1 6 rfl
theorem PV.alloc (h : PV S0 w0 x b σ vi vu vo w) (o : Obj) : PV S0 w0 x b σ vi vu vo (w.alloc o) := ⟨h.1, h.2.alloc o⟩
theorem PV.drew (h : PV S0 w0 x b σ vi vu vo w) : PV S0 w0 x b σ vi vu vo w.drew := ⟨h.1, h.2.drew⟩
theorem PV.r (h : PV S0 w0 x b σ vi vu vo w) : AtP S0 w0 x b σ w := ⟨vi, vu, vo, h⟩
theorem PV.s_col (h : PV S0 w0 x b σ vi vu vo w) (v : Int) : PV S0 w0 x b { σ with col := v } vi vu vo (w.setCell ⟨b, 20, none⟩ (.int .i64 v)) := ⟨h.1, set_tail h.2 h.1 3 _⟩
theorem PV.s_quoted (h : PV S0 w0 x b σ vi vu vo w) (v : Bool) : PV S0 w0 x b { σ with quoted := v } vi vu vo (w.setCell ⟨b, 23, none⟩ (.bool v)) := ⟨h.1, set_tail h.2 h.1 6 _⟩
theorem PV.s_set (h : PV S0 w0 x b σ vi vu vo w) (k : Nat) (hk : k < 17) (v : Int) : PV S0 w0 x b { σ with ss := σ.ss.set k v } vi vu vo (w.setCell ⟨b, k, none⟩ (.int .i64 v)) :=
  ⟨by simp [h.1], set_head h.2 h.1 k hk v⟩
theorem PV.same {w1 : World} (h : PV S0 w0 x b σ vi vu vo w) (hg : w.grownBy w1 none) : PV S0 w0 x b σ vi vu vo w1 :=
  ⟨h.1, h.2.same (h.2.kp.grown hg fun k e => by cases e) hg.size fun k hk _ => hg.block k hk (by simp)⟩
theorem PV.fresh (h : PV S0 w0 x b σ vi vu vo w) {w1 : World} (hg : w.grownBy w1 none) {oc : Option Nat} (ho : oc = none ∨ oc = some w.heap.size ∧ w.heap.size < w1.heap.size) : PV S0 w0 (oc.toList ++ x) b σ vi vu vo w1 := ⟨h.1, h.2.fresh hg ho⟩
theorem PV.boxed (h : PV S0 w0 x b σ vi vu vo w) (o : Obj) : PV S0 w0 (w.heap.size :: x) b σ vi vu vo (w.alloc o) :=
  ⟨h.1, h.2.avoid (h.2.kp.alloc o) (by simp) (fun k hk _ => Below.heap_alloc w o k hk) (Nat.le_refl _) (by simp)⟩
theorem PV.lens_out (h : PV S0 w0 x b σ vi vu vo w) : ∃ o, Sl w 5 1 vo σ.out.length (bys σ.out) o ∧ o ≠ some b ∧ (∀ g, o = some g → g ∉ x) ∧
    ∀ (w1 : World) (v' : Value) (xs : List UInt8) (o' : Option Nat), w.grownBy w1 o → Sl w1 5 1 v' xs.length (bys xs) o' → (o' = none ∨ o' = o ∨ ∃ g, o' = some g ∧ w.heap.size ≤ g) →
      w1.cell? ⟨b, 19, none⟩ = some vo ∧ w1.frozen? ⟨b, 19, none⟩ = false ∧ PV S0 w0 x b { σ with out := xs } vi vu v' (w1.setCell ⟨b, 19, none⟩ v') := by
  obtain ⟨o, h1, h2, h3, _, h5⟩ := h.2.lens 2 rfl
  refine ⟨o, h1, h2, h3, fun w1 v' xs o' hg hs ho => ?_⟩
  have := h5 w1 ⟨_, 1, v', xs.length, bys xs⟩ o' hg hs ho
  exact ⟨cell_tail this h.1 2 rfl, this.frozen _, h.1, set_tail this h.1 2 v'⟩
theorem PV.lens_urg (h : PV S0 w0 x b σ vi vu vo w) : ∃ o, Sl w 5 1 vu σ.urg.length (bys σ.urg) o ∧ o ≠ some b ∧ (∀ g, o = some g → g ∉ x) ∧
    ∀ (w1 : World) (v' : Value) (xs : List UInt8) (o' : Option Nat), w.grownBy w1 o → Sl w1 5 1 v' xs.length (bys xs) o' → (o' = none ∨ o' = o ∨ ∃ g, o' = some g ∧ w.heap.size ≤ g) →
      w1.cell? ⟨b, 18, none⟩ = some vu ∧ w1.frozen? ⟨b, 18, none⟩ = false ∧ PV S0 w0 x b { σ with urg := xs } vi v' vo (w1.setCell ⟨b, 18, none⟩ v') := by
  obtain ⟨o, h1, h2, h3, _, h5⟩ := h.2.lens 1 rfl
  refine ⟨o, h1, h2, h3, fun w1 v' xs o' hg hs ho => ?_⟩
  have := h5 w1 ⟨_, 1, v', xs.length, bys xs⟩ o' hg hs ho
  exact ⟨cell_tail this h.1 1 rfl, this.frozen _, h.1, set_tail this h.1 1 v'⟩
theorem PV.lens_inq (h : PV S0 w0 x b σ vi vu vo w) : ∃ o, Sl w 103 4 vi σ.inq.length (pents σ.inq) o ∧ o ≠ some b ∧ (∀ g, o = some g → g ∉ x) ∧
    ∀ (w1 : World) (v' : Value) (xs : List Ent) (o' : Option Nat), w.grownBy w1 o → Sl w1 103 4 v' xs.length (pents xs) o' → (o' = none ∨ o' = o ∨ ∃ g, o' = some g ∧ w.heap.size ≤ g) →
      w1.cell? ⟨b, 17, none⟩ = some vi ∧ w1.frozen? ⟨b, 17, none⟩ = false ∧ PV S0 w0 x b { σ with inq := xs } v' vu vo (w1.setCell ⟨b, 17, none⟩ v') := by
  obtain ⟨o, h1, h2, h3, _, h5⟩ := h.2.lens 0 rfl
  refine ⟨o, h1, h2, h3, fun w1 v' xs o' hg hs ho => ?_⟩
  have := h5 w1 ⟨_, 4, v', xs.length, pents xs⟩ o' hg hs ho
  exact ⟨cell_tail this h.1 0 rfl, this.frozen _, h.1, set_tail this h.1 0 v'⟩
theorem AtP.kp (h : AtP S0 w0 x b σ w) : Kp S0 w0 w := by obtain ⟨vi, vu, vo, hl, h⟩ := h; exact h.kp
theorem AtP.weaken {y : List Nat} (h : AtP S0 w0 x b σ w) (hy : ∀ g, g ∈ y → g ∈ x) : AtP S0 w0 y b σ w := by
  obtain ⟨vi, vu, vo, hl, h⟩ := h
  exact ⟨vi, vu, vo, hl, h.weaken hy⟩
theorem AtP.rebase (h : AtP S0 w0 x b σ w) : ∃ S, AtP S w x b σ w ∧ (∀ k, k ∈ S → k < w.heap.size) ∧ (∀ g, g ∈ x → g ∉ S) ∧ (∀ k, k ∈ S → k ∈ S0 ∨ w0.heap.size ≤ k) ∧ ∀ σ' w', AtP S w x b σ' w' → AtP S0 w0 x b σ' w' := by
  obtain ⟨vi, vu, vo, hl, h⟩ := h
  obtain ⟨S, h1, h2, h3, h4, h5⟩ := h.rebase
  exact ⟨S, ⟨vi, vu, vo, hl, h1⟩, h2, h3, h4, fun σ' w' ⟨vi', vu', vo', hl', h'⟩ => ⟨vi', vu', vo', hl', h5 _ _ _ h'⟩⟩
end
end Go.Proofs.Ytnalckkllogdaaa
