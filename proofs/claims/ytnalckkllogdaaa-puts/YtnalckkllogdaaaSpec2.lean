/- The document's answer as plain functions: settings. -/
import Derived.Test.YtnalckkllogdaaaSpec
namespace Go.Clk
open Go
def lim (k : Nat) : Int := if k = 0 then 8192 else if k = 1 then 128 else if k = 2 then 1024 else 256
/-- The settings, of which the first k are new. -/
def partS (ss s : List Int) (k : Nat) : List Int := (List.range 17).map fun i => if i < k then gt s i % lim i else gt ss i
def normS (s : List Int) : List Int := (List.range 17).map fun i => gt s i % lim i
theorem partS_len (ss s : List Int) (k : Nat) : (partS ss s k).length = 17 := by simp [partS]
theorem partS_zero (ss s : List Int) (h : ss.length = 17) : partS ss s 0 = ss := by
  apply List.ext_getElem?
  intro i
  unfold partS
  rw [List.getElem?_map]
  by_cases hi : i < 17
  · rw [List.getElem?_range hi, List.getElem?_eq_getElem (by omega)]
    simp [gt, List.getD, List.getElem?_eq_getElem (show i < ss.length by omega)]
  · rw [List.getElem?_eq_none (by simpa using hi), List.getElem?_eq_none (by omega)]; rfl
theorem partS_set (ss s : List Int) (k : Nat) (hk : k < 17) : (partS ss s k).set k (gt s k % lim k) = partS ss s (k + 1) := by
  apply List.ext_getElem?
  intro i
  rw [List.getElem?_set]
  have hl := partS_len ss s k
  unfold partS at *
  rw [List.getElem?_map, List.getElem?_map]
  by_cases hi : i < 17
  · rw [List.getElem?_range hi]
    by_cases e : k = i
    · subst e; simp [hi]
    · rw [if_neg e]; simp only [Option.map_some, Option.some.injEq]
      by_cases h : i < k
      · rw [if_pos h, if_pos (by omega)]
      · rw [if_neg h, if_neg (by omega)]
  · rw [List.getElem?_eq_none (by simp; omega)]; simp; omega
theorem partS_all (ss s : List Int) : partS ss s 17 = normS s := by
  unfold partS normS
  apply List.map_congr_left
  intro i hi
  rw [if_pos (by simpa using hi)]
theorem partS_get (ss s : List Int) (k i : Nat) (hi : i < 17) : gt (partS ss s k) i = if i < k then gt s i % lim i else gt ss i := by
  unfold partS
  simp [gt, List.getD, List.getElem?_map, List.getElem?_range hi]

/-- What bytes become, and the column behind them. -/
def renderL (f col : Int) (l : List UInt8) : List UInt8 × Int := l.foldl (fun p c => (p.1 ++ become f p.2 c, moves f p.2 (become f p.2 c))) ([], col)
theorem renderL_snoc (f col : Int) (l : List UInt8) (c : UInt8) : renderL f col (l ++ [c]) = ((renderL f col l).1 ++ become f (renderL f col l).2 c, moves f (renderL f col l).2 (become f (renderL f col l).2 c)) := by simp [renderL]
theorem renderL_col (f : Int) {col : Int} (h : 0 ≤ col) (l : List UInt8) : 0 ≤ (renderL f col l).2 ∧ (renderL f col l).2 ≤ col + 64 * l.length ∧ (renderL f col l).1.length ≤ 8 * l.length := by
  suffices H : ∀ (l : List UInt8) (p : List UInt8 × Int), 0 ≤ p.2 → 0 ≤ (l.foldl (fun p c => (p.1 ++ become f p.2 c, moves f p.2 (become f p.2 c))) p).2 ∧
      (l.foldl (fun p c => (p.1 ++ become f p.2 c, moves f p.2 (become f p.2 c))) p).2 ≤ p.2 + 64 * l.length ∧ (l.foldl (fun p c => (p.1 ++ become f p.2 c, moves f p.2 (become f p.2 c))) p).1.length ≤ p.1.length + 8 * l.length by
    have := H l ([], col) h
    simpa [renderL] using this
  intro l
  induction l with
  | nil => intro p h; simp; exact h
  | cons c l ih =>
    intro p h
    have h1 := moves_nonneg f (become f p.2 c) h
    have h2 := become_len f h c
    have h3 := ih (p.1 ++ become f p.2 c, moves f p.2 (become f p.2 c)) h1.1
    simp only [List.foldl_cons, List.length_cons, List.length_append] at *
    omega
theorem putAll_render (l : List UInt8) (σ : St) : σ.putAll l = { σ with out := σ.out ++ (renderL σ.o σ.col l).1, col := (renderL σ.o σ.col l).2 } := by
  suffices H : ∀ (l : List UInt8) (p : List UInt8 × Int) (τ : St), τ = { σ with out := σ.out ++ p.1, col := p.2 } →
      l.foldl St.puts τ = { σ with out := σ.out ++ (l.foldl (fun p c => (p.1 ++ become σ.o p.2 c, moves σ.o p.2 (become σ.o p.2 c))) p).1, col := (l.foldl (fun p c => (p.1 ++ become σ.o p.2 c, moves σ.o p.2 (become σ.o p.2 c))) p).2 } by
    exact H l ([], σ.col) σ (by simp)
  intro l
  induction l with
  | nil => intro p τ h; simpa using h
  | cons c l ih =>
    intro p τ h
    simp only [List.foldl_cons]
    apply ih
    subst h
    simp [St.puts, St.sents, St.o]
end Go.Clk
