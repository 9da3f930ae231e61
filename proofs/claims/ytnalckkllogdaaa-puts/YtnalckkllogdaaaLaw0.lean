/- The law's world: terminals side by side, each with blocks of a colour of its own. -/
import Derived.Test.YtnalckkllogdaaaProg0
namespace Go.Proofs.Ytnalckkllogdaaa
open Go Go.RowKit Go.Clk

/-- From w to w' only blocks of the colour i have turned. -/
structure Tn (c : Nat → Nat) (i : Nat) (w w' : World) : Prop where
  os : w'.os = w.os
  tape : w'.tape = w.tape
  output : w'.output = w.output
  size : w.heap.size ≤ w'.heap.size
  block : ∀ k, k < w.heap.size → c k ≠ i → w'.heap[k]? = w.heap[k]?

/-- New blocks get the colour i. -/
def recol (w : World) (c : Nat → Nat) (i : Nat) : Nat → Nat := fun k => if k < w.heap.size then c k else i
theorem recol_old {w : World} {c : Nat → Nat} {i k : Nat} (h : k < w.heap.size) : recol w c i k = c k := if_pos h
theorem recol_new {w : World} {c : Nat → Nat} {i k : Nat} (h : w.heap.size ≤ k) : recol w c i k = i := if_neg (by omega)

/-- An object with blocks of the colour i alone. -/
def OO (w : World) (c : Nat → Nat) (i b : Nat) (e : TypeId) (cs : List Value) (fs : List Fld) : Prop := ∃ S, AtO S w [] b e cs fs w ∧ ∀ k, k ∈ S → k < w.heap.size ∧ c k = i

theorem AtO.here {S : List Nat} {w0 w : World} {b : Nat} {e : TypeId} {cs : List Value} {fs : List Fld} (h : AtO S w0 [] b e cs fs w) {c : Nat → Nat} {i : Nat} (hS : ∀ k, k ∈ S → k < w0.heap.size ∧ c k = i) : OO w (recol w0 c i) i b e cs fs := by
  obtain ⟨T, h1, h2, _, h4, _⟩ := h.rebase
  refine ⟨T, h1, fun k hk => ⟨h2 k hk, ?_⟩⟩
  rcases h4 k hk with h | h
  · rw [recol_old (hS k h).1]; exact (hS k h).2
  · exact recol_new h
theorem AtO.turned {S : List Nat} {w0 w : World} {b : Nat} {e : TypeId} {cs : List Value} {fs : List Fld} (h : AtO S w0 [] b e cs fs w) {c : Nat → Nat} {i : Nat} (hS : ∀ k, k ∈ S → k < w0.heap.size ∧ c k = i) : Tn c i w0 w :=
  ⟨h.kp.os, h.kp.tape, h.kp.output, h.kp.size, fun k hk hc => h.kp.block k hk fun hm => hc (hS k hm).2⟩
/-- It stays where another colour turns. -/
theorem OO.stay {w w' : World} {c c' : Nat → Nat} {i b : Nat} {e : TypeId} {cs : List Value} {fs : List Fld} (h : OO w c i b e cs fs) (hs : w.heap.size ≤ w'.heap.size) (hb : ∀ k, k < w.heap.size → c k = i → w'.heap[k]? = w.heap[k]?) (hc : ∀ k, k < w.heap.size → c' k = c k) : OO w' c' i b e cs fs := by
  obtain ⟨S, ⟨os, h1, _, hbS, ht, _⟩, hS⟩ := h
  have lt : ∀ j g, os[j]? = some (some g) → g < w.heap.size := fun j g hj => by
    have hjl : j < fs.length := by rw [← h1.len]; exact (List.getElem?_eq_some_iff.1 hj).1
    exact (h1.sl j fs[j] (some g) (List.getElem?_eq_getElem hjl) hj).lt rfl
  have inS : ∀ j g, os[j]? = some (some g) → g ∈ S := fun j g hj => (ht j g hj).resolve_right (by have := lt j g hj; omega)
  have bS : b ∈ S := hbS.resolve_right (by have := h1.blk.lt; omega)
  refine ⟨S, ⟨os, ⟨?_, h1.len, fun k f o hf ho => (h1.sl k f o hf ho).same fun g e => ?_, h1.notB, h1.inj⟩, Kp.refl _ _, .inl bS, fun k g hg => .inl (inS k g hg), fun g hg => by cases hg⟩, fun k hk => ⟨Nat.lt_of_lt_of_le (hS k hk).1 hs, by rw [hc k (hS k hk).1]; exact (hS k hk).2⟩⟩
  · unfold Blk; rw [hb b h1.blk.lt (hS b bS).2]; exact h1.blk
  · have hg : os[k]? = some (some g) := by rw [ho, e]
    exact hb g (lt k g hg) (hS g (inS k g hg)).2

/-- The program's terminal, in the colour i; the reference's. -/
def OP (w : World) (c : Nat → Nat) (i b : Nat) (σ : St) : Prop := ∃ S, AtP S w [] b σ w ∧ ∀ k, k ∈ S → k < w.heap.size ∧ c k = i
def OR (w : World) (c : Nat → Nat) (i b : Nat) (σ : St) : Prop := ∃ S, AtR S w [] b σ w ∧ ∀ k, k ∈ S → k < w.heap.size ∧ c k = i

section
variable {w w' : World} {c c' : Nat → Nat} {i b : Nat} {σ σ' : St}
theorem OP.stay (h : OP w c i b σ) (hs : w.heap.size ≤ w'.heap.size) (hb : ∀ k, k < w.heap.size → c k = i → w'.heap[k]? = w.heap[k]?) (hc : ∀ k, k < w.heap.size → c' k = c k) : OP w' c' i b σ := by
  obtain ⟨S, ⟨vi, vu, vo, hl, h⟩, hS⟩ := h
  obtain ⟨T, h1, h2⟩ := OO.stay ⟨S, h, hS⟩ hs hb hc
  exact ⟨T, ⟨vi, vu, vo, hl, h1⟩, h2⟩
theorem OR.stay (h : OR w c i b σ) (hs : w.heap.size ≤ w'.heap.size) (hb : ∀ k, k < w.heap.size → c k = i → w'.heap[k]? = w.heap[k]?) (hc : ∀ k, k < w.heap.size → c' k = c k) : OR w' c' i b σ := by
  obtain ⟨S, ⟨vi, vo, vu, vn, vd, hl, h⟩, hS⟩ := h
  obtain ⟨T, h1, h2⟩ := OO.stay ⟨S, h, hS⟩ hs hb hc
  exact ⟨T, ⟨vi, vo, vu, vn, vd, hl, h1⟩, h2⟩
/-- What a call does to it, by a contract that holds whatever the frame. -/
theorem OP.call {P : Program} {f : FuncId} {args : Array Value} {R : Ending → St → Prop} (h : OP w c i b σ) (hf : ∀ S0 w0, AtP S0 w0 [] b σ w → Calls P f args w fun e w' => ∃ σ', R e σ' ∧ AtP S0 w0 [] b σ' w') :
    Calls P f args w fun e w' => ∃ σ', R e σ' ∧ OP w' (recol w c i) i b σ' ∧ Tn c i w w' := by
  obtain ⟨S, h1, hS⟩ := h
  refine (hf S w h1).mono ?_
  rintro e w' ⟨σ', hR, vi, vu, vo, hl, h2⟩
  obtain ⟨T, h3, h4⟩ := AtO.here h2 hS
  exact ⟨σ', hR, ⟨T, ⟨vi, vu, vo, hl, h3⟩, h4⟩, AtO.turned h2 hS⟩
theorem OR.call {P : Program} {f : FuncId} {args : Array Value} {R : Ending → St → Prop} (h : OR w c i b σ) (hf : ∀ S0 w0, AtR S0 w0 [] b σ w → Calls P f args w fun e w' => ∃ σ', R e σ' ∧ AtR S0 w0 [] b σ' w') :
    Calls P f args w fun e w' => ∃ σ', R e σ' ∧ OR w' (recol w c i) i b σ' ∧ Tn c i w w' := by
  obtain ⟨S, h1, hS⟩ := h
  refine (hf S w h1).mono ?_
  rintro e w' ⟨σ', hR, vi, vo, vu, vn, vd, hl, h2⟩
  obtain ⟨T, h3, h4⟩ := AtO.here h2 hS
  exact ⟨σ', hR, ⟨T, ⟨vi, vo, vu, vn, vd, hl, h3⟩, h4⟩, AtO.turned h2 hS⟩
end

def pairCells (ps : List (Nat × Nat × St)) : List Value := ps.flatMap fun p => [.pointer (some ⟨p.1, 0, none⟩), .pointer (some ⟨p.2.1, 0, none⟩)]
theorem pairCells_len (ps : List (Nat × Nat × St)) : (pairCells ps).length = ps.length * 2 := by
  unfold pairCells
  induction ps with
  | nil => rfl
  | cons a l ih => rw [List.flatMap_cons, List.length_append, ih]; simp; omega

/-- The law's world: the struct lies in the block wb, its pairs are ps; all of it is newer than W0. -/
structure Wd (I : St → Prop) (W0 : World) (wb : Nat) (ps : List (Nat × Nat × St)) (c : Nat → Nat) (w : World) : Prop where
  kp : Kp [] W0 w
  old : ∀ k, k < W0.heap.size → c k = 1
  pv : ∃ pa cap po, Blk w wb 30 [.slice pa ps.length cap, .int .i64 0, .slice none 0 0, .slice none 0 0] ∧ Sl w 42 2 (.slice pa ps.length cap) ps.length (pairCells ps) po ∧ po ≠ some wb ∧ ∀ g, po = some g → c g = 0
  cb : c wb = 0
  t : ∀ (i bt br : Nat) (σ : St), ps[i]? = some (bt, br, σ) → OP w c (2 * i + 2) bt σ ∧ OR w c (2 * i + 3) br σ ∧ I σ
end Go.Proofs.Ytnalckkllogdaaa
