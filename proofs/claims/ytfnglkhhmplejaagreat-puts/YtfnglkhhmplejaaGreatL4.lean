/- The law's world: its pairs, the lists that came out; what it keeps through a step. -/
import Derived.Test.YtfnglkhhmplejaaGreatL0
import Derived.Deep.MidRow
import Derived.Test.YtfnglkhhmplejaaGreatR7
import Derived.Test.YtfnglkhhmplejaaGreatBase
import Derived.Deep.RegionLaw
import Derived.Test.YtfnglkhhmplejaaGreatR0
import Derived.Deep.RegionHeld
namespace Go.Proofs.YtfnglkhhmplejaaGreat
open Go Go.RowKit Go.Clk

def pairCells (ps : List (Nat × Nat × St)) : List Value := ps.flatMap fun p => [.pointer (some ⟨p.1, 0, none⟩), .pointer (some ⟨p.2.1, 0, none⟩)]
theorem pairCells_len (ps : List (Nat × Nat × St)) : (pairCells ps).length = ps.length * 2 := by
  unfold pairCells
  induction ps with
  | nil => rfl
  | cons a l ih => rw [List.flatMap_cons, List.length_append, ih]; simp; omega
theorem pairCells_snoc (ps : List (Nat × Nat × St)) (bt br : Nat) (σ : St) : pairCells (ps ++ [(bt, br, σ)]) = pairCells ps ++ [.pointer (some ⟨bt, 0, none⟩), .pointer (some ⟨br, 0, none⟩)] := by
  simp [pairCells]
theorem pairCells_at : ∀ (ps : List (Nat × Nat × St)) (i : Nat) {bt br : Nat} {σ : St}, ps[i]? = some (bt, br, σ) → (pairCells ps)[i * 2]? = some (.pointer (some ⟨bt, 0, none⟩)) ∧ (pairCells ps)[i * 2 + 1]? = some (.pointer (some ⟨br, 0, none⟩))
  | [], i, _, _, _, h => by simp at h
  | (a, b, s) :: r, 0, _, _, _, h => by
    simp at h; obtain ⟨rfl, rfl, rfl⟩ := h
    exact ⟨rfl, rfl⟩
  | (a, b, s) :: r, i + 1, _, _, _, h => by
    have := pairCells_at r i (by simpa using h)
    have e : pairCells ((a, b, s) :: r) = .pointer (some ⟨a, 0, none⟩) :: .pointer (some ⟨b, 0, none⟩) :: pairCells r := rfl
    rw [e, show (i + 1) * 2 = i * 2 + 1 + 1 by omega, List.getElem?_cons_succ, List.getElem?_cons_succ, List.getElem?_cons_succ, List.getElem?_cons_succ]
    exact this
theorem pairCells_set (ps : List (Nat × Nat × St)) (bt br : Nat) (σ σ' : St) : ∀ i : Nat, ps[i]? = some (bt, br, σ) → pairCells (ps.set i (bt, br, σ')) = pairCells ps := by
  induction ps with
  | nil => intro i _; simp
  | cons a l ih =>
    intro i hi
    cases i with
    | zero =>
      simp at hi; subst hi
      rfl
    | succ i => exact congrArg (fun x => [Value.pointer (some ⟨a.1, 0, none⟩), .pointer (some ⟨a.2.1, 0, none⟩)] ++ x) (ih i (by simpa using hi))

/-- A list that came out: each of its numbers is its owner's mark. -/
def KlAt (v : Value) (q : Int) (c : Nat → Nat) (w : World) : Prop := ∃ a n cap, v = .slice a n cap ∧ n ≤ maxLen ∧ ∀ j, j < n → ∃ g off, a = some ⟨g, off, none⟩ ∧ c g = 2 ∧ w.cell? ⟨g, off + j, none⟩ = some (.int .i64 q)
theorem KlAt.stay {v : Value} {q : Int} {c c' : Nat → Nat} {w w' : World} (h : KlAt v q c w) (hb : ∀ k, k < w.heap.size → c k = 2 → w'.heap[k]? = w.heap[k]?) (hc : ∀ k, k < w.heap.size → c k = 2 → c' k = 2) : KlAt v q c' w' := by
  obtain ⟨a, n, cap, rfl, hm, h⟩ := h
  refine ⟨a, n, cap, rfl, hm, fun j hj => ?_⟩
  obtain ⟨g, off, h1, h2, h3⟩ := h j hj
  have hg : g < w.heap.size := World.block_lt_of_cell? w _ h3
  exact ⟨g, off, h1, hc g hg h2, by rw [World.cell?_of_block (hb g hg h2)]; exact h3⟩

/-- The law's world: the struct lies in the block wb, its pairs are ps, its lists ls, their marks ms; all of it is newer than W0. -/
structure Wd (I : St → Prop) (W0 : World) (wb : Nat) (ps : List (Nat × Nat × St)) (m : Int) (ls : List Value) (ms : List Int) (c : Nat → Nat) (w : World) : Prop where
  kp : Kp [] W0 w
  old : ∀ k, k < W0.heap.size → c k = 1
  pv : ∃ pa cap po la lcap lo ma mcap mo, Blk w wb 57 [.slice pa ps.length cap, .int .i64 m, .slice la ls.length lcap, .slice ma ms.length mcap] ∧
    Sl w 85 2 (.slice pa ps.length cap) ps.length (pairCells ps) po ∧ Sl w 55 1 (.slice la ls.length lcap) ls.length ls lo ∧ Sl w 3 1 (.slice ma ms.length mcap) ms.length (i64s ms) mo ∧
    (∀ g, po = some g → c g = 0) ∧ (∀ g, lo = some g → c g = 3 ∧ g ≠ wb) ∧ ∀ g, mo = some g → c g = 3 ∧ g ≠ wb ∧ lo ≠ some g
  cb : c wb = 3
  t : ∀ (i bt br : Nat) (σ : St), ps[i]? = some (bt, br, σ) → OT w c (2 * i + 4) bt σ ∧ OR w c (2 * i + 5) br σ ∧ I σ
  kept : ∀ (k : Nat) (v : Value) (q : Int), ls[k]? = some v → ms[k]? = some q → KlAt v q c w

section
variable {I J : St → Prop} {W0 : World} {wb : Nat} {ps : List (Nat × Nat × St)} {m : Int} {ls : List Value} {ms : List Int} {c : Nat → Nat} {w w' : World}
theorem Wd.mono (h : Wd I W0 wb ps m ls ms c w) (hI : ∀ σ, I σ → J σ) : Wd J W0 wb ps m ls ms c w :=
  ⟨h.kp, h.old, h.pv, h.cb, fun i bt br σ hi => ⟨(h.t i bt br σ hi).1, (h.t i bt br σ hi).2.1, hI _ (h.t i bt br σ hi).2.2⟩, h.kept⟩
theorem Wd.lt (h : Wd I W0 wb ps m ls ms c w) : wb < w.heap.size := by obtain ⟨_, _, _, _, _, _, _, _, _, hb, _⟩ := h.pv; exact hb.lt
/-- Only what is no part of it has turned. -/
theorem Wd.stay {c' : Nat → Nat} (h : Wd I W0 wb ps m ls ms c w) (hk : Kp [] W0 w') (hs : w.heap.size ≤ w'.heap.size) (hb : ∀ k, k < w.heap.size → w'.heap[k]? = w.heap[k]?) (hc : ∀ k, k < w.heap.size → c' k = c k) : Wd I W0 wb ps m ls ms c' w' := by
  obtain ⟨pa, cap, po, la, lcap, lo, ma, mcap, mo, h1, h2, h3, h4, h5, h6, h7⟩ := h.pv
  refine ⟨hk, fun k hk' => by rw [hc k (Nat.lt_of_lt_of_le hk' h.kp.size)]; exact h.old k hk', ⟨pa, cap, po, la, lcap, lo, ma, mcap, mo, ?_, h2.same fun g hg => hb g (h2.lt hg), h3.same fun g hg => hb g (h3.lt hg), h4.same fun g hg => hb g (h4.lt hg), fun g hg => by rw [hc g (h2.lt hg)]; exact h5 g hg, fun g hg => by rw [hc g (h3.lt hg)]; exact h6 g hg, fun g hg => by rw [hc g (h4.lt hg)]; exact h7 g hg⟩, by rw [hc wb h.lt]; exact h.cb, fun i bt br σ hi => ?_, fun j v q h1 h2 => (h.kept j v q h1 h2).stay (fun k hk _ => hb k hk) fun k hk h2 => by rw [hc k hk]; exact h2⟩
  · unfold Blk; rw [hb wb h.lt]; exact h1
  · obtain ⟨q1, q2, q3⟩ := h.t i bt br σ hi
    exact ⟨q1.stay hs (fun k hk _ => hb k hk) hc, q2.stay hs (fun k hk _ => hb k hk) hc, q3⟩
theorem Wd.alloc (h : Wd I W0 wb ps m ls ms c w) (o : Obj) : Wd I W0 wb ps m ls ms (recol w c 0) (w.alloc o) :=
  h.stay (h.kp.alloc o) (by simp) (fun k hk => Below.heap_alloc w o k hk) fun k hk => recol_old hk
theorem Wd.drew (h : Wd I W0 wb ps m ls ms c w) : Wd I W0 wb ps m ls ms c w.drew := h.stay h.kp.drew (Nat.le_refl _) (fun _ _ => rfl) fun _ _ => rfl
theorem Wd.pr (h : Wd I W0 wb ps m ls ms c w) {i bt br : Nat} {σ : St} (hi : ps[i]? = some (bt, br, σ)) : Pr w c (2 * i + 4) (2 * i + 5) bt br σ σ := ⟨(h.t i bt br σ hi).1, (h.t i bt br σ hi).2.1⟩
/-- Where a pair lies. -/
theorem Wd.at (h : Wd I W0 wb ps m ls ms c w) {i bt br : Nat} {σ : St} (hi : ps[i]? = some (bt, br, σ)) : ∃ g off cap, w.cell? ⟨wb, 0, none⟩ = some (.slice (some ⟨g, off, none⟩) ps.length cap) ∧ g < w.heap.size ∧ c g = 0 ∧
    w.cell? ⟨g, off + i * 2, none⟩ = some (.pointer (some ⟨bt, 0, none⟩)) ∧ w.cell? ⟨g, off + (i * 2 + 1), none⟩ = some (.pointer (some ⟨br, 0, none⟩)) := by
  obtain ⟨pa, cap, po, la, lcap, lo, ma, mcap, mo, h1, h2, _, _, h5, _⟩ := h.pv
  have hl : i < ps.length := (List.getElem?_eq_some_iff.1 hi).1
  obtain ⟨g, off, cap', hv, ho⟩ := h2.addr (by omega)
  cases hv
  obtain ⟨q1, q2⟩ := pairCells_at ps i hi
  exact ⟨g, off, cap, h1.cell 0 rfl, h2.lt ho, h5 g ho, (h2.cells rfl (i * 2) q1).1, (h2.cells rfl (i * 2 + 1) q2).1⟩
/-- How many pairs there are. -/
theorem Wd.count (h : Wd I W0 wb ps m ls ms c w) : ∃ pa cap, w.cell? ⟨wb, 0, none⟩ = some (.slice pa ps.length cap) := by
  obtain ⟨pa, cap, po, la, lcap, lo, ma, mcap, mo, h1, _⟩ := h.pv
  exact ⟨pa, cap, h1.cell 0 rfl⟩
/-- Behind a step on the pair i. -/
theorem Wd.turn {c' : Nat → Nat} (h : Wd I W0 wb ps m ls ms c w) (hIJ : ∀ σ, I σ → J σ) {i bt br : Nat} {σ σ' : St} (hi : ps[i]? = some (bt, br, σ)) (hP : Pr w' c' (2 * i + 4) (2 * i + 5) bt br σ' σ') (hT : Tw c (2 * i + 4) (2 * i + 5) w w') (hcc : ∀ k, k < w.heap.size → c k ≠ 2 * i + 4 → c' k = c k) (hJ : J σ') :
    Wd J W0 wb (ps.set i (bt, br, σ')) m ls ms c' w' ∧ ∀ k, k < w.heap.size → c k < 4 → w'.heap[k]? = w.heap[k]? := by
  obtain ⟨pa, cap, po, la, lcap, lo, ma, mcap, mo, h1, h2, h3, h4, h5, h6, h7⟩ := h.pv
  have hil : i < ps.length := (List.getElem?_eq_some_iff.1 hi).1
  have keep : ∀ k, k < w.heap.size → c k ≠ 2 * i + 4 → c k ≠ 2 * i + 5 → w'.heap[k]? = w.heap[k]? := hT.block
  have keep4 : ∀ k, k < w.heap.size → c k < 4 → w'.heap[k]? = w.heap[k]? := fun k hk h => keep k hk (by omega) (by omega)
  have hc : ∀ k, k < w.heap.size → c k < 4 → c' k = c k := fun k hk h => hcc k hk (by omega)
  refine ⟨⟨⟨hT.os.trans h.kp.os, hT.tape.trans h.kp.tape, hT.output.trans h.kp.output, Nat.le_trans h.kp.size hT.size, fun k hk hn => ?_⟩, fun k hk => ?_, ⟨pa, cap, po, la, lcap, lo, ma, mcap, mo, ?_, ?_, ?_, ?_, fun g hg => ?_, fun g hg => ?_, fun g hg => ?_⟩, ?_, fun i' bt' br' σ'' hi' => ?_, fun j v q q1 q2 => ?_⟩, keep4⟩
  · rw [keep4 k (Nat.lt_of_lt_of_le hk h.kp.size) (by rw [h.old k hk]; omega)]
    exact h.kp.block k hk hn
  · rw [hc k (Nat.lt_of_lt_of_le hk h.kp.size) (by rw [h.old k hk]; omega)]; exact h.old k hk
  · unfold Blk; rw [keep4 wb h.lt (by rw [h.cb]; omega), List.length_set]; exact h1
  · rw [pairCells_set ps bt br σ σ' i hi, List.length_set]
    exact h2.same fun g hg => keep4 g (h2.lt hg) (by rw [h5 g hg]; omega)
  · exact h3.same fun g hg => keep4 g (h3.lt hg) (by rw [(h6 g hg).1]; omega)
  · exact h4.same fun g hg => keep4 g (h4.lt hg) (by rw [(h7 g hg).1]; omega)
  · rw [hc g (h2.lt hg) (by rw [h5 g hg]; omega)]; exact h5 g hg
  · rw [hc g (h3.lt hg) (by rw [(h6 g hg).1]; omega)]; exact h6 g hg
  · rw [hc g (h4.lt hg) (by rw [(h7 g hg).1]; omega)]; exact h7 g hg
  · rw [hc wb h.lt (by rw [h.cb]; omega)]; exact h.cb
  · by_cases hii : i = i'
    · subst hii
      rw [List.getElem?_set_self (by omega)] at hi'
      cases hi'
      exact ⟨hP.1, hP.2, hJ⟩
    · rw [List.getElem?_set_ne hii] at hi'
      obtain ⟨q1, q2, q3⟩ := h.t i' bt' br' σ'' hi'
      exact ⟨q1.stayW hT.size (fun k hk e => keep k hk (by omega) (by omega)) fun k hk e => by rw [hcc k hk (by omega)]; exact e, q2.stayW hT.size (fun k hk e => keep k hk (by omega) (by omega)) fun k hk e => by rw [hcc k hk (by omega)]; exact e, hIJ _ q3⟩
  · exact (h.kept j v q q1 q2).stay (fun k hk h2 => keep4 k hk (by omega)) fun k hk h2 => by rw [hc k hk (by omega)]; exact h2
theorem Wd.after (h : Wd I W0 wb ps m ls ms c w) (hIJ : ∀ σ, I σ → J σ) {i bt br : Nat} {σ σ' : St} {e : Ending} (hi : ps[i]? = some (bt, br, σ)) (hD : Dn c (2 * i + 4) (2 * i + 5) bt br w σ' e w') (hJ : J σ') :
    ∃ c', Wd J W0 wb (ps.set i (bt, br, σ')) m ls ms c' w' ∧ ∀ k, k < w.heap.size → c k < 4 → w'.heap[k]? = w.heap[k]? := by
  obtain ⟨_, c', hP, hT, hc⟩ := hD
  exact ⟨c', h.turn hIJ hi hP hT (fun k hk _ => hc k hk) hJ⟩
end

/-- The world, with at most so many lists in it as N times a list came out. -/
def Wl (I : St → Prop) (W0 : World) (wb : Nat) (ps : List (Nat × Nat × St)) (N : Nat) (c : Nat → Nat) (w : World) : Prop :=
  ∃ (m : Int) (ls : List Value) (ms : List Int), 0 ≤ m ∧ m ≤ N ∧ ls.length = ms.length ∧ ls.length ≤ 4 * N ∧ Wd I W0 wb ps m ls ms c w
section
variable {I J : St → Prop} {W0 : World} {wb : Nat} {ps : List (Nat × Nat × St)} {N M : Nat} {c : Nat → Nat} {w w' : World}
theorem Wl.mono (h : Wl I W0 wb ps N c w) (hI : ∀ σ, I σ → J σ) (hN : N ≤ M) : Wl J W0 wb ps M c w := by
  obtain ⟨m, ls, ms, h1, h2, h3, h4, h5⟩ := h
  exact ⟨m, ls, ms, h1, by omega, h3, by omega, h5.mono hI⟩
theorem Wl.lt (h : Wl I W0 wb ps N c w) : wb < w.heap.size := by obtain ⟨m, ls, ms, h1, h2, h3, h4, h5⟩ := h; exact h5.lt
theorem Wl.cb (h : Wl I W0 wb ps N c w) : c wb = 3 := by obtain ⟨m, ls, ms, h1, h2, h3, h4, h5⟩ := h; exact h5.cb
theorem Wl.kp (h : Wl I W0 wb ps N c w) : Kp [] W0 w := by obtain ⟨m, ls, ms, h1, h2, h3, h4, h5⟩ := h; exact h5.kp
theorem Wl.alloc (h : Wl I W0 wb ps N c w) (o : Obj) : Wl I W0 wb ps N (recol w c 0) (w.alloc o) := by
  obtain ⟨m, ls, ms, h1, h2, h3, h4, h5⟩ := h
  exact ⟨m, ls, ms, h1, h2, h3, h4, h5.alloc o⟩
theorem Wl.drew (h : Wl I W0 wb ps N c w) : Wl I W0 wb ps N c w.drew := by
  obtain ⟨m, ls, ms, h1, h2, h3, h4, h5⟩ := h
  exact ⟨m, ls, ms, h1, h2, h3, h4, h5.drew⟩
theorem Wl.at (h : Wl I W0 wb ps N c w) {i bt br : Nat} {σ : St} (hi : ps[i]? = some (bt, br, σ)) : ∃ g off cap, w.cell? ⟨wb, 0, none⟩ = some (.slice (some ⟨g, off, none⟩) ps.length cap) ∧ g < w.heap.size ∧ c g = 0 ∧
    w.cell? ⟨g, off + i * 2, none⟩ = some (.pointer (some ⟨bt, 0, none⟩)) ∧ w.cell? ⟨g, off + (i * 2 + 1), none⟩ = some (.pointer (some ⟨br, 0, none⟩)) := by
  obtain ⟨m, ls, ms, h1, h2, h3, h4, h5⟩ := h
  exact h5.at hi
theorem Wl.count (h : Wl I W0 wb ps N c w) : ∃ pa cap, w.cell? ⟨wb, 0, none⟩ = some (.slice pa ps.length cap) := by
  obtain ⟨m, ls, ms, h1, h2, h3, h4, h5⟩ := h
  exact h5.count
theorem Wl.pr (h : Wl I W0 wb ps N c w) {i bt br : Nat} {σ : St} (hi : ps[i]? = some (bt, br, σ)) : Pr w c (2 * i + 4) (2 * i + 5) bt br σ σ ∧ I σ := by
  obtain ⟨m, ls, ms, h1, h2, h3, h4, h5⟩ := h
  exact ⟨h5.pr hi, (h5.t i bt br σ hi).2.2⟩
theorem Wl.after (h : Wl I W0 wb ps N c w) (hIJ : ∀ σ, I σ → J σ) {i bt br : Nat} {σ σ' : St} {e : Ending} (hi : ps[i]? = some (bt, br, σ)) (hD : Dn c (2 * i + 4) (2 * i + 5) bt br w σ' e w') (hJ : J σ') :
    ∃ c', Wl J W0 wb (ps.set i (bt, br, σ')) N c' w' ∧ ∀ k, k < w.heap.size → c k < 4 → w'.heap[k]? = w.heap[k]? := by
  obtain ⟨m, ls, ms, h1, h2, h3, h4, h5⟩ := h
  obtain ⟨c', h6, h7⟩ := h5.after hIJ hi hD hJ
  exact ⟨c', ⟨m, ls, ms, h1, h2, h3, h4, h6⟩, h7⟩
end
end Go.Proofs.YtfnglkhhmplejaaGreat
namespace Go.Clk
open Go Go.RowKit
/-- A call of a Go function, by its contract, inside a region that draws its order. -/
theorem step_callT {P : Program} {ops : Array Oper} {o : Oper} {a : Act} {w : World} {K : Act → World → Prop} {Q : Exit → Act → World → Prop} {E : Prop} (hgd : o.guard = none) (f : FuncId) (args : Array Operand) (tys : Array TypeId)
    (ho : o.op = .call { callee := .value (.func f), args := args, argTypes := tys }) (vs : Array Value) (hvs : args.map a.eval = vs) {fn : Func} (hfn : P.funcs[f]? = some fn) (hnm : (fn.name == "runtime.NumGoroutine") = false) (hbd : fn.body.isNone = false) {R : Ending → World → Prop} (hf : Calls P f vs w R)
    (hK : ∀ e w', R e w' → ∃ v, e = .returned v ∧ K (a.put o.dst v) w') :
    if Region.wanted o (yielded ops a.tmps) = true then Oper.wp P o a w K Q else E := by
  have hw : Region.wanted o (yielded ops a.tmps) = true := by simp [Region.wanted, hgd]
  rw [if_pos hw]
  unfold Oper.wp
  subst hvs
  have hc : (callFunc f (args.map a.eval)).run P w = .ok (.enter f (args.map a.eval)) w := by
    have h1 : fn.name ≠ "runtime.NumGoroutine" := by simpa using hnm
    have h2 : fn.body ≠ none := by intro h; rw [h] at hbd; cases hbd
    simp [callFunc, hfn, h1, h2]
  simp [execOp, ho, resolve, invoke, Act.eval, Oper.upon, Deferred.ofValue, hc]
  refine Calls.mono (by simpa using hf) ?_
  intro e w' hR
  obtain ⟨v, rfl, hk⟩ := hK e w' hR
  exact hk
end Go.Clk
namespace Go.Proofs.YtfnglkhhmplejaaGreat
open Go Go.RowKit Go.Clk

theorem info_pair : (Tryz.prog.info? 85).map (fun i => (i.zero, i.size, i.bytes)) = some (some (.agg #[.pointer none, .pointer none]), 2, 16) := by kernel_rfl

theorem AtT.here {S : List Nat} {w0 w : World} {b : Nat} {σ : St} (h : AtT S w0 [] b σ w) {c : Nat → Nat} {i : Nat} (hS : ∀ k, k ∈ S → k < w0.heap.size ∧ c k = i) : OT w (recol w0 c i) i b σ := by
  obtain ⟨ρ, hsm, vi, vu, vo, vs, hl, h2⟩ := h
  obtain ⟨T, h3, h4⟩ := AtO.here h2 hS
  exact ⟨T, ⟨ρ, hsm, vi, vu, vo, vs, hl, h3⟩, h4⟩
theorem AtR.here {S : List Nat} {w0 w : World} {b : Nat} {σ : St} (h : AtR S w0 [] b σ w) {c : Nat → Nat} {i : Nat} (hS : ∀ k, k ∈ S → k < w0.heap.size ∧ c k = i) : OR w (recol w0 c i) i b σ := by
  obtain ⟨vi, vo, vu, vn, vd, hl, h2⟩ := h
  obtain ⟨T, h3, h4⟩ := AtO.here h2 hS
  exact ⟨T, ⟨vi, vo, vu, vn, vd, hl, h3⟩, h4⟩
theorem AtT.kept {S : List Nat} {w0 w : World} {x : List Nat} {b : Nat} {σ : St} (h : AtT S w0 x b σ w) : Kp S w0 w := by
  obtain ⟨ρ, hsm, vi, vu, vo, vs, hl, h2⟩ := h
  exact h2.kp

section
variable (I : St → Prop) (W0 : World) (wb : Nat) (ps : List (Nat × Nat × St)) (m : Int) (ls : List Value) (ms : List Int) (c : Nat → Nat) (w : World)

/-- What has come about when the pair is laid down. -/
theorem more_end (hI : I newS) (hW : Wd I W0 wb ps m ls ms c w) (bt br : Nat) (W1 W2 W4 : World) (pa : Option Addr) (cap : Nat) (po : Option Nat) (la : Option Addr) (lcap : Nat) (lo : Option Nat) (ma : Option Addr) (mcap : Nat) (mo : Option Nat)
    (hb : Blk w wb 57 [.slice pa ps.length cap, .int .i64 m, .slice la ls.length lcap, .slice ma ms.length mcap]) (hc0 : ∀ g, po = some g → c g = 0) (hpl : ∀ g, po = some g → g < w.heap.size)
    (h3 : Sl w 55 1 (.slice la ls.length lcap) ls.length ls lo) (h4 : Sl w 3 1 (.slice ma ms.length mcap) ms.length (i64s ms) mo) (h6 : ∀ g, lo = some g → c g = 3 ∧ g ≠ wb) (h7 : ∀ g, mo = some g → c g = 3 ∧ g ≠ wb ∧ lo ≠ some g)
    (hP : AtT [] w [] bt newS W1) (hR : AtR [] W1.drew [] br newS W2) (a' : Option Addr) (cap' : Nat) (own' : Option Nat)
    (hS : Sl W4 85 2 (.slice a' (ps.length + 1) cap') (ps.length + 1) (pairCells ps ++ [.pointer (some ⟨bt, 0, none⟩), .pointer (some ⟨br, 0, none⟩)]) own')
    (hG : (W2.alloc (.cells #[.pointer (some ⟨bt, 0, none⟩), .pointer (some ⟨br, 0, none⟩)] 85)).grownBy W4 po)
    (hO : own' = po ∨ own' = some (W2.heap.size + 1) ∧ W2.heap.size + 1 < W4.heap.size) :
    ∃ c', Wd I W0 wb (ps ++ [(bt, br, newS)]) m ls ms c' (W4.setCell ⟨wb, 0, none⟩ (.slice a' (ps.length + 1) cap')) := by
  have hk1 : Kp [] w W1 := hP.kept
  have hk2 : Kp [] W1.drew W2 := hR.kp
  have s1 : w.heap.size ≤ W1.heap.size := hk1.size
  have s2 : W1.heap.size ≤ W2.heap.size := hk2.size
  have s4 : W2.heap.size + 1 ≤ W4.heap.size := by have := hG.size; simpa using this
  have lw : wb < w.heap.size := hb.lt
  have cb := hW.cb
  have hne : po ≠ some wb := fun e => by have := hc0 wb e; omega
  have new1 : ∀ g, c g ≠ 1 → W0.heap.size ≤ g := fun g hg => by
    rcases Nat.lt_or_ge g W0.heap.size with h | h
    · have := hW.old g h; omega
    · exact h
  obtain ⟨W', hW'⟩ : ∃ W', W' = W4.setCell ⟨wb, 0, none⟩ (.slice a' (ps.length + 1) cap') := ⟨_, rfl⟩
  have s5 : W'.heap.size = W4.heap.size := by rw [hW']; simp
  have hold : ∀ k, k < W2.heap.size → k ≠ wb → some k ≠ po → W'.heap[k]? = W2.heap[k]? := fun k hk h1 h2 => by
    rw [hW', heap_setCell_other _ _ k _ h1, hG.block k (by simp only [World.size_alloc]; omega) h2]
    exact Below.heap_alloc W2 _ k hk
  have b1 : ∀ k, k < w.heap.size → W1.heap[k]? = w.heap[k]? := fun k hk => hk1.block k hk (by simp)
  have b2 : ∀ k, k < W1.heap.size → W2.heap[k]? = W1.heap[k]? := fun k hk => hk2.block k hk (by simp)
  obtain ⟨c1, e1⟩ : ∃ c1, c1 = recol w c (2 * ps.length + 4) := ⟨_, rfl⟩
  obtain ⟨c2, e2⟩ : ∃ c2, c2 = recol W1 c1 (2 * ps.length + 5) := ⟨_, rfl⟩
  have hOP : OT W1 c1 (2 * ps.length + 4) bt newS := by rw [e1]; exact hP.here (fun k hk => by cases hk)
  have hOR : OR W2 c2 (2 * ps.length + 5) br newS := by rw [e2]; exact hR.here (fun k hk => by cases hk)
  have o1 : ∀ k, k < w.heap.size → c1 k = c k := fun k hk => by rw [e1]; exact recol_old hk
  have o2 : ∀ k, k < W1.heap.size → c2 k = c1 k := fun k hk => by rw [e2]; exact recol_old hk
  have zp : ∀ g, some g = po → c g = 0 ∧ g < w.heap.size := fun g hg => ⟨hc0 g hg.symm, hpl g hg.symm⟩
  have hoth : ∀ k, k < w.heap.size → k ≠ wb → c k ≠ 0 → W'.heap[k]? = w.heap[k]? := fun k hk h1 hc => by
    rw [hold k (by omega) h1 (fun e => hc (zp k e).1), b2 k (by omega), b1 k hk]
  have hsome : ∀ (i k : Nat), i ≠ 0 → i ≠ 3 → k < w.heap.size → c k = i → W'.heap[k]? = w.heap[k]? := fun i k hi hi3 hk hc =>
    hoth k hk (fun e => hi3 (by rw [← hc, e]; exact cb)) (by rw [hc]; exact hi)
  refine ⟨recol W2 c2 0, ?_⟩
  rw [← hW']
  have o3 : ∀ k, k < W2.heap.size → recol W2 c2 0 k = c2 k := fun k hk => recol_old hk
  have o : ∀ k, k < w.heap.size → recol W2 c2 0 k = c k := fun k hk => by rw [o3 k (by omega), o2 k (by omega), o1 k hk]
  have hwb' : own' ≠ some wb := by
    rcases hO with h | ⟨h, _⟩
    · rw [h]; exact hne
    · rw [h]; intro e; cases e; omega
  have hb4 : Blk W4 wb 57 [.slice pa ps.length cap, .int .i64 m, .slice la ls.length lcap, .slice ma ms.length mcap] :=
    (hG.block wb (by simp only [World.size_alloc]; omega) (fun e => hne e.symm)).trans ((Below.heap_alloc W2 _ wb (by omega)).trans ((b2 wb (by omega)).trans ((b1 wb lw).trans hb)))
  refine ⟨?_, fun k hk => ?_, ⟨a', cap', own', la, lcap, lo, ma, mcap, mo, ?_, ?_, h3.same fun g hg => hoth g (h3.lt hg) (h6 g hg).2 (by rw [(h6 g hg).1]; omega), h4.same fun g hg => hoth g (h4.lt hg) (h7 g hg).2.1 (by rw [(h7 g hg).1]; omega), ?_, fun g hg => by rw [o g (h3.lt hg)]; exact h6 g hg, fun g hg => by rw [o g (h4.lt hg)]; exact h7 g hg⟩, ?_, ?_, fun j v q q1 q2 => (hW.kept j v q q1 q2).stay (fun k hk h2 => hsome 2 k (by omega) (by omega) hk h2) fun k hk h2 => by rw [o k hk]; exact h2⟩
  · have k0 : Kp [] W0 W2 := (hW.kp.trans hk1 (fun _ h => by cases h)).drew.trans hk2 (fun _ h => by cases h)
    rw [hW']
    exact ((k0.alloc _).grown hG (fun g hg => .inr (new1 g (by rw [hc0 g hg]; omega)))).set _ _ (.inr (new1 wb (by rw [cb]; omega)))
  · rw [o k (Nat.lt_of_lt_of_le hk hW.kp.size)]; exact hW.old k hk
  · rw [hW']
    have := hb4.set 0 (.slice a' (ps.length + 1) cap')
    simpa using this
  · rw [hW', pairCells_snoc, List.length_append, List.length_singleton]
    exact hS.set _ _ (fun g hg e => hwb' (by rw [hg, e]))
  · intro g hg
    rcases hO with h | ⟨h, _⟩
    · rw [h] at hg
      rw [o g (hpl g hg)]; exact hc0 g hg
    · rw [h] at hg; cases hg
      exact recol_new (by omega)
  · rw [o wb lw]; exact cb
  · intro i bt' br' σ' hi
    rcases Nat.lt_or_ge i ps.length with h | h
    · rw [List.getElem?_append_left h] at hi
      obtain ⟨q1, q2, q3⟩ := hW.t i bt' br' σ' hi
      exact ⟨q1.stay (by omega) (fun k hk hc => hsome _ k (by omega) (by omega) hk hc) o, q2.stay (by omega) (fun k hk hc => hsome _ k (by omega) (by omega) hk hc) o, q3⟩
    · rw [List.getElem?_append_right h] at hi
      have hil : i = ps.length := by
        have := (List.getElem?_eq_some_iff.1 hi).1
        simp at this; omega
      subst hil
      simp at hi
      obtain ⟨rfl, rfl, rfl⟩ := hi
      refine ⟨hOP.stay (by omega) (fun k hk hc => ?_) (fun k hk => by rw [o3 k (by omega), o2 k hk]), hOR.stay (by omega) (fun k hk hc => ?_) (fun k hk => o3 k hk), hI⟩
      · have hn : c k = 2 * ps.length + 4 ∨ w.heap.size ≤ k := by
          rcases Nat.lt_or_ge k w.heap.size with h | h
          · left; rw [← o1 k h, hc]
          · exact .inr h
        rw [hold k (by omega) (fun e => by subst e; rcases hn with h | h <;> omega) (fun e => by have := zp k e; rcases hn with h | h <;> omega), b2 k hk]
      · refine hold k hk (fun e => ?_) (fun e => ?_)
        · subst e; rw [o2 k (by omega), o1 k lw] at hc; omega
        · have := zp k e; rw [o2 k (by omega), o1 k (by omega)] at hc; omega

set_option maxHeartbeats 2000000 in
set_option maxRecDepth 100000 in
theorem more_any (hI : I newS) (hW : Wd I W0 wb ps m ls ms c w) (hps : ps.length ≤ 8) :
    Calls Tryz.prog 22 #[.pointer (some ⟨wb, 0, none⟩)] w fun e w' => e = .returned (.bool true) ∧ ∃ bt br c', Wd I W0 wb (ps ++ [(bt, br, newS)]) m ls ms c' w' := by
  have HW : Hid (Wd I W0 wb ps m ls ms c w) := hW
  obtain ⟨pa, cap, po, la, lcap, lo, ma, mcap, mo, hb, hs, h3, h4, hc0, h6, h7⟩ := hW.pv
  have H3 : Hid (Sl w 55 1 (.slice la ls.length lcap) ls.length ls lo ∧ Sl w 3 1 (.slice ma ms.length mcap) ms.length (i64s ms) mo) := ⟨h3, h4⟩
  have hne : po ≠ some wb := fun e => by have := hc0 wb e; have := hW.cb; omega
  clear hW h3 h4
  obtain ⟨i0, hi, hz0, hz1, hz2⟩ := info_parts info_pair
  go_enter Tryz.func22, Tryz.ntmps22
  go_wp2_with fail
  refine (TNew _).mono ?_
  rintro e W1 ⟨bt, rfl, hP⟩
  have hb1 := hP.kept.blk hb (by simp)
  have hs1 := hs.kp hP.kept (by simp)
  have k1 := hb1.cell 0 (v := .slice pa ps.length cap) rfl
  go_wp2
  go_region_law (first
    | (refine step_callT rfl 43 #[] #[] rfl #[] (by simp) Tryz.func43 (by kernel_rfl) (by kernel_rfl) (refNew_any _) ?_
       rintro e W2 ⟨br, rfl, hR⟩
       have hb2 := hR.kp.blk hb1 (by simp)
       have hs2 := (hs1.drew.kp hR.kp (by simp)).alloc (.cells #[.pointer (some ⟨bt, 0, none⟩), .pointer (some ⟨br, 0, none⟩)] 85)
       have k2 := hb2.cell 0 (v := .slice pa ps.length cap) rfl
       have hlt2 := hb2.lt
       refine ⟨_, rfl, ?_⟩)
    | (refine step_append_sl rfl (.tmp 11) (.tmp 15) 53 53 rfl hs2 (by simp [Act.eval]) i0 _ 16 Tryz.underlying53 hi hz0 hz1 hz2 rfl (.slice (some ⟨W2.heap.size, 0, none⟩) 1 1) 1 [.pointer (some ⟨bt, 0, none⟩), .pointer (some ⟨br, 0, none⟩)] (by simp [Act.eval]) (Sl.src Tryz.underlying53 (Sl.made W2 [.pointer (some ⟨bt, 0, none⟩), .pointer (some ⟨br, 0, none⟩)] 1 85 2 rfl (by decide)) (by simp [Value.oneCell'])) (by unfold maxLen; omega) (by omega) ?_
       intro a' cap' W4 own' hS hG hO
       have hb4 : Blk W4 wb 57 [.slice pa ps.length cap, .int .i64 m, .slice la ls.length lcap, .slice ma ms.length mcap] :=
         (hG.block wb (by simp only [World.size_alloc]; omega) (fun e => hne e.symm)).trans ((Below.heap_alloc W2 _ wb hlt2).trans hb2)
       have k4 := hb4.cell 0 (v := .slice pa ps.length cap) rfl
       have f4 := hb4.frozen 0))
  all_goals go_wp2
  all_goals go_ret
  all_goals exact ⟨rfl, bt, _, more_end I W0 wb ps m ls ms c w hI HW.out bt _ W1 _ _ pa cap po la lcap lo ma mcap mo hb hc0 (fun g hg => hs.lt hg) H3.out.1 H3.out.2 h6 h7 hP hR _ _ _ hS hG (by simpa using hO)⟩
theorem moreL_any (N : Nat) (hI : I newS) (hW : Wl I W0 wb ps N c w) (hps : ps.length ≤ 8) :
    Calls Tryz.prog 22 #[.pointer (some ⟨wb, 0, none⟩)] w fun e w' => e = .returned (.bool true) ∧ ∃ bt br c', Wl I W0 wb (ps ++ [(bt, br, newS)]) N c' w' := by
  obtain ⟨m, ls, ms, h1, h2, h3, h4, h5⟩ := hW
  refine (more_any I W0 wb ps m ls ms c w hI h5 hps).mono ?_
  rintro e w' ⟨he, bt, br, c', h6⟩
  exact ⟨he, bt, br, c', m, ls, ms, h1, h2, h3, h4, h6⟩
end
end Go.Proofs.YtfnglkhhmplejaaGreat
namespace Go.Proofs.YtfnglkhhmplejaaGreat
open Go Go.RowKit Go.Clk

theorem size_op : (Tryz.prog.info? 60).map (·.size) = some 21 := by kernel_rfl
theorem size_pair : (Tryz.prog.info? 85).map (·.size) = some 2 := by kernel_rfl
theorem Dn.after {c c2 : Nat → Nat} {i j bt br : Nat} {w W : World} {σ' : St} {e : Ending} {w' : World} (hT : Tw c i j w W) (hc : ∀ k, k < w.heap.size → c2 k = c k) (h : Dn c2 i j bt br W σ' e w') : Dn c i j bt br w σ' e w' := by
  obtain ⟨h1, c', h2, h3, h4⟩ := h
  refine ⟨h1, c', h2, ⟨h3.os.trans hT.os, h3.tape.trans hT.tape, h3.output.trans hT.output, Nat.le_trans hT.size h3.size, fun k hk q1 q2 => ?_⟩, fun k hk => (h4 k (Nat.lt_of_lt_of_le hk hT.size)).trans (hc k hk)⟩
  exact (h3.block k (Nat.lt_of_lt_of_le hk hT.size) (by rw [hc k hk]; exact q1) (by rw [hc k hk]; exact q2)).trans (hT.block k hk q1 q2)

section
variable (i j bt br wb : Nat) (σ σ' : St) (w : World) (kind term n : Int) (s : ByteArray) (ss : List Int)

set_option maxHeartbeats 2000000 in
set_option maxRecDepth 100000 in
theorem does_tells (Q : World → Prop) (hss : ss.length = 17) (k2 : (kind == 2) = false) (k5 : (kind == 5) = false) (k6 : (kind == 6) = false) (k8 : (kind == 8) = false) (k9 : (kind == 9) = false) (k11 : (kind == 11) = false) (k12 : (kind == 12) = false) (k13 : (kind == 13) = false)
    (ht : ∀ W, W = (w.alloc (.cells [.pointer (some ⟨bt, 0, none⟩), .pointer (some ⟨br, 0, none⟩)].toArray 85)).alloc (.cells (opCells kind term n s ss).toArray 60) → Calls Tryz.prog 71 #[.pointer (some ⟨wb, 0, none⟩), .agg #[.pointer (some ⟨bt, 0, none⟩), .pointer (some ⟨br, 0, none⟩)], .agg (opCells kind term n s ss).toArray] W fun e w' => e = .returned (.bool true) ∧ Q w') :
    Calls Tryz.prog 44 #[.pointer (some ⟨wb, 0, none⟩), .agg #[.pointer (some ⟨bt, 0, none⟩), .pointer (some ⟨br, 0, none⟩)], .agg (opCells kind term n s ss).toArray] w fun e w' => e = .returned (.bool true) ∧ Q w' := by
  have hol : (opCells kind term n s ss).length = 21 := by unfold opCells; rw [List.length_append, i64s_len, hss]; rfl
  have hio : (Tryz.prog.info? 60).map (·.size) = some (opCells kind term n s ss).length := by rw [hol]; exact size_op
  have HT : Hid (∀ W, W = (w.alloc (.cells [.pointer (some ⟨bt, 0, none⟩), .pointer (some ⟨br, 0, none⟩)].toArray 85)).alloc (.cells (opCells kind term n s ss).toArray 60) → Calls Tryz.prog 71 #[.pointer (some ⟨wb, 0, none⟩), .agg #[.pointer (some ⟨bt, 0, none⟩), .pointer (some ⟨br, 0, none⟩)], .agg (opCells kind term n s ss).toArray] W fun e w' => e = .returned (.bool true) ∧ Q w') := ht
  clear ht
  go_enter Tryz.func44, Tryz.ntmps44
  go_wp2_with (first | refine wpList_box rfl (.tmp 2) 60 rfl (opCells kind term n s ss) rfl ?_)
  intro W B hid
  have hA : Blk W w.heap.size 85 [.pointer (some ⟨bt, 0, none⟩), .pointer (some ⟨br, 0, none⟩)] := by
    rw [hid.out.2]
    unfold Blk
    rw [Below.heap_alloc _ _ _ (by simp)]
    exact Blk.new w [.pointer (some ⟨bt, 0, none⟩), .pointer (some ⟨br, 0, none⟩)] 85
  have hB : Blk W B 60 (opCells kind term n s ss) := by
    rw [hid.out.1, hid.out.2]
    have := Blk.new (w.alloc (.cells [.pointer (some ⟨bt, 0, none⟩), .pointer (some ⟨br, 0, none⟩)].toArray 85)) (opCells kind term n s ss) 60
    simpa using this
  have HQ : Hid (Calls Tryz.prog 71 #[.pointer (some ⟨wb, 0, none⟩), .agg #[.pointer (some ⟨bt, 0, none⟩), .pointer (some ⟨br, 0, none⟩)], .agg (opCells kind term n s ss).toArray] W fun e w' => e = .returned (.bool true) ∧ Q w') := HT.out W hid.out.2
  clear HT hid
  obtain ⟨A, hAe⟩ : ∃ A, A = w.heap.size := ⟨_, rfl⟩
  rw [← hAe] at hA ⊢
  clear hAe
  have a0 := hA.cell 0 (v := .pointer (some ⟨bt, 0, none⟩)) rfl
  have a1 := hA.cell 1 (v := .pointer (some ⟨br, 0, none⟩)) rfl
  have b0 := hB.cell 0 (v := .int .i64 kind) rfl
  go_wp2_with (refine wpList_load_part rfl (.tmp 5) 60 rfl B 0 rfl (opCells kind term n s ss) _ ?hc Tryz.underlying60 rfl hio ?next)
  case hc =>
    intro k v hv
    rw [Nat.zero_add]
    exact hB.cell k hv
  refine HQ.out.mono ?_
  rintro e W1 ⟨rfl, hQ⟩
  have HF : Hid (Q W1) := hQ
  clear a0 a1 b0 hQ
  go_wp2
  go_ret
  exact ⟨rfl, HF.out⟩

/-- A step that tells, of a kind that turns the two terminals alone. -/
theorem does_tell (c : Nat → Nat) (h : Pr w c i j bt br σ σ) (hss : ss.length = 17) (k2 : (kind == 2) = false) (k5 : (kind == 5) = false) (k6 : (kind == 6) = false) (k8 : (kind == 8) = false) (k9 : (kind == 9) = false) (k11 : (kind == 11) = false) (k12 : (kind == 12) = false) (k13 : (kind == 13) = false)
    (ht : ∀ W c2, Pr W c2 i j bt br σ σ → Calls Tryz.prog 71 #[.pointer (some ⟨wb, 0, none⟩), .agg #[.pointer (some ⟨bt, 0, none⟩), .pointer (some ⟨br, 0, none⟩)], .agg (opCells kind term n s ss).toArray] W fun e w' => Dn c2 i j bt br W σ' e w') :
    Calls Tryz.prog 44 #[.pointer (some ⟨wb, 0, none⟩), .agg #[.pointer (some ⟨bt, 0, none⟩), .pointer (some ⟨br, 0, none⟩)], .agg (opCells kind term n s ss).toArray] w fun e w' => Dn c i j bt br w σ' e w' := by
  refine (does_tells bt br wb w kind term n s ss (fun w' => Dn c i j bt br w σ' (.returned (.bool true)) w') hss k2 k5 k6 k8 k9 k11 k12 k13 fun W hW => ?_).mono ?_
  · obtain ⟨c2, hP, _, _, hT, hc2⟩ := boxes h [.pointer (some ⟨bt, 0, none⟩), .pointer (some ⟨br, 0, none⟩)] (opCells kind term n s ss) W (w.heap.size + 1) 85 60 ⟨rfl, hW⟩
    refine (ht W c2 hP).mono ?_
    intro e w' hD
    have he := hD.1
    subst he
    exact ⟨rfl, hD.after hT hc2⟩
  · rintro e w' ⟨rfl, h⟩; exact h
end

/-- A step on any pair goes well. -/
def DoesOk (I J : St → Prop) (M : Nat) (wb : Nat) (kind term n : Int) (s : ByteArray) (ss : List Int) : Prop :=
  ∀ (W0 : World) (ps : List (Nat × Nat × St)) (c : Nat → Nat) (W : World) (i bt br : Nat) (σ : St), Wl I W0 wb ps M c W → ps[i]? = some (bt, br, σ) →
    Calls Tryz.prog 44 #[.pointer (some ⟨wb, 0, none⟩), .agg #[.pointer (some ⟨bt, 0, none⟩), .pointer (some ⟨br, 0, none⟩)], .agg (opCells kind term n s ss).toArray] W fun e w' => e = .returned (.bool true) ∧
      ∃ ps' c', ps'.length = ps.length ∧ Wl J W0 wb ps' (M + 1) c' w' ∧ (∀ k, k < W.heap.size → c k = 0 → w'.heap[k]? = W.heap[k]?) ∧ w'.cell? ⟨wb, 0, none⟩ = W.cell? ⟨wb, 0, none⟩
theorem does_of_dn {I J : St → Prop} (M : Nat) {wb : Nat} {kind term n : Int} {s : ByteArray} {ss : List Int} (hIJ : ∀ σ, I σ → J σ)
    (hd : ∀ (W : World) (c : Nat → Nat) (i bt br : Nat) (σ : St), Pr W c (2 * i + 4) (2 * i + 5) bt br σ σ → I σ → Calls Tryz.prog 44 #[.pointer (some ⟨wb, 0, none⟩), .agg #[.pointer (some ⟨bt, 0, none⟩), .pointer (some ⟨br, 0, none⟩)], .agg (opCells kind term n s ss).toArray] W fun e w' => ∃ σ', J σ' ∧ Dn c (2 * i + 4) (2 * i + 5) bt br W σ' e w') :
    DoesOk I J M wb kind term n s ss := by
  intro W0 ps c W i bt br σ hW hi
  refine (hd W c i bt br σ (hW.pr hi).1 (hW.pr hi).2).mono ?_
  rintro e w' ⟨σ', hJ, hD⟩
  have he := hD.1
  obtain ⟨c', h1, h3⟩ := hW.after hIJ hi hD hJ
  exact ⟨he, _, c', by simp, h1.mono (fun _ h => h) (by omega), fun k hk h0 => h3 k hk (by omega), World.cell?_of_block (h3 wb hW.lt (by rw [hW.cb]; omega))⟩
end Go.Proofs.YtfnglkhhmplejaaGreat
namespace Go.Proofs.YtfnglkhhmplejaaGreat
open Go Go.RowKit Go.Clk

section
variable (I J : St → Prop) (W0 : World) (wb : Nat) (ps : List (Nat × Nat × St)) (M : Nat) (c : Nat → Nat) (w : World) (kind term n : Int) (s : ByteArray) (ss : List Int)

set_option maxHeartbeats 2000000 in
set_option maxRecDepth 100000 in
theorem step_none (hW : Wl I W0 wb ps M c w) (hk : kind < 1) :
    Calls Tryz.prog 23 #[.pointer (some ⟨wb, 0, none⟩), .agg (opCells kind term n s ss).toArray] w fun e w' => e = .returned (.bool true) ∧ ∃ c', Wl I W0 wb ps M c' w' := by
  have HW : Hid (Wl I W0 wb ps M c w) := hW
  clear hW
  go_enter Tryz.func23, Tryz.ntmps23
  go_wp2_with (first | refine wpList_box rfl (.tmp 1) 60 rfl (opCells kind term n s ss) rfl ?_)
  intro W B hid
  obtain ⟨rfl, rfl⟩ := hid.out
  have b0 := (Blk.new w (opCells kind term n s ss) 60).cell 0 (v := .int .i64 kind) rfl
  go_wp2
  go_ret
  exact ⟨rfl, _, HW.out.alloc _⟩

set_option maxHeartbeats 4000000 in
set_option maxRecDepth 100000 in
theorem step_any (hW : Wl I W0 wb ps M c w) (h0 : 0 < ps.length) (h4 : ps.length ≤ 4) (hk : 1 ≤ kind) (hk' : kind ≤ 13) (hss : ss.length = 17) (ht : -9223372036854775808 ≤ term) (ht' : term ≤ 9223372036854775807)
    (hd : DoesOk I J M wb kind term n s ss) :
    Calls Tryz.prog 23 #[.pointer (some ⟨wb, 0, none⟩), .agg (opCells kind term n s ss).toArray] w fun e w' => e = .returned (.bool true) ∧ ∃ ps' c', ps'.length = ps.length ∧ Wl J W0 wb ps' (M + 1) c' w' := by
  obtain ⟨p0, p1⟩ := pickN_lt term ps.length (by omega)
  obtain ⟨i, hi⟩ : ∃ i : Nat, pickN term ps.length = i := ⟨(pickN term ps.length).toNat, by omega⟩
  have hil : i < ps.length := by omega
  obtain ⟨⟨bt, br, σ⟩, hpi⟩ : ∃ x, ps[i]? = some x := ⟨_, List.getElem?_eq_getElem hil⟩
  have hol : (opCells kind term n s ss).length = 21 := by unfold opCells; rw [List.length_append, i64s_len, hss]; rfl
  have hio : (Tryz.prog.info? 60).map (·.size) = some (opCells kind term n s ss).length := by rw [hol]; exact size_op
  have HD : Hid (DoesOk I J M wb kind term n s ss) := hd
  clear hd p0 p1
  go_enter Tryz.func23, Tryz.ntmps23
  go_wp2_with (first | refine wpList_box rfl (.tmp 1) 60 rfl (opCells kind term n s ss) rfl ?_)
  intro W B hid
  have hW2 : Wl I W0 wb ps M (recol w c 0) W := by rw [hid.out.2]; exact hW.alloc _
  have hB : Bx W (recol w c 0) B 60 (opCells kind term n s ss) := by rw [hid.out.1, hid.out.2]; exact Bx.new w c _ _
  clear hW hid
  generalize recol w c 0 = c2 at *
  obtain ⟨g, off, cap, k0, hg, hcg, q1, q2⟩ := hW2.at hpi
  have b0 := hB.1.cell 0 (v := .int .i64 kind) rfl
  have b1 := hB.1.cell 1 (v := .int .i64 term) rfl
  go_wp2
  have hBlt := hB.1.lt
  have hwlt := hW2.lt
  refine wp_region_held_drew (S := fun w' => w'.cell? ⟨wb, 0, none⟩ = some (.slice (some ⟨g, off, none⟩) ps.length cap) ∧ w'.cell? ⟨B, 1, none⟩ = some (.int .i64 term) ∧ w'.rangeAt B 0 (opCells kind term n s ss) ∧ w'.rangeAt g (off + i * 2) [.pointer (some ⟨bt, 0, none⟩), .pointer (some ⟨br, 0, none⟩)]) (by kernel_rfl) ⟨by simpa using k0, by simpa using b1, ?hS3, ?hS4⟩ (fun hHeld => ?_)
  case hS3 =>
    intro j v hv
    rw [Nat.zero_add]
    exact hB.1.cell j hv
  case hS4 =>
    intro j v hv
    match j, hv with
    | 0, hv => cases hv; exact q1
    | 1, hv => cases hv; exact q2
    | j + 2, hv => simp at hv
  refine wpAnyH_take (i := 15) (oi := { dst := some 42, op := Op.load 60 (Operand.tmp 3), type := 60, pos := "law.go:184", after := #[], guard := none }) (v := .agg (opCells kind term n s ss).toArray) rfl (by kernel_rfl) (by kernel_rfl) (by kernel_rfl) (fun _ _ _ h => h) (yieldsIf_load_mid (by rfl) 60 (.tmp 3) rfl B 0 rfl (opCells kind term n s ss) _ (fun w' hSw => hSw.2.2.1) Tryz.underlying60 rfl hio) hHeld ?_
  simp only [Act.put, List.setIfInBounds_toArray, List.set_cons_zero, List.set_cons_succ]
  refine wpAnyH_take (i := 0) (oi := { dst := some 27, op := Op.move (Operand.tmp 0), type := 52, pos := "law.go:184", after := #[], guard := none }) (v := .pointer (some ⟨wb, 0, none⟩)) rfl (by kernel_rfl) (by kernel_rfl) (by kernel_rfl) (fun _ _ _ h => h) (Or.inl ⟨by rfl, fun w' hSw => ?_⟩) hHeld ?_
  · obtain ⟨x1, x2, _, _⟩ := hSw
    go_simp
  simp only [Act.put, List.setIfInBounds_toArray, List.set_cons_zero, List.set_cons_succ]
  refine wpAnyH_take (i := 1) (oi := { dst := some 28, op := Op.move (Operand.tmp 0), type := 52, pos := "law.go:184", after := #[], guard := none }) (v := .pointer (some ⟨wb, 0, none⟩)) rfl (by kernel_rfl) (by kernel_rfl) (by kernel_rfl) (fun _ _ _ h => h) (Or.inl ⟨by rfl, fun w' hSw => ?_⟩) hHeld ?_
  · obtain ⟨x1, x2, _, _⟩ := hSw
    go_simp
  simp only [Act.put, List.setIfInBounds_toArray, List.set_cons_zero, List.set_cons_succ]
  refine wpAnyH_take (i := 2) (oi := { dst := some 29, op := Op.nilCheck (Operand.tmp 28), type := 0, pos := "law.go:184", after := #[{ on := 1, ground := Ground.data }], guard := none }) (v := .pointer (some ⟨wb, 0, none⟩)) rfl (by kernel_rfl) (by kernel_rfl) (by kernel_rfl) (fun _ _ _ h => h) (Or.inl ⟨by rfl, fun w' hSw => ?_⟩) hHeld ?_
  · obtain ⟨x1, x2, _, _⟩ := hSw
    go_simp
  simp only [Act.put, List.setIfInBounds_toArray, List.set_cons_zero, List.set_cons_succ]
  refine wpAnyH_take (i := 3) (oi := { dst := some 30, op := Op.fieldAddr 57 (Operand.tmp 29) 0, type := 0, pos := "law.go:184", after := #[{ on := 2, ground := Ground.data }], guard := none }) (v := .pointer (some ⟨wb, 0, none⟩)) rfl (by kernel_rfl) (by kernel_rfl) (by kernel_rfl) (fun _ _ _ h => h) (Or.inl ⟨by rfl, fun w' hSw => ?_⟩) hHeld ?_
  · obtain ⟨x1, x2, _, _⟩ := hSw
    go_simp
  simp only [Act.put, List.setIfInBounds_toArray, List.set_cons_zero, List.set_cons_succ]
  refine wpAnyH_take (i := 4) (oi := { dst := some 31, op := Op.load 53 (Operand.tmp 30), type := 53, pos := "law.go:184", after := #[{ on := 3, ground := Ground.data }], guard := none }) (v := .slice (some ⟨g, off, none⟩) ps.length cap) rfl (by kernel_rfl) (by kernel_rfl) (by kernel_rfl) (fun _ _ _ h => h) (Or.inl ⟨by rfl, fun w' hSw => ?_⟩) hHeld ?_
  · obtain ⟨x1, x2, _, _⟩ := hSw
    go_simp
  simp only [Act.put, List.setIfInBounds_toArray, List.set_cons_zero, List.set_cons_succ]
  refine wpAnyH_take (i := 5) (oi := { dst := some 32, op := Op.fieldAddr 60 (Operand.tmp 3) 1, type := 0, pos := "law.go:184", after := #[], guard := none }) (v := .pointer (some ⟨B, 1, none⟩)) rfl (by kernel_rfl) (by kernel_rfl) (by kernel_rfl) (fun _ _ _ h => h) (Or.inl ⟨by rfl, fun w' hSw => ?_⟩) hHeld ?_
  · obtain ⟨x1, x2, _, _⟩ := hSw
    go_simp
  simp only [Act.put, List.setIfInBounds_toArray, List.set_cons_zero, List.set_cons_succ]
  refine wpAnyH_take (i := 6) (oi := { dst := some 33, op := Op.load 3 (Operand.tmp 32), type := 3, pos := "law.go:184", after := #[{ on := 5, ground := Ground.data }], guard := none }) (v := .int .i64 term) rfl (by kernel_rfl) (by kernel_rfl) (by kernel_rfl) (fun _ _ _ h => h) (Or.inl ⟨by rfl, fun w' hSw => ?_⟩) hHeld ?_
  · obtain ⟨x1, x2, _, _⟩ := hSw
    go_simp
  simp only [Act.put, List.setIfInBounds_toArray, List.set_cons_zero, List.set_cons_succ]
  refine wpAnyH_take (i := 7) (oi := { dst := some 34, op := Op.move (Operand.tmp 0), type := 52, pos := "law.go:184", after := #[], guard := none }) (v := .pointer (some ⟨wb, 0, none⟩)) rfl (by kernel_rfl) (by kernel_rfl) (by kernel_rfl) (fun _ _ _ h => h) (Or.inl ⟨by rfl, fun w' hSw => ?_⟩) hHeld ?_
  · obtain ⟨x1, x2, _, _⟩ := hSw
    go_simp
  simp only [Act.put, List.setIfInBounds_toArray, List.set_cons_zero, List.set_cons_succ]
  refine wpAnyH_take (i := 8) (oi := { dst := some 35, op := Op.nilCheck (Operand.tmp 34), type := 0, pos := "law.go:184", after := #[{ on := 7, ground := Ground.data }], guard := none }) (v := .pointer (some ⟨wb, 0, none⟩)) rfl (by kernel_rfl) (by kernel_rfl) (by kernel_rfl) (fun _ _ _ h => h) (Or.inl ⟨by rfl, fun w' hSw => ?_⟩) hHeld ?_
  · obtain ⟨x1, x2, _, _⟩ := hSw
    go_simp
  simp only [Act.put, List.setIfInBounds_toArray, List.set_cons_zero, List.set_cons_succ]
  refine wpAnyH_take (i := 9) (oi := { dst := some 36, op := Op.fieldAddr 57 (Operand.tmp 35) 0, type := 0, pos := "law.go:184", after := #[{ on := 8, ground := Ground.data }], guard := none }) (v := .pointer (some ⟨wb, 0, none⟩)) rfl (by kernel_rfl) (by kernel_rfl) (by kernel_rfl) (fun _ _ _ h => h) (Or.inl ⟨by rfl, fun w' hSw => ?_⟩) hHeld ?_
  · obtain ⟨x1, x2, _, _⟩ := hSw
    go_simp
  simp only [Act.put, List.setIfInBounds_toArray, List.set_cons_zero, List.set_cons_succ]
  refine wpAnyH_take (i := 10) (oi := { dst := some 37, op := Op.load 53 (Operand.tmp 36), type := 53, pos := "law.go:184", after := #[{ on := 9, ground := Ground.data }], guard := none }) (v := .slice (some ⟨g, off, none⟩) ps.length cap) rfl (by kernel_rfl) (by kernel_rfl) (by kernel_rfl) (fun _ _ _ h => h) (Or.inl ⟨by rfl, fun w' hSw => ?_⟩) hHeld ?_
  · obtain ⟨x1, x2, _, _⟩ := hSw
    go_simp
  simp only [Act.put, List.setIfInBounds_toArray, List.set_cons_zero, List.set_cons_succ]
  refine wpAnyH_take (i := 11) (oi := { dst := some 38, op := Op.call { callee := Callee.builtin Builtin.len, args := #[Operand.tmp 37], argTypes := #[53] }, type := 3, pos := "law.go:184", after := #[{ on := 10, ground := Ground.data }], guard := none }) (v := .int .i64 ps.length) rfl (by kernel_rfl) (by kernel_rfl) (by kernel_rfl) (fun _ _ _ h => h) (Or.inl ⟨by rfl, fun w' hSw => ?_⟩) hHeld ?_
  · obtain ⟨x1, x2, _, _⟩ := hSw
    go_simp
  simp only [Act.put, List.setIfInBounds_toArray, List.set_cons_zero, List.set_cons_succ]
  refine wpAnyH_ready (rs := [12]) (by kernel_rfl) (by simp) ?_
  refine AllReadyH.cons (o := { dst := some 39, op := Op.call { callee := Callee.value (Operand.func 45), args := #[Operand.tmp 33, Operand.tmp 38], argTypes := #[3, 3] }, type := 3, pos := "law.go:184", after := #[{ on := 6, ground := Ground.data }, { on := 11, ground := Ground.data }], guard := none }) rfl (fun K hK => ?_) AllReadyH.nil
  refine step_callT rfl 45 #[.tmp 33, .tmp 38] #[3, 3] rfl #[.int .i64 term, .int .i64 ps.length] (by simp [Act.eval]) Tryz.func45 (by kernel_rfl) (by kernel_rfl) (pick_any term ps.length _ (by omega) (by omega) ht ht') ?_
  rintro e W1 ⟨rfl, rfl⟩
  refine ⟨_, rfl, hK.out _ _ hHeld (fun _ => ?_)⟩
  rw [hi]
  clear hK K
  simp only [Act.put, List.setIfInBounds_toArray, List.set_cons_zero, List.set_cons_succ]
  refine wpAnyH_take (i := 13) (oi := { dst := some 40, op := Op.indexAddr 53 (Operand.tmp 31) (Operand.tmp 39), type := 0, pos := "law.go:184", after := #[{ on := 4, ground := Ground.data }, { on := 12, ground := Ground.data }], guard := none }) (v := .pointer (some ⟨g, off + i * 2, none⟩)) rfl (by kernel_rfl) (by kernel_rfl) (by kernel_rfl) (fun _ _ _ h => h) (Or.inl ⟨by rfl, fun w' hSw => ?_⟩) hHeld ?_
  · obtain ⟨x1, x2, _, _⟩ := hSw
    go_simp
  simp only [Act.put, List.setIfInBounds_toArray, List.set_cons_zero, List.set_cons_succ]
  refine wpAnyH_take (i := 14) (oi := { dst := some 41, op := Op.load 85 (Operand.tmp 40), type := 85, pos := "law.go:184", after := #[{ on := 13, ground := Ground.data }], guard := none }) (v := .agg ([.pointer (some ⟨bt, 0, none⟩), .pointer (some ⟨br, 0, none⟩)]).toArray) rfl (by kernel_rfl) (by kernel_rfl) (by kernel_rfl) (fun _ _ _ h => h) (yieldsIf_load_mid (by rfl) 85 (.tmp 40) rfl g (off + i * 2) rfl ([.pointer (some ⟨bt, 0, none⟩), .pointer (some ⟨br, 0, none⟩)]) _ (fun w' hSw => hSw.2.2.2) Tryz.underlying85 rfl size_pair) hHeld ?_
  simp only [Act.put, List.setIfInBounds_toArray, List.set_cons_zero, List.set_cons_succ]
  refine wpAnyH_ready (rs := [16]) (by kernel_rfl) (by simp) ?_
  refine AllReadyH.cons (o := { dst := some 43, op := Op.call { callee := Callee.value (Operand.func 44), args := #[Operand.tmp 27, Operand.tmp 41, Operand.tmp 42], argTypes := #[52, 85, 60] }, type := 4, pos := "law.go:184", after := #[{ on := 0, ground := Ground.data }, { on := 14, ground := Ground.data }, { on := 15, ground := Ground.data }, { on := 12, ground := Ground.chain }], guard := none }) rfl (fun K hK => ?_) AllReadyH.nil
  refine step_callT rfl 44 #[.tmp 27, .tmp 41, .tmp 42] #[52, 85, 60] rfl #[.pointer (some ⟨wb, 0, none⟩), .agg #[.pointer (some ⟨bt, 0, none⟩), .pointer (some ⟨br, 0, none⟩)], .agg (opCells kind term n s ss).toArray] (by simp [Act.eval]) Tryz.func44 (by kernel_rfl) (by kernel_rfl) (HD.out W0 ps c2 W.drew i bt br σ hW2.drew hpi) ?_
  rintro e W1 ⟨rfl, ps', c3, hpl, hW3, hblk, hwb0⟩
  have hcell : ∀ (k o : Nat), k < W.heap.size → c2 k = 0 → W1.cell? ⟨k, o, none⟩ = W.cell? ⟨k, o, none⟩ := fun k o hk h0 => World.cell?_of_block (hblk k hk h0)
  have HF : Hid (∃ ps' c', ps'.length = ps.length ∧ Wl J W0 wb ps' (M + 1) c' W1) := ⟨ps', c3, hpl, hW3⟩
  refine ⟨_, rfl, hK.out _ _ ⟨hwb0.trans k0, (hcell B 1 hBlt hB.2).trans b1, fun j v hv => ?_, fun j v hv => ?_⟩ (fun hHeld => ?_)⟩
  · rw [hcell B _ hBlt hB.2, Nat.zero_add]; exact hB.1.cell j hv
  · rw [hcell g _ hg hcg]
    match j, hv with
    | 0, hv => cases hv; exact q1
    | 1, hv => cases hv; exact q2
    | j + 2, hv => simp at hv
  clear hK K
  simp only [Act.put, List.setIfInBounds_toArray, List.set_cons_zero, List.set_cons_succ]
  refine wpAnyH_take (i := 17) (oi := { dst := some 6, op := Op.assign (Operand.tmp 43), type := 4, pos := "law.go:184", after := #[{ on := 16, ground := Ground.data }, { on := 16, ground := Ground.chain }, { on := 0, ground := Ground.phase }, { on := 1, ground := Ground.phase }, { on := 2, ground := Ground.phase }, { on := 3, ground := Ground.phase }, { on := 4, ground := Ground.phase }, { on := 5, ground := Ground.phase }, { on := 6, ground := Ground.phase }, { on := 7, ground := Ground.phase }, { on := 8, ground := Ground.phase }, { on := 9, ground := Ground.phase }, { on := 10, ground := Ground.phase }, { on := 11, ground := Ground.phase }, { on := 12, ground := Ground.phase }, { on := 13, ground := Ground.phase }, { on := 14, ground := Ground.phase }, { on := 15, ground := Ground.phase }, { on := 16, ground := Ground.phase }], guard := none }) (v := .bool true) rfl (by kernel_rfl) (by kernel_rfl) (by kernel_rfl) (fun _ _ _ h => h) (Or.inl ⟨by rfl, fun w' hSw => ?_⟩) hHeld ?_
  · obtain ⟨x1, x2, _, _⟩ := hSw
    go_simp
  simp only [Act.put, List.setIfInBounds_toArray, List.set_cons_zero, List.set_cons_succ]
  refine wpAnyH_done (by kernel_rfl) ?_ _
  clear hHeld hcell hblk hwb0 hW3 hW2 hB k0 b0 b1 q1 q2
  go_wp2
  go_ret
  exact ⟨rfl, HF.out⟩

set_option maxHeartbeats 2000000 in
set_option maxRecDepth 100000 in
theorem step_new (hW : Wl I W0 wb ps M c w) (hI : I newS) (h4 : ps.length ≤ 4) :
    Calls Tryz.prog 23 #[.pointer (some ⟨wb, 0, none⟩), .agg (opCells 14 term n s ss).toArray] w fun e w' => e = .returned (.bool true) ∧ ∃ ps' c', ps.length ≤ ps'.length ∧ ps'.length ≤ 4 ∧ Wl I W0 wb ps' M c' w' := by
  have HW : Hid (Wl I W0 wb ps M c w) := hW
  clear hW
  go_enter Tryz.func23, Tryz.ntmps23
  go_wp2_with (first | refine wpList_box rfl (.tmp 1) 60 rfl (opCells 14 term n s ss) rfl ?_)
  intro W B hid
  have hW2 : Wl I W0 wb ps M (recol w c 0) W := by rw [hid.out.2]; exact HW.out.alloc _
  have hB : Bx W (recol w c 0) B 60 (opCells 14 term n s ss) := by rw [hid.out.1, hid.out.2]; exact Bx.new w c _ _
  clear HW hid
  generalize recol w c 0 = c2 at *
  have b0 := hB.1.cell 0 (v := .int .i64 14) rfl
  obtain ⟨pa, cap, k0⟩ := hW2.count
  have HW2 : Hid (Wl I W0 wb ps M c2 W) := hW2
  clear hW2 hB
  by_cases hf : 4 ≤ ps.length
  · go_wp2
    go_ret
    exact ⟨rfl, ps, _, Nat.le_refl _, h4, HW2.out⟩
  · go_wp2_with fail
    refine (moreL_any I W0 wb ps c2 W M hI HW2.out (by omega)).mono ?_
    rintro e W1 ⟨rfl, bt, br, c3, hW3⟩
    have HF : Hid (∃ ps' c', ps.length ≤ ps'.length ∧ ps'.length ≤ 4 ∧ Wl I W0 wb ps' M c' W1) := ⟨_, c3, by simp, by simp; omega, hW3⟩
    clear hW3 HW2 b0 k0
    go_wp2
    go_ret
    exact ⟨rfl, HF.out⟩
end
end Go.Proofs.YtfnglkhhmplejaaGreat
