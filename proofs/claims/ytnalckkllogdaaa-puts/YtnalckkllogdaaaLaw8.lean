/- The law's world: what it keeps through a step. -/
import Derived.Test.YtnalckkllogdaaaLaw1
import Derived.Test.YtnalckkllogdaaaLaw6
import Derived.Test.YtnalckkllogdaaaSpec4
import Derived.Deep.MidRow
namespace Go.Proofs.Ytnalckkllogdaaa
open Go Go.RowKit Go.Clk

section
variable {I J : St → Prop} {W0 : World} {wb : Nat} {ps : List (Nat × Nat × St)} {c : Nat → Nat} {w w' : World}
theorem Wd.mono (h : Wd I W0 wb ps c w) (hI : ∀ σ, I σ → J σ) : Wd J W0 wb ps c w :=
  ⟨h.kp, h.old, h.pv, h.cb, fun i bt br σ hi => ⟨(h.t i bt br σ hi).1, (h.t i bt br σ hi).2.1, hI _ (h.t i bt br σ hi).2.2⟩⟩
theorem Wd.lt (h : Wd I W0 wb ps c w) : wb < w.heap.size := by obtain ⟨_, _, _, hb, _⟩ := h.pv; exact hb.lt
/-- Only what is no part of it has turned. -/
theorem Wd.stay {c' : Nat → Nat} (h : Wd I W0 wb ps c w) (hk : Kp [] W0 w') (hs : w.heap.size ≤ w'.heap.size) (hb : ∀ k, k < w.heap.size → w'.heap[k]? = w.heap[k]?) (hc : ∀ k, k < w.heap.size → c' k = c k) : Wd I W0 wb ps c' w' := by
  obtain ⟨pa, cap, po, h1, h2, h3, h4⟩ := h.pv
  refine ⟨hk, fun k hk' => by rw [hc k (Nat.lt_of_lt_of_le hk' h.kp.size)]; exact h.old k hk', ⟨pa, cap, po, ?_, h2.same fun g hg => hb g (h2.lt hg), h3, fun g hg => by rw [hc g (h2.lt hg)]; exact h4 g hg⟩, by rw [hc wb h.lt]; exact h.cb, fun i bt br σ hi => ?_⟩
  · unfold Blk; rw [hb wb h.lt]; exact h1
  · obtain ⟨q1, q2, q3⟩ := h.t i bt br σ hi
    exact ⟨q1.stay hs (fun k hk _ => hb k hk) hc, q2.stay hs (fun k hk _ => hb k hk) hc, q3⟩
theorem Wd.alloc (h : Wd I W0 wb ps c w) (o : Obj) : Wd I W0 wb ps (recol w c 0) (w.alloc o) :=
  h.stay (h.kp.alloc o) (by simp) (fun k hk => Below.heap_alloc w o k hk) fun k hk => recol_old hk
theorem Wd.drew (h : Wd I W0 wb ps c w) : Wd I W0 wb ps c w.drew := h.stay h.kp.drew (Nat.le_refl _) (fun _ _ => rfl) fun _ _ => rfl
theorem Wd.pr (h : Wd I W0 wb ps c w) {i bt br : Nat} {σ : St} (hi : ps[i]? = some (bt, br, σ)) : Pr w c (2 * i + 2) (2 * i + 3) bt br σ σ := ⟨(h.t i bt br σ hi).1, (h.t i bt br σ hi).2.1⟩
theorem pairCells_at : ∀ (ps : List (Nat × Nat × St)) (i : Nat) {bt br : Nat} {σ : St}, ps[i]? = some (bt, br, σ) → (pairCells ps)[i * 2]? = some (.pointer (some ⟨bt, 0, none⟩)) ∧ (pairCells ps)[i * 2 + 1]? = some (.pointer (some ⟨br, 0, none⟩))
  | [], i, _, _, _, h => by simp at h
  | (a, b, s) :: r, 0, _, _, _, h => by
    simp at h; obtain ⟨rfl, rfl, rfl⟩ := h
    exact ⟨rfl, rfl⟩
  | (a, b, s) :: r, i + 1, _, _, _, h => by
    have := pairCells_at r i (by simpa using h)
    have e : pairCells ((a, b, s) :: r) = .pointer (some ⟨a, 0, none⟩) :: .pointer (some ⟨b, 0, none⟩) :: pairCells r := rfl
    rw [e, show (i + 1) * 2 = i * 2 + 1 + 1 by omega, List.getElem?_cons_succ, List.getElem?_cons_succ, List.getElem?_cons_succ, List.getElem?_cons_succ]
    exact this
/-- Where a pair lies. -/
theorem Wd.at (h : Wd I W0 wb ps c w) {i bt br : Nat} {σ : St} (hi : ps[i]? = some (bt, br, σ)) : ∃ g off cap, w.cell? ⟨wb, 0, none⟩ = some (.slice (some ⟨g, off, none⟩) ps.length cap) ∧ g < w.heap.size ∧ c g = 0 ∧
    w.cell? ⟨g, off + i * 2, none⟩ = some (.pointer (some ⟨bt, 0, none⟩)) ∧ w.cell? ⟨g, off + (i * 2 + 1), none⟩ = some (.pointer (some ⟨br, 0, none⟩)) := by
  obtain ⟨pa, cap, po, h1, h2, h3, h4⟩ := h.pv
  have hl : i < ps.length := (List.getElem?_eq_some_iff.1 hi).1
  obtain ⟨g, off, cap', hv, ho⟩ := h2.addr (by omega)
  cases hv
  obtain ⟨q1, q2⟩ := pairCells_at ps i hi
  exact ⟨g, off, cap, h1.cell 0 rfl, h2.lt ho, h4 g ho, (h2.cells rfl (i * 2) q1).1, (h2.cells rfl (i * 2 + 1) q2).1⟩
/-- Behind a step on the pair i. -/
theorem Wd.after (h : Wd I W0 wb ps c w) (hIJ : ∀ σ, I σ → J σ) {i bt br : Nat} {σ σ' : St} {e : Ending} (hi : ps[i]? = some (bt, br, σ)) (hD : Dn c (2 * i + 2) (2 * i + 3) bt br w σ' e w') (hJ : J σ') :
    ∃ c', Wd J W0 wb (ps.set i (bt, br, σ')) c' w' ∧ ∀ k, k < w.heap.size → c' k = c k := by
  obtain ⟨_, c', hP, hT, hc⟩ := hD
  obtain ⟨pa, cap, po, h1, h2, h3, h4⟩ := h.pv
  have hil : i < ps.length := (List.getElem?_eq_some_iff.1 hi).1
  have keep : ∀ k, k < w.heap.size → c k ≠ 2 * i + 2 → c k ≠ 2 * i + 3 → w'.heap[k]? = w.heap[k]? := hT.block
  have hpc : pairCells (ps.set i (bt, br, σ')) = pairCells ps := by
    clear keep h1 h2 h4 hP hT hil h
    revert i
    induction ps with
    | nil => intro i; simp
    | cons a l ih =>
      intro i hi
      cases i with
      | zero =>
        simp at hi; subst hi
        rfl
      | succ i => exact congrArg (fun x => [Value.pointer (some ⟨a.1, 0, none⟩), .pointer (some ⟨a.2.1, 0, none⟩)] ++ x) (ih (by simpa using hi))
  refine ⟨c', ⟨⟨hT.os.trans h.kp.os, hT.tape.trans h.kp.tape, hT.output.trans h.kp.output, Nat.le_trans h.kp.size hT.size, fun k hk hn => ?_⟩, fun k hk => ?_, ⟨pa, cap, po, ?_, ?_, h3, fun g hg => ?_⟩, ?_, fun i' bt' br' σ'' hi' => ?_⟩, hc⟩
  · rw [keep k (Nat.lt_of_lt_of_le hk h.kp.size) (by rw [h.old k hk]; omega) (by rw [h.old k hk]; omega)]
    exact h.kp.block k hk hn
  · rw [hc k (Nat.lt_of_lt_of_le hk h.kp.size)]; exact h.old k hk
  · unfold Blk; rw [keep wb h.lt (by rw [h.cb]; omega) (by rw [h.cb]; omega), List.length_set]; exact h1
  · rw [hpc, List.length_set]
    exact h2.same fun g hg => keep g (h2.lt hg) (by rw [h4 g hg]; omega) (by rw [h4 g hg]; omega)
  · rw [hc g (h2.lt hg)]; exact h4 g hg
  · rw [hc wb h.lt]; exact h.cb
  · by_cases hii : i = i'
    · subst hii
      rw [List.getElem?_set_self (by omega)] at hi'
      cases hi'
      exact ⟨hP.1, hP.2, hJ⟩
    · rw [List.getElem?_set_ne hii] at hi'
      obtain ⟨q1, q2, q3⟩ := h.t i' bt' br' σ'' hi'
      exact ⟨q1.stay hT.size (fun k hk e => keep k hk (by omega) (by omega)) hc, q2.stay hT.size (fun k hk e => keep k hk (by omega) (by omega)) hc, hIJ _ q3⟩
end
end Go.Proofs.Ytnalckkllogdaaa
