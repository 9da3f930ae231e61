/- The document's answer as plain functions: what Write, Drain and Set keep. -/
import Derived.Test.YtnalckkllogdaaaSpec2
namespace Go.Clk
open Go
theorem write_inv (l : List UInt8) : ∀ {σ : St} {C : Int}, Ok σ C → σ.out.length ≤ 256 → Ok (σ.write l).1 (C + 8 * ((σ.write l).1.out.length - σ.out.length)) ∧ (σ.write l).1.out.length ≤ 256 ∧ σ.out.length ≤ (σ.write l).1.out.length ∧ ∃ o k, (σ.write l).1 = { σ with out := o, col := k } := by
  induction l with
  | nil => intro σ C ok h; simp only [St.write]; exact ⟨ok.mono (by omega), h, Nat.le_refl _, σ.out, σ.col, rfl⟩
  | cons c r ih =>
    intro σ C ok h
    simp only [St.write]
    by_cases hp : (σ.put [c]).2 = true
    · rw [if_pos hp]
      dsimp only
      obtain ⟨q1, q2, q3⟩ := put_ok ok c hp
      obtain ⟨p1, p2, p3, o, k, p4⟩ := ih q1 q2
      have e : ∃ o1 k1, (σ.put [c]).1 = { σ with out := o1, col := k1 } := by
        unfold St.put at hp ⊢
        split at hp
        · cases hp
        · rw [if_neg ‹_›]
          exact putAll_back σ [c]
      obtain ⟨o1, k1, e⟩ := e
      refine ⟨p1.mono (by omega), p2, by omega, o, k, ?_⟩
      rw [p4, e]
    · rw [if_neg hp]
      dsimp only
      exact ⟨ok.mono (by omega), h, Nat.le_refl _, σ.out, σ.col, rfl⟩
end Go.Clk
