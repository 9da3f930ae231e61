/- The document's answer as plain functions: what a terminal keeps to while nothing but Get, Write, Drain, Status and the flags that go out are asked for. -/
import Derived.Test.YtnalckkllogdaaaSpec3
namespace Go.Clk
open Go
theorem normS_len (s : List Int) : (normS s).length = 17 := by simp [normS]
theorem normS_get (s : List Int) (k : Nat) (hk : k < 17) : gt (normS s) k = gt s k % lim k := by
  unfold normS gt List.getD
  rw [List.getElem?_map, List.getElem?_range hk]
  rfl
structure IP (C : Int) (σ : St) : Prop where
  ok : Ok σ C
  out : σ.out.length ≤ 256
  urg : σ.urg.length ≤ 1000000000
  reads : σ.reads = false
  held : σ.held = false
  fl : bit σ.i 2048 = false
theorem IP.mono {C D : Int} {σ : St} (h : IP C σ) (hd : C ≤ D) : IP D σ := ⟨h.ok.mono hd, h.out, h.urg, h.reads, h.held, h.fl⟩
theorem IP.new : IP 0 newS := by
  refine ⟨⟨rfl, by decide, by decide, by decide, by decide, by decide, by decide, fun k => ?_, by decide, by decide⟩, by decide, by decide, rfl, rfl, by decide⟩
  rcases Nat.lt_or_ge k 14 with h | h
  · match k, h with
    | 0, _ | 1, _ | 2, _ | 3, _ | 4, _ | 5, _ | 6, _ | 7, _ | 8, _ | 9, _ | 10, _ | 11, _ | 12, _ | 13, _ => exact ⟨by decide, by decide⟩
  · have : newS.ch k = 0 := by
      unfold St.ch gt List.getD
      rw [List.getElem?_eq_none (by show firstS.length ≤ 3 + k; unfold firstS; simp; omega)]
      rfl
    omega
theorem IP.write {C : Int} {σ : St} (h : IP C σ) (l : List UInt8) : IP (C + 2048) (σ.write l).1 := by
  obtain ⟨h1, h2, h3, o, k, h4⟩ := write_inv l h.ok h.out
  refine ⟨h1.mono (by omega), h2, ?_, ?_, ?_, ?_⟩
  · rw [h4]; exact h.urg
  · rw [h4]; exact h.reads
  · rw [h4]; exact h.held
  · rw [h4]; exact h.fl
theorem IP.drain {C : Int} {σ : St} (h : IP C σ) (n : Nat) : IP C (σ.drain n).1 := by
  have o := h.ok
  unfold St.drain
  dsimp only
  split
  · exact ⟨⟨o.len, o.i0, o.i1, o.o0, o.o1, o.l0, o.l1, o.ch, o.c0, o.c1⟩, h.out, by have := h.urg; simp; omega, h.reads, h.held, h.fl⟩
  · exact ⟨⟨o.len, o.i0, o.i1, o.o0, o.o1, o.l0, o.l1, o.ch, o.c0, o.c1⟩, by have := h.out; simp; omega, by have := h.urg; simp; omega, h.reads, h.held, h.fl⟩
theorem IP.flags {C : Int} {σ : St} (h : IP C σ) (x : Int) (q : Bool) : IP C { σ with ss := normS (σ.ss.set 1 x), quoted := q } := by
  have o := h.ok
  have hl := o.len
  have g0 : gt (normS (σ.ss.set 1 x)) 0 = σ.i := by
    rw [normS_get _ 0 (by omega)]
    have : gt (σ.ss.set 1 x) 0 = σ.i := by simp [gt, St.i, List.getD]
    rw [this]; exact Int.emod_eq_of_lt o.i0 o.i1
  have g1 := normS_get (σ.ss.set 1 x) 1 (by omega)
  have g2 := normS_get (σ.ss.set 1 x) 2 (by omega)
  have l1 : lim 1 = 128 := rfl
  have l2 : lim 2 = 1024 := rfl
  refine ⟨⟨normS_len _, ?_, ?_, ?_, ?_, ?_, ?_, fun k => ?_, o.c0, o.c1⟩, h.out, h.urg, h.reads, h.held, ?_⟩
  · show 0 ≤ gt (normS (σ.ss.set 1 x)) 0; rw [g0]; exact o.i0
  · show gt (normS (σ.ss.set 1 x)) 0 < 8192; rw [g0]; exact o.i1
  · show 0 ≤ gt (normS (σ.ss.set 1 x)) 1; rw [g1, l1]; omega
  · show gt (normS (σ.ss.set 1 x)) 1 < 8192; rw [g1, l1]; omega
  · show 0 ≤ gt (normS (σ.ss.set 1 x)) 2; rw [g2, l2]; omega
  · show gt (normS (σ.ss.set 1 x)) 2 < 8192; rw [g2, l2]; omega
  · show 0 ≤ gt (normS (σ.ss.set 1 x)) (3 + k) ∧ gt (normS (σ.ss.set 1 x)) (3 + k) < 256
    rcases Nat.lt_or_ge k 14 with hk | hk
    · rw [normS_get _ (3 + k) (by omega)]
      have : lim (3 + k) = 256 := by unfold lim; rw [if_neg (by omega), if_neg (by omega), if_neg (by omega)]
      rw [this]; omega
    · have : gt (normS (σ.ss.set 1 x)) (3 + k) = 0 := by
        unfold gt List.getD
        rw [List.getElem?_eq_none (by rw [normS_len]; omega)]
        rfl
      omega
  · show bit (gt (normS (σ.ss.set 1 x)) 0) 2048 = false; rw [g0]; exact h.fl
end Go.Clk
