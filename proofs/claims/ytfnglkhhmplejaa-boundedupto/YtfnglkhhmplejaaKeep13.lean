/- Of the terminal alone: whatever is done: what holds of it. -/
import Derived.Test.YtfnglkhhmplejaaKeep12
namespace Go.Clk
open Go
structure Nrm (ss : List Int) : Prop where
  i0 : 0 ≤ gt ss 0
  i1 : gt ss 0 ≤ 8191
  o0 : 0 ≤ gt ss 1
  o1 : gt ss 1 ≤ 127
  l0 : 0 ≤ gt ss 2
  l1 : gt ss 2 ≤ 1023
theorem Nrm.norm (s : List Int) : Nrm (normS s) := by
  have g0 := normS_get s 0 (by omega)
  have g1 := normS_get s 1 (by omega)
  have g2 := normS_get s 2 (by omega)
  have l0 : lim 0 = 8192 := rfl
  have l1 : lim 1 = 128 := rfl
  have l2 : lim 2 = 1024 := rfl
  refine ⟨?_, ?_, ?_, ?_, ?_, ?_⟩
  · rw [g0, l0]; omega
  · rw [g0, l0]; omega
  · rw [g1, l1]; omega
  · rw [g1, l1]; omega
  · rw [g2, l2]; omega
  · rw [g2, l2]; omega
/-- Whatever was done: n bytes were asked for. -/
structure Bd (n K : Int) (σ : St) : Prop where
  fits : Fits n σ
  n0 : 0 ≤ n
  n1 : n ≤ 256
  inv : Inv K σ
  well : Well σ
  nrm : Nrm σ.ss
theorem Bd.new : Bd 0 0 newS := ⟨⟨rfl, fun h => by cases h⟩, by omega, by omega, Inv.new, Well.new, ⟨by decide, by decide, by decide, by decide, by decide, by decide⟩⟩
section
variable {n K M : Int} {σ : St}
theorem Bd.mono (h : Bd n K σ) (hM : K ≤ M) : Bd n M σ := ⟨h.fits, h.n0, h.n1, h.inv.mono hM, h.well, h.nrm⟩
theorem Bd.receive (h : Bd n K σ) (k : Int) (l : List UInt8) : Bd n (K + 2049 * (l.length + 1)) (σ.receive k l).1 :=
  ⟨h.fits.receive h.n0 k l, h.n0, h.n1, h.inv.receive k l, (from_receive σ k l).well h.well, by rw [(from_receive σ k l).1]; exact h.nrm⟩
theorem Bd.write (h : Bd n K σ) (l : List UInt8) : Bd n K (σ.write l).1 :=
  ⟨h.fits.write l, h.n0, h.n1, InvC.write l h.inv, (from_write l σ).well h.well, by rw [(from_write l σ).1]; exact h.nrm⟩
theorem Bd.drain (h : Bd n K σ) (m : Nat) : Bd n (K + 2048) (σ.drain m).1 :=
  ⟨h.fits.drain m, h.n0, h.n1, h.inv.drain m, (from_drain σ m).well h.well, by rw [(from_drain σ m).1]; exact h.nrm⟩
theorem Bd.take (h : Bd n K σ) : Bd n K σ.take.1 :=
  ⟨(h.fits.take h.n0).1, h.n0, h.n1, InvC.take h.inv, (from_take σ).well h.well, by rw [(from_take σ).1]; exact h.nrm⟩
theorem Bd.tick (h : Bd n K σ) : Bd n (K + 2) σ.tick := by
  have hf : From σ σ.tick := From.trans (.inq rfl fun _ h => h : From σ ({ σ with wait := σ.wait + 1 } : St)) (from_look _)
  exact ⟨h.fits.tick h.n0, h.n0, h.n1, h.inv.tick, hf.well h.well, by rw [hf.1]; exact h.nrm⟩
theorem Bd.flow (h : Bd n K σ) (k : Int) : Bd n (K + 1) (σ.flow k).1 := by
  have hf : From σ (σ.flow k).1 := by
    unfold St.flow
    repeat' split
    · exact .inq rfl fun _ h => h
    · exact .inq rfl fun _ h => h
    · exact from_urge _ _
    · exact from_urge _ _
    · exact From.refl _
  exact ⟨h.fits.flow k, h.n0, h.n1, h.inv.flow k, hf.well h.well, by rw [hf.1]; exact h.nrm⟩
theorem Bd.flush (h : Bd n K σ) (k : Int) : Bd n (K + 2049) (σ.flush k).1 := by
  have hf : From σ (σ.flush k).1 := by
    unfold St.flush
    split
    · exact From.refl _
    · refine From.trans (.inq rfl fun e he => ?_ : From σ ({ σ with inq := if k = 2 then σ.inq else [], out := if k = 1 then σ.out else [] } : St)) (from_look _)
      dsimp only at he
      split at he
      · exact he
      · cases he
  exact ⟨h.fits.flush h.n0 k, h.n0, h.n1, h.inv.flush k, hf.well h.well, by rw [hf.1]; exact h.nrm⟩
theorem Bd.set (h : Bd n K σ) (s : List Int) (k : Int) : Bd n (K + 1) (σ.set s k).1 := by
  refine ⟨h.fits.set h.n0 s k, h.n0, h.n1, h.inv.set s k, ?_, ?_⟩
  · unfold St.set
    repeat' split
    · exact h.well
    · exact h.well
    · exact (from_look _).well (Well.change (τ := { σ with inq := [] }) (fun e he => by cases he) s)
    · exact (from_look _).well (Well.change h.well s)
  · unfold St.set
    repeat' split
    · exact h.nrm
    · exact h.nrm
    · show Nrm (St.look _).ss
      rw [(from_look _).1]; exact Nrm.norm s
    · show Nrm (St.look _).ss
      rw [(from_look _).1]; exact Nrm.norm s
theorem Bd.read (h : Bd n K σ) (m : Int) : Bd (if (σ.read m).2 = 0 then m else n) (K + 1) (σ.read m).1 := by
  have hm : (σ.read m).2 = 0 → 1 ≤ m ∧ m ≤ 256 := by
    unfold St.read
    repeat' split
    · intro h; cases h
    · intro h; cases h
    · intro _; omega
  refine ⟨h.fits.read m, ?_, ?_, h.inv.read m, (from_read σ m).well h.well, by rw [(from_read σ m).1]; exact h.nrm⟩
  · split
    · rename_i h5; have := hm h5; omega
    · exact h.n0
  · split
    · rename_i h5; have := hm h5; omega
    · exact h.n1
end
theorem write_le (l : List UInt8) : ∀ σ : St, (σ.write l).2 ≤ l.length := by
  induction l with
  | nil => intro σ; simp [St.write]
  | cons c r ih =>
    intro σ
    unfold St.write
    split
    · have := ih (σ.put [c]).1
      simp only [List.length_cons]; omega
    · simp
theorem drain_len (σ : St) (m : Nat) : (σ.drain m).2.length ≤ m := by
  unfold St.drain
  dsimp only
  split
  · simp; omega
  · simp only [List.length_append, List.length_take]; omega
theorem set_ans (σ : St) (s : List Int) (k : Int) : (σ.set s k).2 ≠ 2 := by
  unfold St.set
  repeat' split
  all_goals simp
end Go.Clk
