/- What came in, opened. -/
import Derived.Test.YtfnglkhhmplejaaGreatKW
import Derived.Deep.Slices
import Derived.SliceStrings
import Derived.OpenShut
import Derived.WalkKit
import Derived.ProofKit
import Derived.ChangeOld
import Derived.SizedLaws
import Derived.Below
namespace Go.Proofs.YtfnglkhhmplejaaGreat
open Go Go.ChangeShapes Go.WideShapes Go.ChangeAt Go.RowKit Go.Clk Go.Deep

theorem kown : ownKnob Tryz.prog.godebug = none := by kernel_rfl
theorem klaidOut : laidOutB Tryz.prog = true := by kernel_rfl
theorem kcells_int : Tryz.prog.cellsOf 3 = 1 := by kernel_rfl
theorem ktake_one {cs : List Value} {k : Nat} {v : Value} (h : (cs.drop k).take 1 = [v]) : cs[k]? = some v := by
  have := congrArg (fun l => l[0]?) h
  simpa [List.getElem?_take, List.getElem?_drop] using this
theorem kbytes_int : Tryz.prog.bytesOf 3 = 8 := by kernel_rfl
section
variable {H : Type} {enc : TypeId × Value → H} {w : World} {base : Nat} {spare : Nat → Bool} {held : Bool} {fuel : Nat} {x : DataW H × List MemPlace}
/-- Numbers that came in, opened. -/
theorem open_ints {v : Value} (h : DataW.trod enc Tryz.prog w base spare held fuel 55 [v] = some x) :
    ∃ (sa : Option Addr) (cap : Nat) (l : List Int), v = .slice sa l.length cap ∧ Ints w sa l ∧ (l = [] ∨ ∃ elems rest, x.1 = .slice elems rest ∧ elems.length = l.length) := by
  rcases open_slice Tryz.underlying55 h with ⟨h0, hx⟩ | ⟨a, len, cap, m, n, D, Pl, h0, hb, hl, hm, hmm, hx, hall⟩
  · simp at h0
    exact ⟨none, 0, [], h0, fun i o hi => by simp at hi, .inl rfl⟩
  · simp at h0
    rw [kcells_int] at hall
    have hlm : len ≤ m := by rw [hmm]; split <;> omega
    obtain ⟨O, hO⟩ := choose_lt (α := Int) (n := len) (p := fun i o => (-9223372036854775808 ≤ o ∧ o ≤ 9223372036854775807) ∧ w.cells? base (a.add (i * 1)) 1 = some [.int .i64 o]) fun i hi => by
      obtain ⟨cs', h1, h2⟩ := hall i (by omega)
      obtain ⟨k, h3, _, h4⟩ := DataW.trod_int Tryz.underlying3 h2
      subst h3
      exact ⟨k, bounds_i64 h4, h1⟩
    refine ⟨some a, cap, (List.range len).map O, by simpa using h0, fun i o hi => ?_, .inr ⟨_, _, by rw [hx], by simp⟩⟩
    have hil : i < len := by have := (List.getElem?_eq_some_iff.1 hi).1; simpa using this
    rw [List.getElem?_map, List.getElem?_range hil] at hi
    simp at hi
    subst hi
    obtain ⟨h1, h2⟩ := hO i hil
    obtain ⟨_, h3, h4⟩ := World.cells?_some h2
    have c0 := h4 0 (by omega)
    obtain ⟨g, off, spot⟩ := a
    have hspot : spot = none := by
      obtain ⟨_, _, q4⟩ := World.cells?_some (hO 0 (by omega)).2
      have z0 := q4 0 (by omega)
      have y0 : ([.int .i64 (O 0)] : List Value)[0]? = some (.int .i64 (O 0)) := rfl
      rw [y0] at z0
      have := World.cell?_spot z0
      simpa [Addr.add] using this
    subst hspot
    have e0 : ([.int .i64 (O i)] : List Value)[0]? = some (.int .i64 (O i)) := rfl
    rw [e0] at c0
    have adr : ((⟨g, off, none⟩ : Addr).add (i * 1)).add 0 = ⟨g, off + i, none⟩ := by rw [Addr.add_mid, Addr.add_mid]; simp
    rw [adr] at c0
    exact ⟨h1, g, off, rfl, World.block_lt_of_cell? w _ c0, c0⟩
end

end Go.Proofs.YtfnglkhhmplejaaGreat
