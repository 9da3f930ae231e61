/- What came in, opened. -/
import Derived.Test.YtfnglkhhmplejaaKW
import Derived.Deep.Slices
import Derived.SliceStrings
import Derived.OpenShut
import Derived.WalkKit
import Derived.ProofKit
import Derived.ChangeOld
import Derived.SizedLaws
import Derived.Below
namespace Go.Proofs.Ytfnglkhhmplejaa
open Go Go.ChangeShapes Go.WideShapes Go.ChangeAt Go.RowKit Go.Clk Go.Deep

theorem kown : ownKnob Try.prog.godebug = none := by kernel_rfl
theorem klaidOut : laidOutB Try.prog = true := by kernel_rfl
theorem kcells_int : Try.prog.cellsOf 3 = 1 := by kernel_rfl
theorem ktake_one {cs : List Value} {k : Nat} {v : Value} (h : (cs.drop k).take 1 = [v]) : cs[k]? = some v := by
  have := congrArg (fun l => l[0]?) h
  simpa [List.getElem?_take, List.getElem?_drop] using this
theorem kbytes_int : Try.prog.bytesOf 3 = 8 := by kernel_rfl
section
variable {H : Type} {enc : TypeId × Value → H} {w : World} {base : Nat} {spare : Nat → Bool} {held : Bool} {fuel : Nat} {x : DataW H × List MemPlace}
/-- Numbers that came in, opened. -/
theorem open_ints {v : Value} (h : DataW.trod enc Try.prog w base spare held fuel 45 [v] = some x) :
    ∃ (sa : Option Addr) (cap : Nat) (l : List Int), v = .slice sa l.length cap ∧ Ints w sa l ∧ (l = [] ∨ ∃ elems rest, x.1 = .slice elems rest ∧ elems.length = l.length) := by
  rcases open_slice Try.underlying45 h with ⟨h0, hx⟩ | ⟨a, len, cap, m, n, D, Pl, h0, hb, hl, hm, hmm, hx, hall⟩
  · simp at h0
    exact ⟨none, 0, [], h0, fun i o hi => by simp at hi, .inl rfl⟩
  · simp at h0
    rw [kcells_int] at hall
    have hlm : len ≤ m := by rw [hmm]; split <;> omega
    obtain ⟨O, hO⟩ := choose_lt (α := Int) (n := len) (p := fun i o => (-9223372036854775808 ≤ o ∧ o ≤ 9223372036854775807) ∧ w.cells? base (a.add (i * 1)) 1 = some [.int .i64 o]) fun i hi => by
      obtain ⟨cs', h1, h2⟩ := hall i (by omega)
      obtain ⟨k, h3, _, h4⟩ := DataW.trod_int Try.underlying3 h2
      subst h3
      exact ⟨k, bounds_i64 h4, h1⟩
    refine ⟨some a, cap, (List.range len).map O, by simpa using h0, fun i o hi => ?_, .inr ⟨_, _, by rw [hx], by simp⟩⟩
    have hil : i < len := by have := (List.getElem?_eq_some_iff.1 hi).1; simpa using this
    rw [List.getElem?_map, List.getElem?_range hil] at hi
    simp at hi
    subst hi
    obtain ⟨h1, h2⟩ := hO i hil
    obtain ⟨_, h3, h4⟩ := World.cells?_some h2
    have c0 := h4 0 (by omega)
    obtain ⟨g, off, spot⟩ := a
    have hspot : spot = none := by
      obtain ⟨_, _, q4⟩ := World.cells?_some (hO 0 (by omega)).2
      have z0 := q4 0 (by omega)
      have y0 : ([.int .i64 (O 0)] : List Value)[0]? = some (.int .i64 (O 0)) := rfl
      rw [y0] at z0
      have := World.cell?_spot z0
      simpa [Addr.add] using this
    subst hspot
    have e0 : ([.int .i64 (O i)] : List Value)[0]? = some (.int .i64 (O i)) := rfl
    rw [e0] at c0
    have adr : ((⟨g, off, none⟩ : Addr).add (i * 1)).add 0 = ⟨g, off + i, none⟩ := by rw [Addr.add_mid, Addr.add_mid]; simp
    rw [adr] at c0
    exact ⟨h1, g, off, rfl, World.block_lt_of_cell? w _ c0, c0⟩
end

end Go.Proofs.Ytfnglkhhmplejaa
namespace Go.Proofs.Ytfnglkhhmplejaa
open Go Go.ChangeShapes Go.WideShapes Go.ChangeAt Go.RowKit Go.Clk Go.Deep
theorem kcells_string : Try.prog.cellsOf 9 = 1 := by kernel_rfl
theorem kbytes_string : Try.prog.bytesOf 9 = 16 := by kernel_rfl
section
variable {H : Type} {enc : TypeId × Value → H} {w : World} {base : Nat} {spare : Nat → Bool} {held : Bool} {fuel : Nat} {x : DataW H × List MemPlace}
theorem strs_weight {P : Program} {t : TypeId} : ∀ (l : List ByteArray) (s : ByteArray), s ∈ l → s.size ∈ DataW.weightsAll P t (strs (H := H) l)
  | a :: r, s, h => by
    simp only [strs, List.map_cons, DataW.weightsAll, DataW.weights, List.mem_append]
    rcases List.mem_cons.1 h with rfl | h
    · exact .inl (by simp)
    · exact .inr (strs_weight r s h)
  | [], s, h => by cases h
/-- Strings that came in, opened. -/
theorem open_strs {v : Value} (h : DataW.trod enc Try.prog w base spare held fuel 53 [v] = some x) (hsz : ∀ n ∈ x.1.weights Try.prog 53, n ≤ reachBytes) :
    ∃ (sa : Option Addr) (cap : Nat) (l : List ByteArray), v = .slice sa l.length cap ∧ Strs w sa l ∧ l.length ≤ 8796093022208 := by
  rcases open_strings Try.underlying53 Try.underlying9 kcells_string h with ⟨h0, hx⟩ | ⟨a, len, cap, ss, h0, hb, hl, hm, hz, hx, hcell, _⟩
  · simp at h0
    exact ⟨none, 0, [], h0, fun i o hi => by simp at hi, by simp⟩
  · simp at h0
    have hlen : len ≤ ss.length := by rw [hz]; split <;> omega
    have hl2 : (ss.take len).length = len := by simp; omega
    have hw : ∀ n ∈ (DataW.slice (strs (H := H) (ss.take len)) (strs (ss.drop len))).weights Try.prog 53, n ≤ reachBytes := by rw [hx] at hsz; exact hsz
    have hw2 : ∀ n, n = (len + (ss.length - len)) * 16 ∨ n ∈ DataW.weightsAll Try.prog 9 (strs (H := H) (ss.take len)) → n ≤ reachBytes := by
      intro n hn
      refine hw n ?_
      unfold DataW.weights
      rw [Try.underlying53]
      simp only [List.mem_cons, List.mem_append]
      rcases hn with rfl | hn
      · left; rw [kbytes_string]; simp [strs]; omega
      · right; left; exact hn
    refine ⟨some a, cap, ss.take len, by rw [hl2]; simpa using h0, fun i s hi => ?_, ?_⟩
    · have hil : i < len := by have := (List.getElem?_eq_some_iff.1 hi).1; omega
      have hc := hcell i (by omega)
      have hsi : ss.getD i ByteArray.empty = s := by
        rw [List.getElem?_take, if_pos hil] at hi
        simp [List.getD, hi]
      rw [hsi] at hc
      obtain ⟨g, off, spot⟩ := a
      have hspot : spot = none := by
        have := World.cell?_spot (hcell 0 (by omega))
        simpa [Addr.add] using this
      subst hspot
      rw [Addr.add_mid] at hc
      refine ⟨?_, g, off, rfl, World.block_lt_of_cell? w _ hc, hc⟩
      have := hw2 s.size (.inr (strs_weight _ s (List.mem_of_getElem? hi)))
      simp only [reachBytes] at this; omega
    · have := hw2 _ (.inl rfl)
      simp only [reachBytes] at this; omega
end
end Go.Proofs.Ytfnglkhhmplejaa
