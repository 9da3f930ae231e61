/-
  Proved: whatever the numbers and the events, clackkeep.Timed answers true, and what came in reads behind the call as it read before.
  Conditions: none beyond the row's own.
-/
import Derived.Test.YtloadnnlmoeaiaaKW1
import Derived.Deep.Slices
import Derived.OpenShut
import Derived.WalkKit
import Derived.ProofKit
import Derived.ChangeOld
import Derived.SizedLaws
import Derived.Below
namespace Go.Proofs.Ytloadnnlmoeaiaa
open Go Go.ChangeShapes Go.WideShapes Go.ChangeAt Go.RowKit Go.Clk Go.Deep

theorem kown : ownKnob Try.prog.godebug = none := by kernel_rfl
theorem klaidOut : laidOutB Try.prog = true := by kernel_rfl
theorem kcells_int : Try.prog.cellsOf 3 = 1 := by kernel_rfl
theorem ktake_one {cs : List Value} {k : Nat} {v : Value} (h : (cs.drop k).take 1 = [v]) : cs[k]? = some v := by
  have := congrArg (fun l => l[0]?) h
  simpa [List.getElem?_take, List.getElem?_drop] using this
theorem kbytes_int : Try.prog.bytesOf 3 = 8 := by kernel_rfl
section
variable {H : Type} {enc : TypeId × Value → H} {w : World} {base : Nat} {spare : Nat → Bool} {held : Bool} {fuel : Nat} {x : DataW H × List MemPlace}
/-- Numbers that came in, opened. -/
theorem open_ints {v : Value} (h : DataW.trod enc Try.prog w base spare held fuel 50 [v] = some x) :
    ∃ (sa : Option Addr) (cap : Nat) (l : List Int), v = .slice sa l.length cap ∧ Ints w sa l ∧ (l = [] ∨ ∃ elems rest, x.1 = .slice elems rest ∧ elems.length = l.length) := by
  rcases open_slice Try.underlying50 h with ⟨h0, hx⟩ | ⟨a, len, cap, m, n, D, Pl, h0, hb, hl, hm, hmm, hx, hall⟩
  · simp at h0
    exact ⟨none, 0, [], h0, fun i o hi => by simp at hi, .inl rfl⟩
  · simp at h0
    rw [kcells_int] at hall
    have hlm : len ≤ m := by rw [hmm]; split <;> omega
    obtain ⟨O, hO⟩ := choose_lt (α := Int) (n := len) (p := fun i o => (-9223372036854775808 ≤ o ∧ o ≤ 9223372036854775807) ∧ w.cells? base (a.add (i * 1)) 1 = some [.int .i64 o]) fun i hi => by
      obtain ⟨cs', h1, h2⟩ := hall i (by omega)
      obtain ⟨k, h3, _, h4⟩ := DataW.trod_int Try.underlying3 h2
      subst h3
      exact ⟨k, bounds_i64 h4, h1⟩
    refine ⟨some a, cap, (List.range len).map O, by simpa using h0, fun i o hi => ?_, .inr ⟨_, _, by rw [hx], by simp⟩⟩
    have hil : i < len := by have := (List.getElem?_eq_some_iff.1 hi).1; simpa using this
    rw [List.getElem?_map, List.getElem?_range hil] at hi
    simp at hi
    subst hi
    obtain ⟨h1, h2⟩ := hO i hil
    obtain ⟨_, h3, h4⟩ := World.cells?_some h2
    have c0 := h4 0 (by omega)
    obtain ⟨g, off, spot⟩ := a
    have hspot : spot = none := by
      obtain ⟨_, _, q4⟩ := World.cells?_some (hO 0 (by omega)).2
      have z0 := q4 0 (by omega)
      have y0 : ([.int .i64 (O 0)] : List Value)[0]? = some (.int .i64 (O 0)) := rfl
      rw [y0] at z0
      have := World.cell?_spot z0
      simpa [Addr.add] using this
    subst hspot
    have e0 : ([.int .i64 (O i)] : List Value)[0]? = some (.int .i64 (O i)) := rfl
    rw [e0] at c0
    have adr : ((⟨g, off, none⟩ : Addr).add (i * 1)).add 0 = ⟨g, off + i, none⟩ := by rw [Addr.add_mid, Addr.add_mid]; simp
    rw [adr] at c0
    exact ⟨h1, g, off, rfl, World.block_lt_of_cell? w _ c0, c0⟩
end

set_option maxRecDepth 100000 in
theorem timed_lifted (os : Os) (started : os.Started) (H : Type) (enc : TypeId × Value → H) :
    ReturnsInHanded {} Try.checked os 5 .any (Rows.timedSpec.pre6 enc Try.prog Try.f5 Rows.timedRow.domain false) (Rows.timedSpec.post enc Try.prog Try.f5 false true false false) := by
  refine returnsInHanded_of_change_sized (C := Try.checked) kown started (by kernel_rfl) Try.func5
    (ChangeSpec.witness6 (enc := enc) (C := Try.checked) false ⟨#[], #[.int .i64 0, .int .i64 0, .int .i64 0, .int .i64 0, .slice none 0 0], []⟩ 8 (by kernel_rfl) (by kernel_rfl) (by kernel_rfl) (by kernel_rfl)) ?_
  intro W base args ds gs before hval0 hW hcnd hsz0 _
  have hsz : (DataW.weightsEach Try.prog (Try.f5.params.toList ++ Rows.timedSpec.plain.varTypes Try.prog) (ds ++ gs)).all (· ≤ reachBytes) = true := hsz0
  have hval : ∀ (j : Nat) t v, Try.f5.params[j]? = some t → args[j]? = some v → Value.okWide Try.prog W .any base t v := hval0
  have hW' := hW
  obtain ⟨p, q, hA0, hV, rfl, hfz, hnd⟩ := hW
  have hA : DataW.TrodAll enc Try.prog W 0 (fun _ => true) true Try.f5.params.toList args.toList ds p := hA0
  rw [Try.params5] at hA hval hsz
  obtain ⟨v0, vs0, d0, ds0, p0, q0, hargs0, rfl, rfl, h0, r0⟩ := trodAll_cons hA
  obtain ⟨v1, vs1, d1, ds1, p1, q1, rfl, rfl, rfl, h1, r1⟩ := trodAll_cons r0
  obtain ⟨v2, vs2, d2, ds2, p2, q2, rfl, rfl, rfl, h2, r2⟩ := trodAll_cons r1
  obtain ⟨v3, vs3, d3, ds3, p3, q3, rfl, rfl, rfl, h3, r3⟩ := trodAll_cons r2
  obtain ⟨v4, vs4, d4, ds4, p4, q4, rfl, rfl, rfl, h4, r4⟩ := trodAll_cons r3
  obtain ⟨rfl, rfl, rfl⟩ := trodAll_nil r4
  obtain rfl : args = #[v0, v1, v2, v3, v4] := by cases args; simp_all
  obtain ⟨rfl, rfl⟩ := trodVars_none hV
  obtain ⟨a0, rfl, rfl, rfl, w0⟩ := open_int Try.underlying3 (hval 0 3 v0 rfl rfl) h0
  obtain ⟨a1, rfl, rfl, rfl, w1⟩ := open_int Try.underlying3 (hval 1 3 v1 rfl rfl) h1
  obtain ⟨a2, rfl, rfl, rfl, w2⟩ := open_int Try.underlying3 (hval 2 3 v2 rfl rfl) h2
  obtain ⟨a3, rfl, rfl, rfl, w3⟩ := open_int Try.underlying3 (hval 3 3 v3 rfl rfl) h3
  have k4 := h4
  have lt4 : ∀ x ∈ p4, x.block < W.heap.size := by obtain ⟨m, hm⟩ := k4; exact DataW.trod_lt m _ _ _ hm
  obtain ⟨fuel, hf⟩ := h4
  obtain ⟨a4, len4, cap4, rfl⟩ := okWide_slice Try.underlying50 (hval 4 50 v4 rfl rfl)
  obtain ⟨sa, cap, ev, hv, hE, hops⟩ := open_ints (v := .slice a4 len4 cap4) (by simpa [Value.cells] using hf)
  have hl : ev.length ≤ 17592186044416 := by
    rcases hops with rfl | ⟨elems, rest, hx, hlen⟩
    · simp
    · have hd : d4 = .slice elems rest := hx
      have := sized_slice hsz (j := 4) (t := 50) (e := 3) (elems := elems) (spare := rest) rfl (by rw [hd]; rfl) Try.underlying50
      rw [kbytes_int] at this
      simp only [reachBytes] at this
      omega
  clear hA0 hval0
  rw [hv]
  refine (timed_walk W a0 a1 a2 a3 (bounds_i64 w0) (bounds_i64 w1) sa cap ev hE hl).mono fun e W' ⟨he, bel⟩ => ?_
  subst he
  rw [hv] at k4 hW'
  exact ⟨_, rfl, _, _, _, [], _, [], hW', trodAll_mk1 (shut_bool Try.underlying4 _), (trodAll_cons_mk (shut_int Try.underlying3 w0) (trodAll_cons_mk (shut_int Try.underlying3 w1) (trodAll_cons_mk (shut_int Try.underlying3 w2) (trodAll_cons_mk (shut_int Try.underlying3 w3) (trodAll_cons_mk (Below.trod klaidOut (by kernel_rfl) (of_decide_eq_true (by kernel_rfl)) k4 bel lt4) trodAll_mk0))))), rfl, bel.frame _, fun h => by cases h⟩

theorem timed_over : Rows.timedRow.holds Try.pinned (OpenSpec.ofChange Rows.timedSpec) :=
  OpenClaim.holds_of_wide 5 Try.f5 rfl rfl rfl rfl rfl rfl rfl ⟨rfl, rfl, rfl, rfl, rfl⟩ rfl rfl rfl rfl rfl (by kernel_rfl) Try.func5 (by kernel_rfl)
    (of_decide_eq_true (by kernel_rfl)) (by unfold Func.isWrapper; first | (rw [if_pos (by decide +kernel)]; kernel_rfl) | (rw [if_neg (by decide +kernel)]; exact ⟨rfl, rfl⟩))
    (fun os started H enc _ => timed_lifted os started H enc)

theorem timed_holds : Rows.TimedSaid := timed_over
#print axioms timed_holds
end Go.Proofs.Ytloadnnlmoeaiaa
