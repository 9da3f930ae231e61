/-
  Proved: whatever the texts and the stops, clackkeep.Paused answers true, and what came in reads behind the call as it read before.
  Conditions: none beyond the row's own.
-/
import Derived.Test.YtfnglkhhmplejaaKW4
import Derived.Test.YtfnglkhhmplejaaKOa
namespace Go.Proofs.Ytfnglkhhmplejaa
open Go Go.ChangeShapes Go.WideShapes Go.ChangeAt Go.RowKit Go.Clk Go.Deep

set_option maxRecDepth 100000 in
theorem paused_lifted (os : Os) (started : os.Started) (H : Type) (enc : TypeId × Value → H) :
    ReturnsInHanded {} Try.checked os 6 .any (Rows.pausedSpec.pre6 enc Try.prog Try.f6 Rows.pausedRow.domain false) (Rows.pausedSpec.post enc Try.prog Try.f6 false true false false) := by
  refine returnsInHanded_of_change_sized (C := Try.checked) kown started (by kernel_rfl) Try.func6
    (ChangeSpec.witness6 (enc := enc) (C := Try.checked) false ⟨#[], #[.slice none 0 0, .slice none 0 0], []⟩ 8 (by kernel_rfl) (by kernel_rfl) (by kernel_rfl) (by kernel_rfl)) ?_
  intro W base args ds gs before hval0 hW hcnd hsz0 _
  have hsz : (DataW.weightsEach Try.prog (Try.f6.params.toList ++ Rows.pausedSpec.plain.varTypes Try.prog) (ds ++ gs)).all (· ≤ reachBytes) = true := hsz0
  have hval : ∀ (j : Nat) t v, Try.f6.params[j]? = some t → args[j]? = some v → Value.okWide Try.prog W .any base t v := hval0
  have hW' := hW
  obtain ⟨p, q, hA0, hV, rfl, hfz, hnd⟩ := hW
  have hA : DataW.TrodAll enc Try.prog W 0 (fun _ => true) true Try.f6.params.toList args.toList ds p := hA0
  rw [Try.params6] at hA hval hsz
  obtain ⟨v0, vs0, d0, ds0, p0, q0, hargs0, rfl, rfl, h0, r0⟩ := trodAll_cons hA
  obtain ⟨v1, vs1, d1, ds1, p1, q1, rfl, rfl, rfl, h1, r1⟩ := trodAll_cons r0
  obtain ⟨rfl, rfl, rfl⟩ := trodAll_nil r1
  obtain rfl : args = #[v0, v1] := by cases args; simp_all
  obtain ⟨rfl, rfl⟩ := trodVars_none hV
  have k0 := h0
  have lt0 : ∀ x ∈ p0, x.block < W.heap.size := by obtain ⟨m, hm⟩ := k0; exact DataW.trod_lt m _ _ _ hm
  have k1 := h1
  have lt1 : ∀ x ∈ p1, x.block < W.heap.size := by obtain ⟨m, hm⟩ := k1; exact DataW.trod_lt m _ _ _ hm
  obtain ⟨fuel0, hf0⟩ := h0
  obtain ⟨fuel1, hf1⟩ := h1
  obtain ⟨a0, len0, cap0, rfl⟩ := okWide_slice Try.underlying53 (hval 0 53 v0 rfl rfl)
  obtain ⟨a1, len1, cap1, rfl⟩ := okWide_slice Try.underlying45 (hval 1 45 v1 rfl rfl)
  obtain ⟨sa, scap, ps, hv0, hS, hpl⟩ := open_strs (v := .slice a0 len0 cap0) (x := (d0, p0)) (by simpa [Value.cells] using hf0) (fun n hn => by
    have := List.all_eq_true.1 hsz n (DataW.weights_mem_each (j := 0) (t := 53) rfl rfl n hn)
    simpa using this)
  obtain ⟨ra, rcap, rs, hv1, hR, hops⟩ := open_ints (v := .slice a1 len1 cap1) (by simpa [Value.cells] using hf1)
  have hrl : rs.length ≤ 17592186044416 := by
    rcases hops with rfl | ⟨elems, rest, hx, hlen⟩
    · simp
    · have hd : d1 = .slice elems rest := hx
      have := sized_slice hsz (j := 1) (t := 45) (e := 3) (elems := elems) (spare := rest) rfl (by rw [hd]; rfl) Try.underlying45
      rw [kbytes_int] at this
      simp only [reachBytes] at this
      omega
  clear hA0 hval0
  rw [hv0, hv1]
  refine (paused_walk W sa ra scap rcap ps rs hS hR (by omega) hrl).mono fun e W' ⟨he, bel⟩ => ?_
  subst he
  rw [hv0, hv1] at hW'
  rw [hv0] at k0
  rw [hv1] at k1
  exact ⟨_, rfl, _, _, _, [], _, [], hW', trodAll_mk1 (shut_bool Try.underlying4 _), (trodAll_cons_mk (Below.trod klaidOut (by kernel_rfl) (of_decide_eq_true (by kernel_rfl)) k0 bel lt0) (trodAll_cons_mk (Below.trod klaidOut (by kernel_rfl) (of_decide_eq_true (by kernel_rfl)) k1 bel lt1) trodAll_mk0)), rfl, bel.frame _, fun h => by cases h⟩

theorem paused_over : Rows.pausedRow.holds Try.pinned (OpenSpec.ofChange Rows.pausedSpec) :=
  OpenClaim.holds_of_wide 6 Try.f6 rfl rfl rfl rfl rfl rfl rfl ⟨rfl, rfl, rfl, rfl, rfl⟩ rfl rfl rfl rfl rfl (by kernel_rfl) Try.func6 (by kernel_rfl)
    (of_decide_eq_true (by kernel_rfl)) (by unfold Func.isWrapper; first | (rw [if_pos (by decide +kernel)]; kernel_rfl) | (rw [if_neg (by decide +kernel)]; exact ⟨rfl, rfl⟩))
    (fun os started H enc _ => paused_lifted os started H enc)

theorem paused_holds : Rows.PausedSaid := paused_over
#print axioms paused_holds
end Go.Proofs.Ytfnglkhhmplejaa
