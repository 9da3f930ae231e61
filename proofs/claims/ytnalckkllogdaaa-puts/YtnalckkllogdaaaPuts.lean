/-
  Proved: whatever the script, clacklaw.Puts answers true, and the script reads behind the call as it read before.
  Conditions: none but the row's own.
-/
import Derived.Test.YtnalckkllogdaaaOpen
import Derived.WalkKit
import Derived.ProofKit
import Derived.ShutString
import Derived.ChangeOld
import Derived.Below
import Derived.SizedLaws
namespace Go.Proofs.Ytnalckkllogdaaa
open Go Go.ChangeShapes Go.WideShapes Go.ChangeAt Go.RowKit Go.Clk

theorem own : ownKnob Try.prog.godebug = none := by kernel_rfl
theorem laidOut : laidOutB Try.prog = true := by kernel_rfl
theorem bytes_op : Try.prog.bytesOf 36 = 176 := by kernel_rfl

set_option maxHeartbeats 2000000 in
set_option maxRecDepth 100000 in
theorem puts_walk (w : World) (sa : Option Addr) (cap : Nat) (ops : List Opn) (hS : Script w sa ops) (hl : ops.length ≤ 562949953421000) :
    Calls Try.prog 3 #[.slice sa ops.length cap] w fun e w' => e = .returned (.bool true) ∧ Below w.heap.size w w' := by
  have HS : Hid (Script w sa ops) := hS
  clear hS
  go_enter Try.func3, Try.ntmps3
  go_wp2_with fail
  refine (plays_puts w sa cap ops HS.out hl).mono ?_
  rintro e W ⟨rfl, hk⟩
  have HF : Hid (Below w.heap.size w W) := ⟨hk.os, hk.tape, hk.output, hk.size, fun k h => hk.block k h (by simp)⟩
  clear hk
  go_wp2
  go_ret
  exact ⟨rfl, HF.out⟩

set_option maxRecDepth 100000 in
theorem puts_lifted (os : Os) (started : os.Started) (H : Type) (enc : TypeId × Value → H) :
    ReturnsInHanded {} Try.checked os 3 .any (Rows.putsSpec.pre6 enc Try.prog Try.f3 Rows.putsRow.domain false) (Rows.putsSpec.post enc Try.prog Try.f3 false true false false) := by
  refine returnsInHanded_of_change_sized (C := Try.checked) own started (by kernel_rfl) Try.func3
    (ChangeSpec.witness6 (enc := enc) (C := Try.checked) false ⟨#[], #[.slice none 0 0], []⟩ 8 (by kernel_rfl) (by kernel_rfl) (by kernel_rfl) (by kernel_rfl)) ?_
  intro W base args ds gs before hval0 hW hcnd hsz0 _
  have hval : ∀ (j : Nat) t v, Try.f3.params[j]? = some t → args[j]? = some v → Value.okWide Try.prog W .any base t v := hval0
  have hsz : (DataW.weightsEach Try.prog (Try.f3.params.toList ++ Rows.putsSpec.plain.varTypes Try.prog) (ds ++ gs)).all (· ≤ reachBytes) = true := hsz0
  have hW' := hW
  obtain ⟨p, q, hA0, hV, rfl, hfz, hnd⟩ := hW
  have hA : DataW.TrodAll enc Try.prog W 0 (fun _ => true) true Try.f3.params.toList args.toList ds p := hA0
  rw [Try.params3] at hA hval hsz
  obtain ⟨v0, vs0, d0, ds0, p0, q0, hargs, rfl, rfl, h0, r0⟩ := trodAll_cons hA
  obtain ⟨rfl, rfl, rfl⟩ := trodAll_nil r0
  obtain rfl : args = #[v0] := by cases args; simp_all
  obtain ⟨rfl, rfl⟩ := trodVars_none hV
  have k0 := h0
  have lt0 : ∀ x ∈ p0, x.block < W.heap.size := by obtain ⟨m, hm⟩ := k0; exact DataW.trod_lt m _ _ _ hm
  obtain ⟨fuel, hf⟩ := h0
  obtain ⟨a0, len0, cap0, rfl⟩ := okWide_slice Try.underlying22 (hval 0 22 v0 rfl rfl)
  obtain ⟨sa, cap, ops, hv, hS, hops⟩ := open_script (v := .slice a0 len0 cap0) (by simpa [Value.cells] using hf)
  have hl : ops.length ≤ 562949953421000 := by
    rcases hops with rfl | ⟨elems, rest, hx, hlen⟩
    · simp
    · have hd : d0 = .slice elems rest := hx
      have := sized_slice hsz (j := 0) (t := 22) (e := 36) (elems := elems) (spare := rest) rfl (by rw [hd]; rfl) Try.underlying22
      rw [bytes_op] at this
      simp only [reachBytes] at this
      omega
  clear hA0 hval0
  rw [hv]
  refine (puts_walk W sa cap ops hS hl).mono fun e W' ⟨he, bel⟩ => ?_
  subst he
  rw [hv] at k0 hW'
  exact ⟨_, rfl, _, _, _, [], _, [], hW', trodAll_mk1 (shut_bool Try.underlying4 _), (trodAll_cons_mk (Below.trod laidOut (by kernel_rfl) (of_decide_eq_true (by kernel_rfl)) k0 bel lt0) trodAll_mk0), rfl, bel.frame _, fun h => by cases h⟩

theorem puts_over : Rows.putsRow.holds Try.pinned (OpenSpec.ofChange Rows.putsSpec) :=
  OpenClaim.holds_of_wide 3 Try.f3 rfl rfl rfl rfl rfl rfl rfl ⟨rfl, rfl, rfl, rfl, rfl⟩ rfl rfl rfl rfl rfl (by kernel_rfl) Try.func3 (by kernel_rfl)
    (of_decide_eq_true (by kernel_rfl)) (by unfold Func.isWrapper; first | (rw [if_pos (by decide +kernel)]; kernel_rfl) | (rw [if_neg (by decide +kernel)]; exact ⟨rfl, rfl⟩))
    (fun os started H enc _ => puts_lifted os started H enc)

theorem puts_holds : Rows.PutsSaid := puts_over
#print axioms puts_holds
end Go.Proofs.Ytnalckkllogdaaa
