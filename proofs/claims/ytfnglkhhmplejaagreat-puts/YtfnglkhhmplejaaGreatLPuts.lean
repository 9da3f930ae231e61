/-
  Proved: whatever the script, clacklaw.Puts answers true, and the script reads behind the call as it read before.
  Conditions: none but the row's own.
-/
import Derived.Test.YtfnglkhhmplejaaGreatL12
namespace Go.Clk
/-- What is known of a terminal to which nothing comes in: nothing is held back, read or urgent. -/
structure Ip (C : Int) (σ : St) : Prop where
  inv : InvC C 0 σ
  inq : σ.inq = []
  held : σ.held = false
  reads : σ.reads = false
section
variable {C D : Int} {σ : St}
theorem Ip.mono (h : Ip C σ) (hd : C ≤ D) : Ip D σ := ⟨h.inv.mono hd (Int.le_refl _), h.inq, h.held, h.reads⟩
theorem Ip.new (h : 0 ≤ D) : Ip D newS := ⟨InvC.new.mono h (Int.le_refl _), rfl, rfl, rfl⟩
theorem Ip.well (h : Ip C σ) : Well σ := fun e he => by rw [h.inq] at he; cases he
theorem Ip.urg (h : Ip C σ) : σ.urg = [] := List.eq_nil_of_length_eq_zero (by have := h.inv.urg; omega)
theorem Ip.noted (h : Ip C σ) : σ.noted = [] := List.eq_nil_of_length_eq_zero (by have := h.inv.noted; omega)
theorem Ip.small (h : Ip C σ) (hC : C ≤ 2251799813685248) : Inv 4294967296 σ := Go.Clk.Inv.mk h.inv (by omega) (by omega)
theorem Ip.write (h : Ip C σ) (l : List UInt8) : Ip C (σ.write l).1 := by
  refine ⟨InvC.write l h.inv, ?_, ?_, ?_⟩ <;> obtain ⟨o, k, e⟩ := write_frame l σ <;> rw [e]
  · exact h.inq
  · exact h.held
  · exact h.reads
theorem Ip.drain (h : Ip C σ) (n : Nat) : Ip (C + 2048) (σ.drain n).1 := by
  have e : (σ.drain n).1.urg = [] ∧ (σ.drain n).1.noted = [] ∧ (σ.drain n).1.wait = σ.wait ∧ (σ.drain n).1.inq = [] ∧ (σ.drain n).1.held = false ∧ (σ.drain n).1.reads = false := by
    have hu := h.urg
    unfold St.drain
    dsimp only
    split
    · exact ⟨by simp [hu], h.noted, rfl, h.inq, h.held, h.reads⟩
    · exact ⟨by simp [hu], h.noted, rfl, h.inq, h.held, h.reads⟩
  exact ⟨(InvC.drain h.inv n).reset 0 (Int.le_refl _) e.1 e.2.1 (by rw [e.2.2.1]; exact h.inv.w1), e.2.2.2.1, e.2.2.2.2.1, e.2.2.2.2.2⟩
theorem look_same (h1 : σ.inq = []) (h2 : σ.held = false) (h3 : σ.reads = false) : σ.look = σ := by
  have e : σ.ends = σ := by unfold St.ends; rw [h3]; rfl
  unfold St.look
  rw [e]
  unfold St.hold
  rw [h1, h2]
  simp
theorem Ip.set (h : Ip C σ) (s : List Int) : Ip C (σ.set s 0).1 := by
  have e : (σ.set s 0).1 = σ.change s := by
    unfold St.set
    rw [if_neg (by omega), if_neg (by omega)]
    have e2 : ({ σ with inq := if (0 : Int) = 2 then [] else σ.inq } : St) = σ := by rw [if_neg (by omega)]
    dsimp only
    rw [e2]
    refine look_same ?_ h.held h.reads
    unfold St.change
    dsimp only
    rw [h.inq]
    split <;> rfl
  rw [e]
  refine ⟨InvC.change h.inv s, ?_, h.held, h.reads⟩
  unfold St.change
  dsimp only
  rw [h.inq]
  split <;> rfl
end
end Go.Clk
namespace Go.Proofs.YtfnglkhhmplejaaGreat
open Go Go.ChangeShapes Go.WideShapes Go.ChangeAt Go.RowKit Go.Clk Go.Deep

theorem lbytes_op : Tryz.prog.bytesOf 60 = 176 := by kernel_rfl

section
variable (C : Int) (wb : Nat) (kind term n : Int) (s : ByteArray) (ss : List Int)
theorem does_puts (M : Nat) (hC : C ≤ 2251799813685248) (hk : 1 ≤ kind) (hk' : kind ≤ 5) (hn1 : n ≤ 9223372036854775807) (hmx : s.size ≤ maxLen) (hss : ss.length = 17) :
    DoesOk (Ip C) (Ip (C + 2048)) M wb kind term n s ss := by
  have up : ∀ σ, Ip C σ → Ip (C + 2048) σ := fun σ h => h.mono (by omega)
  have cases : kind = 1 ∨ kind = 2 ∨ kind = 3 ∨ kind = 4 ∨ kind = 5 := by omega
  have d1 : ∀ i : Nat, 2 * i + 4 ≠ 2 * i + 5 := fun i => by omega
  have d2 : ∀ i : Nat, 2 * i + 4 ≠ 0 := fun i => by omega
  have d3 : ∀ i : Nat, 2 * i + 5 ≠ 0 := fun i => by omega
  rcases cases with rfl | rfl | rfl | rfl | rfl
  · refine does_of_dn M up fun W c i bt br σ hP hI => ?_
    exact (does_tell _ _ bt br wb σ σ W 1 term n s ss c hP hss rfl rfl rfl rfl rfl rfl rfl rfl (fun W' c' hP => tells_get c' _ _ bt br wb σ W' term n s ss hP (d1 i) (d2 i) (d3 i))).mono fun e w' hD => ⟨σ, up σ hI, hD⟩
  · refine does_of_dn M up fun W c i bt br σ hP hI => ?_
    exact (does_write 4294967296 c _ _ bt br wb σ W term n s ss hP (d1 i) (d2 i) (hI.small hC) (by decide) hmx).mono fun e w' hD => ⟨_, up _ (hI.write _), hD⟩
  · refine does_of_dn M up fun W c i bt br σ hP hI => ?_
    rcases Int.lt_or_le n 0 with h0 | h0
    · exact (does_tell _ _ bt br wb σ σ W 3 term n s ss c hP hss rfl rfl rfl rfl rfl rfl rfl rfl (fun W' c' hP => tells_drain_no c' _ _ bt br wb σ W' term n s ss hP (d1 i) (d2 i) h0)).mono fun e w' hD => ⟨σ, up σ hI, hD⟩
    · exact (does_tell _ _ bt br wb σ _ W 3 term n s ss c hP hss rfl rfl rfl rfl rfl rfl rfl rfl (fun W' c' hP => tells_drain 4294967296 c' _ _ bt br wb σ W' term n s ss hP (d1 i) (d2 i) h0 hn1 (hI.small hC) (by decide))).mono fun e w' hD => ⟨_, hI.drain _, hD⟩
  · refine does_of_dn M up fun W c i bt br σ hP hI => ?_
    exact (does_tell _ _ bt br wb σ σ W 4 term n s ss c hP hss rfl rfl rfl rfl rfl rfl rfl rfl (fun W' c' hP => tells_status c' _ _ bt br wb σ W' term n s ss hP (d1 i) (d2 i) (d3 i))).mono fun e w' hD => ⟨σ, up σ hI, hD⟩
  · refine does_of_dn M up fun W c i bt br σ hP hI => ?_
    exact (does_out 4294967296 c _ _ bt br wb σ W term n s ss hP (d1 i) (d2 i) (d3 i) (hI.small hC) (by decide) hI.well hss).mono fun e w' hD => ⟨_, up _ (hI.set _), hD⟩
end
theorem plays_full (w : World) (sa : Option Addr) (cap : Nat) (ops : List Opn) (hS : Script w sa ops) (hl : ops.length ≤ 1000000000000) :
    Calls Tryz.prog 9 #[.slice sa ops.length cap, .int .i64 5] w fun e w' => e = .returned (.bool true) ∧ Kp [] w w' := by
  refine plays_any 5 (fun i σ => Ip (2048 * i) σ) w sa cap ops hS (by omega) (by decide) (by decide) (fun i => Ip.new (by omega)) (fun i σ h => h.mono (by omega)) ?_ ?_
  · intro i o ho h1 h2 _
    have hok := (hS i o ho).1
    have hil : i < ops.length := (List.getElem?_eq_some_iff.1 ho).1
    exact (does_puts _ w.heap.size o.kind o.term o.n o.s o.ss i (by omega) h1 h2 hok.n1 hok.s1 hok.l).mono fun σ h => h.mono (by omega)
  · intro i k h1 h2 h3 h4
    have hk : 1 ≤ k := by unfold askKind at h4; simp at h4; omega
    exact (does_puts _ w.heap.size k 0 1000 ByteArray.empty (List.replicate 17 0) i (by omega) hk h3 (by decide) (by decide) (by simp)).mono fun σ h => h.mono (by omega)

set_option maxHeartbeats 2000000 in
set_option maxRecDepth 100000 in
theorem puts_walk (w : World) (sa : Option Addr) (cap : Nat) (ops : List Opn) (hS : Script w sa ops) (hl : ops.length ≤ 1000000000000) :
    Calls Tryz.prog 3 #[.slice sa ops.length cap] w fun e w' => e = .returned (.bool true) ∧ Below w.heap.size w w' := by
  have HS : Hid (Script w sa ops) := hS
  clear hS
  go_enter Tryz.func3, Tryz.ntmps3
  go_wp2_with fail
  refine (plays_full w sa cap ops HS.out hl).mono ?_
  rintro e W ⟨rfl, hk⟩
  have HF : Hid (Below w.heap.size w W) := ⟨hk.os, hk.tape, hk.output, hk.size, fun k h => hk.block k h (by simp)⟩
  clear hk
  go_wp2
  go_ret
  exact ⟨rfl, HF.out⟩

set_option maxRecDepth 100000 in
theorem puts_lifted (os : Os) (started : os.Started) (H : Type) (enc : TypeId × Value → H) :
    ReturnsInHanded {} Tryz.checked os 3 .any (Rows.putsSpec.pre6 enc Tryz.prog Tryz.f3 Rows.putsRow.domain false) (Rows.putsSpec.post enc Tryz.prog Tryz.f3 false true false false) := by
  refine returnsInHanded_of_change_sized (C := Tryz.checked) lown started (by kernel_rfl) Tryz.func3
    (ChangeSpec.witness6 (enc := enc) (C := Tryz.checked) false ⟨#[], #[.slice none 0 0], []⟩ 8 (by kernel_rfl) (by kernel_rfl) (by kernel_rfl) (by kernel_rfl)) ?_
  intro W base args ds gs before hval0 hW hcnd hsz0 _
  have hval : ∀ (j : Nat) t v, Tryz.f3.params[j]? = some t → args[j]? = some v → Value.okWide Tryz.prog W .any base t v := hval0
  have hsz : (DataW.weightsEach Tryz.prog (Tryz.f3.params.toList ++ Rows.putsSpec.plain.varTypes Tryz.prog) (ds ++ gs)).all (· ≤ reachBytes) = true := hsz0
  have hW' := hW
  obtain ⟨p, q, hA0, hV, rfl, hfz, hnd⟩ := hW
  have hA : DataW.TrodAll enc Tryz.prog W 0 (fun _ => true) true Tryz.f3.params.toList args.toList ds p := hA0
  rw [Tryz.params3] at hA hval hsz
  obtain ⟨v0, vs0, d0, ds0, p0, q0, hargs, rfl, rfl, h0, r0⟩ := trodAll_cons hA
  obtain ⟨rfl, rfl, rfl⟩ := trodAll_nil r0
  obtain rfl : args = #[v0] := by cases args; simp_all
  obtain ⟨rfl, rfl⟩ := trodVars_none hV
  have k0 := h0
  have lt0 : ∀ x ∈ p0, x.block < W.heap.size := by obtain ⟨m, hm⟩ := k0; exact DataW.trod_lt m _ _ _ hm
  obtain ⟨fuel, hf⟩ := h0
  obtain ⟨a0, len0, cap0, rfl⟩ := okWide_slice Tryz.underlying22 (hval 0 22 v0 rfl rfl)
  obtain ⟨sa, cap, ops, hv, hS, _, hops⟩ := lopen_script (v := .slice a0 len0 cap0) (x := (d0, p0)) (by simpa [Value.cells] using hf)
  have hl : ops.length ≤ 1000000000000 := by
    rcases hops with rfl | ⟨elems, rest, hx, hlen⟩
    · simp
    · have hd : d0 = .slice elems rest := hx
      have := sized_slice hsz (j := 0) (t := 22) (e := 60) (elems := elems) (spare := rest) rfl (by rw [hd]; rfl) Tryz.underlying22
      rw [lbytes_op] at this
      simp only [reachBytes] at this
      omega
  clear hA0 hval0
  rw [hv]
  refine (puts_walk W sa cap ops hS hl).mono fun e W' ⟨he, bel⟩ => ?_
  subst he
  rw [hv] at k0 hW'
  exact ⟨_, rfl, _, _, _, [], _, [], hW', trodAll_mk1 (shut_bool Tryz.underlying4 _), (trodAll_cons_mk (Below.trod llaidOut (by kernel_rfl) (of_decide_eq_true (by kernel_rfl)) k0 bel lt0) trodAll_mk0), rfl, bel.frame _, fun h => by cases h⟩

theorem puts_over : Rows.putsRow.holds Tryz.pinned (OpenSpec.ofChange Rows.putsSpec) :=
  OpenClaim.holds_of_wide 3 Tryz.f3 rfl rfl rfl rfl rfl rfl rfl ⟨rfl, rfl, rfl, rfl, rfl⟩ rfl rfl rfl rfl rfl (by kernel_rfl) Tryz.func3 (by kernel_rfl)
    (of_decide_eq_true (by kernel_rfl)) (by unfold Func.isWrapper; first | (rw [if_pos (by decide +kernel)]; kernel_rfl) | (rw [if_neg (by decide +kernel)]; exact ⟨rfl, rfl⟩))
    (fun os started H enc _ => puts_lifted os started H enc)

theorem puts_holds : Rows.PutsSaid := puts_over
#print axioms puts_holds
end Go.Proofs.YtfnglkhhmplejaaGreat
