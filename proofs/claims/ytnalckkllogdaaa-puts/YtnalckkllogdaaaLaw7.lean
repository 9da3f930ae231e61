/- Walks: the law: one terminal more. -/
import Derived.Test.YtnalckkllogdaaaLaw1
import Derived.Test.YtnalckkllogdaaaRef7
import Derived.Test.YtnalckkllogdaaaProg8
import Derived.Test.YtnalckkllogdaaaMem3
import Derived.Deep.RegionLaw
namespace Go.Clk
open Go Go.RowKit
/-- A call of a Go function, by its contract, inside a region that draws its order. -/
theorem step_call {P : Program} {ops : Array Oper} {o : Oper} {a : Act} {w : World} {K : Act → World → Prop} {Q : Exit → Act → World → Prop} {E : Prop} (hgd : o.guard = none) (f : FuncId) (args : Array Operand) (tys : Array TypeId)
    (ho : o.op = .call { callee := .value (.func f), args := args, argTypes := tys }) (vs : Array Value) (hvs : args.map a.eval = vs) {fn : Func} (hfn : P.funcs[f]? = some fn) (hnm : (fn.name == "runtime.NumGoroutine") = false) (hbd : fn.body.isNone = false) {R : Ending → World → Prop} (hf : Calls P f vs w R)
    (hK : ∀ e w', R e w' → ∃ v, e = .returned v ∧ K (a.put o.dst v) w') :
    if Region.wanted o (yielded ops a.tmps) = true then Oper.wp P o a w K Q else E := by
  have hw : Region.wanted o (yielded ops a.tmps) = true := by simp [Region.wanted, hgd]
  rw [if_pos hw]
  unfold Oper.wp
  subst hvs
  have hc : (callFunc f (args.map a.eval)).run P w = .ok (.enter f (args.map a.eval)) w := by
    have h1 : fn.name ≠ "runtime.NumGoroutine" := by simpa using hnm
    have h2 : fn.body ≠ none := by intro h; rw [h] at hbd; cases hbd
    simp [callFunc, hfn, h1, h2]
  simp [execOp, ho, resolve, invoke, Act.eval, Oper.upon, Deferred.ofValue, hc]
  refine Calls.mono (by simpa using hf) ?_
  intro e w' hR
  obtain ⟨v, rfl, hk⟩ := hK e w' hR
  exact hk
end Go.Clk
namespace Go.Proofs.Ytnalckkllogdaaa
open Go Go.RowKit Go.Clk

theorem info_pair : (Try.prog.info? 42).map (fun i => (i.zero, i.size, i.bytes)) = some (some (.agg #[.pointer none, .pointer none]), 2, 16) := by kernel_rfl

theorem AtP.here {S : List Nat} {w0 w : World} {b : Nat} {σ : St} (h : AtP S w0 [] b σ w) {c : Nat → Nat} {i : Nat} (hS : ∀ k, k ∈ S → k < w0.heap.size ∧ c k = i) : OP w (recol w0 c i) i b σ := by
  obtain ⟨vi, vu, vo, hl, h2⟩ := h
  obtain ⟨T, h3, h4⟩ := AtO.here h2 hS
  exact ⟨T, ⟨vi, vu, vo, hl, h3⟩, h4⟩
theorem AtR.here {S : List Nat} {w0 w : World} {b : Nat} {σ : St} (h : AtR S w0 [] b σ w) {c : Nat → Nat} {i : Nat} (hS : ∀ k, k ∈ S → k < w0.heap.size ∧ c k = i) : OR w (recol w0 c i) i b σ := by
  obtain ⟨vi, vo, vu, vn, vd, hl, h2⟩ := h
  obtain ⟨T, h3, h4⟩ := AtO.here h2 hS
  exact ⟨T, ⟨vi, vo, vu, vn, vd, hl, h3⟩, h4⟩
theorem pairCells_snoc (ps : List (Nat × Nat × St)) (bt br : Nat) (σ : St) : pairCells (ps ++ [(bt, br, σ)]) = pairCells ps ++ [.pointer (some ⟨bt, 0, none⟩), .pointer (some ⟨br, 0, none⟩)] := by
  simp [pairCells]

section
variable (I : St → Prop) (W0 : World) (wb : Nat) (ps : List (Nat × Nat × St)) (c : Nat → Nat) (w : World)

/-- What has come about when the pair is laid down. -/
theorem more_end (hI : I newS) (hW : Wd I W0 wb ps c w) (bt br : Nat) (W1 W2 W4 : World) (pa : Option Addr) (cap : Nat) (po : Option Nat)
    (hb : Blk w wb 30 [.slice pa ps.length cap, .int .i64 0, .slice none 0 0, .slice none 0 0]) (hne : po ≠ some wb) (hc0 : ∀ g, po = some g → c g = 0) (hpl : ∀ g, po = some g → g < w.heap.size)
    (hP : AtP [] w [] bt newS W1) (hR : AtR [] W1.drew [] br newS W2) (a' : Option Addr) (cap' : Nat) (own' : Option Nat)
    (hS : Sl W4 42 2 (.slice a' (ps.length + 1) cap') (ps.length + 1) (pairCells ps ++ [.pointer (some ⟨bt, 0, none⟩), .pointer (some ⟨br, 0, none⟩)]) own')
    (hG : (W2.alloc (.cells #[.pointer (some ⟨bt, 0, none⟩), .pointer (some ⟨br, 0, none⟩)] 42)).grownBy W4 po)
    (hO : own' = po ∨ own' = some (W2.heap.size + 1) ∧ W2.heap.size + 1 < W4.heap.size) :
    ∃ c', Wd I W0 wb (ps ++ [(bt, br, newS)]) c' (W4.setCell ⟨wb, 0, none⟩ (.slice a' (ps.length + 1) cap')) := by
  have hk1 : Kp [] w W1 := hP.kp
  have hk2 : Kp [] W1.drew W2 := hR.kp
  have s1 : w.heap.size ≤ W1.heap.size := hk1.size
  have s2 : W1.heap.size ≤ W2.heap.size := hk2.size
  have s4 : W2.heap.size + 1 ≤ W4.heap.size := by have := hG.size; simpa using this
  have lw : wb < w.heap.size := hb.lt
  have cb := hW.cb
  have new0 : ∀ g, c g = 0 → W0.heap.size ≤ g := fun g hg => by
    rcases Nat.lt_or_ge g W0.heap.size with h | h
    · have := hW.old g h; omega
    · exact h
  obtain ⟨W', hW'⟩ : ∃ W', W' = W4.setCell ⟨wb, 0, none⟩ (.slice a' (ps.length + 1) cap') := ⟨_, rfl⟩
  have s5 : W'.heap.size = W4.heap.size := by rw [hW']; simp
  have hold : ∀ k, k < W2.heap.size → k ≠ wb → some k ≠ po → W'.heap[k]? = W2.heap[k]? := fun k hk h1 h2 => by
    rw [hW', heap_setCell_other _ _ k _ h1, hG.block k (by simp only [World.size_alloc]; omega) h2]
    exact Below.heap_alloc W2 _ k hk
  have b1 : ∀ k, k < w.heap.size → W1.heap[k]? = w.heap[k]? := fun k hk => hk1.block k hk (by simp)
  have b2 : ∀ k, k < W1.heap.size → W2.heap[k]? = W1.heap[k]? := fun k hk => hk2.block k hk (by simp)
  obtain ⟨c1, e1⟩ : ∃ c1, c1 = recol w c (2 * ps.length + 2) := ⟨_, rfl⟩
  obtain ⟨c2, e2⟩ : ∃ c2, c2 = recol W1 c1 (2 * ps.length + 3) := ⟨_, rfl⟩
  have hOP : OP W1 c1 (2 * ps.length + 2) bt newS := by rw [e1]; exact hP.here (fun k hk => by cases hk)
  have hOR : OR W2 c2 (2 * ps.length + 3) br newS := by rw [e2]; exact hR.here (fun k hk => by cases hk)
  have o1 : ∀ k, k < w.heap.size → c1 k = c k := fun k hk => by rw [e1]; exact recol_old hk
  have o2 : ∀ k, k < W1.heap.size → c2 k = c1 k := fun k hk => by rw [e2]; exact recol_old hk
  have n2 : ∀ k, W1.heap.size ≤ k → c2 k = 2 * ps.length + 3 := fun k hk => by rw [e2]; exact recol_new hk
  have n1 : ∀ k, w.heap.size ≤ k → c1 k = 2 * ps.length + 2 := fun k hk => by rw [e1]; exact recol_new hk
  have zp : ∀ g, some g = po → c g = 0 ∧ g < w.heap.size := fun g hg => ⟨hc0 g hg.symm, hpl g hg.symm⟩
  have hsome : ∀ (i k : Nat), i ≠ 0 → k < w.heap.size → c k = i → W'.heap[k]? = w.heap[k]? := fun i k hi hk hc => by
    rw [hold k (by omega) (fun e => hi (by rw [← hc, e]; exact cb)) (fun e => hi (by rw [← hc]; exact (zp k e).1)), b2 k (by omega), b1 k hk]
  refine ⟨recol W2 c2 0, ?_⟩
  rw [← hW']
  have o3 : ∀ k, k < W2.heap.size → recol W2 c2 0 k = c2 k := fun k hk => recol_old hk
  have o : ∀ k, k < w.heap.size → recol W2 c2 0 k = c k := fun k hk => by rw [o3 k (by omega), o2 k (by omega), o1 k hk]
  have hwb' : own' ≠ some wb := by
    rcases hO with h | ⟨h, _⟩
    · rw [h]; exact hne
    · rw [h]; intro e; cases e; omega
  have hb4 : Blk W4 wb 30 [.slice pa ps.length cap, .int .i64 0, .slice none 0 0, .slice none 0 0] :=
    (hG.block wb (by simp only [World.size_alloc]; omega) (fun e => hne e.symm)).trans ((Below.heap_alloc W2 _ wb (by omega)).trans ((b2 wb (by omega)).trans ((b1 wb lw).trans hb)))
  refine ⟨?_, fun k hk => ?_, ⟨a', cap', own', ?_, ?_, hwb', ?_⟩, ?_, ?_⟩
  · have k0 : Kp [] W0 W2 := (hW.kp.trans hk1 (fun _ h => by cases h)).drew.trans hk2 (fun _ h => by cases h)
    rw [hW']
    exact ((k0.alloc _).grown hG (fun g hg => .inr (new0 g (hc0 g hg)))).set _ _ (.inr (new0 wb cb))
  · rw [o k (Nat.lt_of_lt_of_le hk hW.kp.size)]; exact hW.old k hk
  · rw [hW']
    have := hb4.set 0 (.slice a' (ps.length + 1) cap')
    simpa using this
  · rw [hW', pairCells_snoc, List.length_append, List.length_singleton]
    exact hS.set _ _ (fun g hg e => hwb' (by rw [hg, e]))
  · intro g hg
    rcases hO with h | ⟨h, _⟩
    · rw [h] at hg
      rw [o g (hpl g hg)]; exact hc0 g hg
    · rw [h] at hg; cases hg
      exact recol_new (by omega)
  · rw [o wb lw]; exact cb
  · intro i bt' br' σ' hi
    rcases Nat.lt_or_ge i ps.length with h | h
    · rw [List.getElem?_append_left h] at hi
      obtain ⟨q1, q2, q3⟩ := hW.t i bt' br' σ' hi
      exact ⟨q1.stay (by omega) (fun k hk hc => hsome _ k (by omega) hk hc) o, q2.stay (by omega) (fun k hk hc => hsome _ k (by omega) hk hc) o, q3⟩
    · rw [List.getElem?_append_right h] at hi
      have hil : i = ps.length := by
        have := (List.getElem?_eq_some_iff.1 hi).1
        simp at this; omega
      subst hil
      simp at hi
      obtain ⟨rfl, rfl, rfl⟩ := hi
      refine ⟨hOP.stay (by omega) (fun k hk hc => ?_) (fun k hk => by rw [o3 k (by omega), o2 k hk]), hOR.stay (by omega) (fun k hk hc => ?_) (fun k hk => o3 k hk), hI⟩
      · have hn : ¬ c k = 0 ∨ w.heap.size ≤ k := by
          rcases Nat.lt_or_ge k w.heap.size with h | h
          · left; rw [← o1 k h, hc]; omega
          · exact .inr h
        rw [hold k (by omega) (fun e => by subst e; rcases hn with h | h; exact h cb; omega) (fun e => by have := zp k e; rcases hn with h | h; exact h this.1; omega), b2 k hk]
      · refine hold k hk (fun e => ?_) (fun e => ?_)
        · subst e; rw [o2 k (by omega), o1 k lw] at hc; omega
        · have := zp k e; rw [o2 k (by omega), o1 k (by omega)] at hc; omega

set_option maxHeartbeats 2000000 in
set_option maxRecDepth 100000 in
theorem more_any (hI : I newS) (hW : Wd I W0 wb ps c w) (hps : ps.length ≤ 8) :
    Calls Try.prog 6 #[.pointer (some ⟨wb, 0, none⟩)] w fun e w' => e = .returned (.bool true) ∧ ∃ bt br c', Wd I W0 wb (ps ++ [(bt, br, newS)]) c' w' := by
  have HW : Hid (Wd I W0 wb ps c w) := hW
  obtain ⟨pa, cap, po, hb, hs, hne, hc0⟩ := hW.pv
  clear hW
  obtain ⟨i0, hi, hz0, hz1, hz2⟩ := info_parts info_pair
  go_enter Try.func6, Try.ntmps6
  go_wp2_with fail
  refine (New_any _).mono ?_
  rintro e W1 ⟨bt, rfl, hP⟩
  have hb1 := hP.kp.blk hb (by simp)
  have hs1 := hs.kp hP.kp (by simp)
  have k1 := hb1.cell 0 (v := .slice pa ps.length cap) rfl
  go_wp2
  go_region_law (first
    | (refine step_call rfl 15 #[] #[] rfl #[] (by simp) Try.func15 (by kernel_rfl) (by kernel_rfl) (refNew_any _) ?_
       rintro e W2 ⟨br, rfl, hR⟩
       have hb2 := hR.kp.blk hb1 (by simp)
       have hs2 := (hs1.drew.kp hR.kp (by simp)).alloc (.cells #[.pointer (some ⟨bt, 0, none⟩), .pointer (some ⟨br, 0, none⟩)] 42)
       have k2 := hb2.cell 0 (v := .slice pa ps.length cap) rfl
       have hlt2 := hb2.lt
       refine ⟨_, rfl, ?_⟩)
    | (refine step_append_sl rfl (.tmp 11) (.tmp 15) 26 26 rfl hs2 (by simp [Act.eval]) i0 _ 16 Try.underlying26 hi hz0 hz1 hz2 rfl (.slice (some ⟨W2.heap.size, 0, none⟩) 1 1) 1 [.pointer (some ⟨bt, 0, none⟩), .pointer (some ⟨br, 0, none⟩)] (by simp [Act.eval]) (Sl.src Try.underlying26 (Sl.made W2 [.pointer (some ⟨bt, 0, none⟩), .pointer (some ⟨br, 0, none⟩)] 1 42 2 rfl (by decide)) (by simp [Value.oneCell'])) (by unfold maxLen; omega) (by omega) ?_
       intro a' cap' W4 own' hS hG hO
       have hb4 : Blk W4 wb 30 [.slice pa ps.length cap, .int .i64 0, .slice none 0 0, .slice none 0 0] :=
         (hG.block wb (by simp only [World.size_alloc]; omega) (fun e => hne e.symm)).trans ((Below.heap_alloc W2 _ wb hlt2).trans hb2)
       have k4 := hb4.cell 0 (v := .slice pa ps.length cap) rfl
       have f4 := hb4.frozen 0))
  all_goals go_wp2
  all_goals go_ret
  all_goals exact ⟨rfl, bt, _, more_end I W0 wb ps c w hI HW.out bt _ W1 _ _ pa cap po hb hne hc0 (fun g hg => hs.lt hg) hP hR _ _ _ hS hG (by simpa using hO)⟩
end
end Go.Proofs.Ytnalckkllogdaaa
