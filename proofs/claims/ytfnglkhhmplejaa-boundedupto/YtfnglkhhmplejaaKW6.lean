/- Walks: clackkeep.Bounded. -/
import Derived.Test.YtfnglkhhmplejaaKW
import Derived.Test.YtfnglkhhmplejaaKeep13
import Derived.Deep.DeepCutAuto
import Derived.Deep.CutBlock
import Derived.Deep.RegionWith
import Derived.Deep.RegionLaw
import Derived.Deep.RegionHeld2
namespace Go.Clk
open Go Go.RowKit
/-- A struct is loaded out of a block, inside a region that draws its order. -/
theorem step_load_part {P : Program} {ops : Array Oper} {o : Oper} {a : Act} {w : World} {K : Act → World → Prop} {Q : Exit → Act → World → Prop} {E : Prop} (hgd : o.guard = none) (x : Operand) (ty : TypeId)
    (hop : o.op = .load ty x) (g off : Nat) (hx : a.eval x = .pointer (some ⟨g, off, none⟩)) (cs : List Value) (d : TypeDesc) (hc : ∀ j v, cs[j]? = some v → w.cell? ⟨g, off + j, none⟩ = some v)
    (hu : P.underlying ty = some d) (hd : (match d with | .struct _ | .array _ _ => true | _ => false) = true) (hi : (P.info? ty).map (·.size) = some cs.length)
    (h : K (a.put o.dst (.agg cs.toArray)) w) : if Region.wanted o (yielded ops a.tmps) = true then Oper.wp P o a w K Q else E := by
  have hw : Region.wanted o (yielded ops a.tmps) = true := by simp [Region.wanted, hgd]
  rw [if_pos hw]
  have hl : (loadCells ⟨g, off, none⟩ cs.length).run P w = .ok cs.toArray w :=
    run_loadCells_list (P := P) w ⟨g, off, none⟩ cs (fun j v hv => by rw [Addr.add_lit]; exact hc j v hv)
  have hr : (loadVar ty ⟨g, off, none⟩).run P w = .ok (.agg cs.toArray) w := by
    cases hq : P.info? ty with
    | none => simp [hq] at hi
    | some i =>
      have hs : i.size = cs.length := by simpa [hq] using hi
      have hagg : (isAgg ty).run P w = .ok true w := by
        unfold isAgg
        rw [Sem.run_bind, run_underlying hu w]
        cases d <;> simp_all
      simp [loadVar, Sem.run_bind, hagg, sizeOf, typeInfo, hq, hs, hl]
  unfold Oper.wp execOp
  simp only [hop, hx, Instr.loadAt, Instr.sureAddr, Sem.run_bind, Sem.run_pure, Result.andThen_ok, hr]
  exact h
/-- A call of a Go function, by its contract, inside a region that draws its order. -/
theorem step_call {P : Program} {ops : Array Oper} {o : Oper} {a : Act} {w : World} {K : Act → World → Prop} {Q : Exit → Act → World → Prop} {E : Prop} (hgd : o.guard = none) (f : FuncId) (args : Array Operand) (tys : Array TypeId)
    (ho : o.op = .call { callee := .value (.func f), args := args, argTypes := tys }) (vs : Array Value) (hvs : args.map a.eval = vs) {fn : Func} (hfn : P.funcs[f]? = some fn) (hnm : (fn.name == "runtime.NumGoroutine") = false) (hbd : fn.body.isNone = false) {R : Ending → World → Prop} (hf : Calls P f vs w R)
    (hK : ∀ e w', R e w' → ∃ v, e = .returned v ∧ K (a.put o.dst v) w') :
    if Region.wanted o (yielded ops a.tmps) = true then Oper.wp P o a w K Q else E := by
  have hw : Region.wanted o (yielded ops a.tmps) = true := by simp [Region.wanted, hgd]
  rw [if_pos hw]
  unfold Oper.wp
  subst hvs
  have hc : (callFunc f (args.map a.eval)).run P w = .ok (.enter f (args.map a.eval)) w := by
    have h1 : fn.name ≠ "runtime.NumGoroutine" := by simpa using hnm
    have h2 : fn.body ≠ none := by intro h; rw [h] at hbd; cases hbd
    simp [callFunc, hfn, h1, h2]
  simp [execOp, ho, resolve, invoke, Act.eval, Oper.upon, Deferred.ofValue, hc]
  refine Calls.mono (by simpa using hf) ?_
  intro e w' hR
  obtain ⟨v, rfl, hk⟩ := hK e w' hR
  exact hk
end Go.Clk
namespace Go.Proofs.Ytfnglkhhmplejaa
open Go Go.RowKit Go.Clk
structure Opk where
  kind : Int
  n : Int
  s : ByteArray
  ss : List Int
def Opk.cells (o : Opk) : List Value := [.int .i64 o.kind, .int .i64 o.n, .string o.s] ++ i64s o.ss
structure Opk.Ok (o : Opk) : Prop where
  k0 : -9223372036854775808 ≤ o.kind
  k1 : o.kind ≤ 9223372036854775807
  n0 : -9223372036854775808 ≤ o.n
  n1 : o.n ≤ 9223372036854775807
  sz : o.s.size ≤ 9223372036854775807
  l : o.ss.length = 17
def opsW : List Opk → Nat
  | [] => 0
  | o :: r => o.s.size + 1 + opsW r
theorem opsW_app (a b : List Opk) : opsW (a ++ b) = opsW a + opsW b := by
  induction a with
  | nil => simp [opsW]
  | cons o r ih => simp only [List.cons_append, opsW, ih]; omega
theorem opsW_next (ops : List Opk) (j : Nat) (o : Opk) (h : ops[j]? = some o) : opsW (ops.take (j + 1)) = opsW (ops.take j) + o.s.size + 1 := by
  rw [List.take_add_one, h, opsW_app]; simp [opsW]; omega
theorem opsW_le (ops : List Opk) (j : Nat) : opsW (ops.take j) ≤ opsW ops := by
  have := opsW_app (ops.take j) (ops.drop j)
  rw [List.take_append_drop] at this; omega
theorem opsW_len (ops : List Opk) : ops.length ≤ opsW ops := by
  induction ops with
  | nil => simp
  | cons o r ih => simp only [List.length_cons, opsW]; omega
theorem seventeen (l : List Int) (h : l.length = 17) : ∃ a0 a1 a2 a3 a4 a5 a6 a7 a8 a9 a10 a11 a12 a13 a14 a15 a16 : Int, l = [a0, a1, a2, a3, a4, a5, a6, a7, a8, a9, a10, a11, a12, a13, a14, a15, a16] := by
  refine ⟨l[0], l[1], l[2], l[3], l[4], l[5], l[6], l[7], l[8], l[9], l[10], l[11], l[12], l[13], l[14], l[15], l[16], ?_⟩
  apply List.ext_getElem
  · simp [h]
  · intro i h1 h2
    have : i < 17 := by omega
    repeat (first | (rcases i with _ | i; · rfl) | omega)
def Scriptk (w : World) (sa : Option Addr) (ops : List Opk) : Prop := ∀ i o, ops[i]? = some o → o.Ok ∧ ∃ g off, sa = some ⟨g, off, none⟩ ∧ g < w.heap.size ∧ ∀ j v, o.cells[j]? = some v → w.cell? ⟨g, off + i * 20 + j, none⟩ = some v
theorem opk_len (o : Opk) (h : o.ss.length = 17) : o.cells.length = 20 := by simp [Opk.cells, i64s, h]
theorem opk_one (o : Opk) : ∀ u ∈ o.cells, u.oneCell' = true := by
  intro u hu
  simp only [Opk.cells, List.mem_append] at hu
  rcases hu with hu | hu
  · simp at hu
    rcases hu with rfl | rfl | rfl <;> rfl
  · exact i64s_one _ u hu
theorem opk_set (o : Opk) (j : Nat) (v : Value) (h : (i64s o.ss)[j]? = some v) : o.cells[3 + j]? = some v := by
  unfold Opk.cells
  rw [List.getElem?_append_right (by simp)]
  simpa using h
theorem size_opk : (Try.prog.info? 59).map (·.size) = some 20 := by kernel_rfl
abbrev zero20 : List Value := [.int .i64 0, .int .i64 0, .string ⟨#[]⟩] ++ zero17
theorem str_nil_empty : (str ([] : List UInt8)).toList.isEmpty = true := by
  unfold str ByteArray.toList ByteArray.toList.loop
  simp [ByteArray.size]
set_option maxHeartbeats 40000000 in
set_option maxRecDepth 100000 in
theorem bounded_walk (w : World) (sa : Option Addr) (cap : Nat) (ops : List Opk) (hS : Scriptk w sa ops) (hW : opsW ops ≤ 1048576) :
    Calls Try.prog 8 #[.slice sa ops.length cap] w fun e w' => e = .returned (.bool true) ∧ Below w.heap.size w w' := by
  have HB := begin_any w
  have HS : Hid (Scriptk w sa ops) := hS
  have hlen := opsW_len ops
  clear hS
  go_enter Try.func8, Try.ntmps8
  go_wp2_with (go_at_call 9; refine HB.mono ?_; clear HB; rintro e W0 ⟨b, rfl, hW0⟩)
  have HB0 : Hid (Bd 0 (10 + 3000 * ((opsW (ops.take 0) : Nat) : Int)) newS) := Bd.new.mono (by omega)
  go_loopg [4, 5, 6, 7, 8, 9, 10, 11, 12, 13, 14, 15, 16] ops.length (fun kk av iv _ _ _ _ _ _ _ _ _ _ _ wr => ∃ (j : Nat) (n : Int) (σ : St), j + kk = ops.length ∧ av = .int .i64 n ∧ iv = .int .i64 j ∧ AtT [] w [] b σ wr ∧ Hid (Bd n (10 + 3000 * ((opsW (ops.take j) : Nat) : Int)) σ))
  case atStart => exact ⟨0, 0, newS, by omega, rfl, rfl, hW0, HB0⟩
  case round =>
    clear hW0 HB0
    obtain ⟨j, n, σ, hj, rfl, rfl, hR, hbd⟩ := hrel
    by_cases hlt : j < ops.length
    · have hlt' : (j : Int) < (ops.length : Int) := by omega
      obtain ⟨o, ho⟩ : ∃ o, ops[j]? = some o := ⟨ops[j], List.getElem?_eq_getElem hlt⟩
      obtain ⟨hok, g, off, rfl, hg, hcell⟩ := HS.out j o ho
      have HNX : Hid (opsW (ops.take (j + 1)) = opsW (ops.take j) + o.s.size + 1) := opsW_next ops j o ho
      have hnx : opsW (ops.take j) + o.s.size + 1 ≤ 1048576 := by have := opsW_le ops (j + 1); rw [HNX.out] at this; omega
      have HCell : Hid (∀ jj v, o.cells[jj]? = some v → wr.cell? ⟨g, off + j * 20 + jj, none⟩ = some v) := fun jj v hv => (hR.kp.cell (a := ⟨g, off + j * 20 + jj, none⟩) hg (by simp)).trans (hcell jj v hv)
      have hcl := opk_len o hok.l
      clear hcell ho
      go_wp2_with (first
        | (refine wpList_load_part rfl (.tmp 28) 59 rfl g (off + j * 20) (by first | rfl | simp [Act.eval]) o.cells _ HCell.out Try.underlying59 rfl (by rw [hcl]; exact size_opk) ?_)
        | (refine wpList_store_whole rfl (.tmp 6) (.tmp 29) 59 rfl wr.heap.size rfl o.cells rfl 59 zero20 (Blk.new wr _ _) (by rw [hcl]; rfl) (by rw [hcl]; exact size_opk) (opk_one o) ?_))
      intro W1 hb1 hg1 hz1
      obtain ⟨hW1, _⟩ := hR.filled _ hg1
      obtain ⟨B, hB⟩ : ∃ B, wr.heap.size = B := ⟨_, rfl⟩
      rw [hB] at hW1 hb1 ⊢
      have HBk : Hid (Blk W1 B 59 o.cells) := hb1
      have c0 := hb1.cell 0 (v := .int .i64 o.kind) rfl
      have c1 := hb1.cell 1 (v := .int .i64 o.n) rfl
      have c2 := hb1.cell 2 (v := .string o.s) rfl
      clear hb1 hg1 hz1 hB HCell hR hcl
      have p10 := pickN_lt o.kind 10 (by omega)
      have hp10 := fun W => kpick_any o.kind 10 W (by omega) (by omega) hok.k0 hok.k1
      obtain ⟨kd, hkd⟩ : ∃ kd : Int, pickN o.kind 10 = kd := ⟨_, rfl⟩
      rw [hkd] at hp10 p10
      clear hkd
      have hks : kd = 0 ∨ kd = 1 ∨ kd = 2 ∨ kd = 3 ∨ kd = 4 ∨ kd = 5 ∨ kd = 6 ∨ kd = 7 ∨ kd = 8 ∨ kd = 9 := by omega
      clear p10
      have PK : Hid (∀ W, Calls Try.prog 19 #[.int .i64 o.kind, .int .i64 10] W fun e w' => e = .returned (.int .i64 kd) ∧ W = w') := hp10
      clear hp10
      rcases hks with rfl | rfl | rfl | rfl | rfl | rfl | rfl | rfl | rfl | rfl
      · as_aux_lemma =>
          have p4 := pickN_lt o.n 4 (by omega)
          have hp4 := fun W => kpick_any o.n 4 W (by omega) (by omega) hok.n0 hok.n1
          obtain ⟨k4, hk4⟩ : ∃ k4 : Int, pickN o.n 4 = k4 := ⟨_, rfl⟩
          rw [hk4] at hp4 p4
          clear hk4
          obtain ⟨p41, p42⟩ := p4
          have hwp : IntKind.i64.wrap (k4 - 1) = k4 - 1 := by simp [IntKind.wrap, IntKind.bits, IntKind.signed]; omega
          have HRC : Hid (∀ W, AtT [] w [B] b σ W → Calls Try.prog 13 #[.pointer (some ⟨b, 0, none⟩), .int .i64 (k4 - 1), .string o.s] W fun e w' => e = .returned (.int .i64 (σ.receive (k4 - 1) o.s.data.toList).2) ∧ AtT [] w [B] b (σ.receive (k4 - 1) o.s.data.toList).1 w' ∧ Kq [B] W w') := fun W hW => hW.calls fun S u h => TReceive S u [B] b σ W _ h hbd.out.inv hbd.out.well (k4 - 1) o.s (by have := hok.sz; unfold maxLen; omega) (by omega)
          have HP4 : Hid (∀ W, Calls Try.prog 19 #[.int .i64 o.n, .int .i64 4] W fun e w' => e = .returned (.int .i64 k4) ∧ W = w') := hp4
          have hsz : o.s.data.toList.length = o.s.size := by rw [Array.length_toList]; rfl
          have HB2 : Hid (Bd n (10 + 3000 * ((opsW (ops.take (j + 1)) : Nat) : Int)) (σ.receive (k4 - 1) o.s.data.toList).1) := (hbd.out.receive (k4 - 1) o.s.data.toList).mono (by rw [hsz, HNX.out]; omega)
          have hwd := hW1.drew
          clear hsz hp4
          generalize (σ.receive (k4 - 1) o.s.data.toList).2 = ans at *
          generalize (σ.receive (k4 - 1) o.s.data.toList).1 = τ at *
          have HBd : Hid (Blk W1.drew B 59 o.cells) := HBk.out
          go_wp2_with (go_at_call 19; refine (PK.out _).mono ?_; clear PK; rintro e w' ⟨rfl, hw⟩; subst hw)
          go_region_held2 (fun w' => w'.cell? ⟨B, 1, none⟩ = some (.int .i64 o.n) ∧ w'.cell? ⟨B, 2, none⟩ = some (.string o.s)) (go_keep) (first
            | (go_at_call 19; refine (HP4.out _).mono ?_; rintro e w' ⟨rfl, hw⟩; subst hw)
            | (go_at_call 13; refine (HRC.out _ ?_).mono ?_; exact hwd; rintro e V1 ⟨rfl, hV1, hk1⟩; have hb1 := hk1.blk HBd.out (by simp); have d1 := hb1.cell 1 (v := .int .i64 o.n) rfl; have d2 := hb1.cell 2 (v := .string o.s) rfl; clear hb1 hk1))
          clear HRC HP4 hwd HBd
          have hbd2 := HB2.out
          have q1 : ¬ ((τ.inq.length : Nat) : Int) < 0 := by omega
          have q2 : ¬ (256 : Int) < ((τ.inq.length : Nat) : Int) := by have := hbd2.inv.inq; omega
          have q3 : ¬ ((τ.out.length : Nat) : Int) < 0 := by omega
          have q4 : ¬ (256 : Int) < ((τ.out.length : Nat) : Int) := by have := hbd2.inv.out; omega
          have q5 : ¬ τ.col < 0 := by have := hbd2.inv.c0; omega
          clear hbd2
          have hst := TStatus [] w [B] b τ V1 hV1
          go_wp2_with (first
            | (go_at_call 18; refine hst.mono ?_; clear hst; rintro e X1 ⟨rfl, hX1⟩)
            | (refine wpList_store_whole rfl (.tmp 16) (.tmp 175) 42 rfl X1.heap.size rfl (statusL τ) rfl 42 zero6 (Blk.new X1 _ _) rfl rfl (statusL_one _) ?_))
          intro X2 xb2 xg2 xz2
          obtain ⟨hX2, _⟩ := hX1.filled _ xg2
          have s0 := xb2.cell 0 (v := .int .i64 τ.inq.length) rfl
          have s1 := xb2.cell 1 (v := .int .i64 τ.out.length) rfl
          have s2 := xb2.cell 2 (v := .int .i64 τ.col) rfl
          have hX3 : AtT [] w [] b τ X2 := hX2.weaken fun g hg => by cases hg
          clear xb2 xg2 xz2 hX1 hX2
          go_wp2_with fail
          go_roundg (gk - 1)
          case measure => omega
          case rel => exact ⟨j + 1, n, τ, by omega, rfl, by go_num, hX3, HB2⟩
      · as_aux_lemma =>
          have p4 := pickN_lt o.n 4 (by omega)
          have hp4 := fun W => kpick_any o.n 4 W (by omega) (by omega) hok.n0 hok.n1
          obtain ⟨k4, hk4⟩ : ∃ k4 : Int, pickN o.n 4 = k4 := ⟨_, rfl⟩
          rw [hk4] at hp4 p4
          clear hk4
          obtain ⟨p41, p42⟩ := p4
          have hwp : IntKind.i64.wrap (k4 - 1) = k4 - 1 := by simp [IntKind.wrap, IntKind.bits, IntKind.signed]; omega
          have HRC : Hid (∀ W, AtT [] w [B] b σ W → Calls Try.prog 13 #[.pointer (some ⟨b, 0, none⟩), .int .i64 (k4 - 1), .string o.s] W fun e w' => e = .returned (.int .i64 (σ.receive (k4 - 1) o.s.data.toList).2) ∧ AtT [] w [B] b (σ.receive (k4 - 1) o.s.data.toList).1 w' ∧ Kq [B] W w') := fun W hW => hW.calls fun S u h => TReceive S u [B] b σ W _ h hbd.out.inv hbd.out.well (k4 - 1) o.s (by have := hok.sz; unfold maxLen; omega) (by omega)
          have HP4 : Hid (∀ W, Calls Try.prog 19 #[.int .i64 o.n, .int .i64 4] W fun e w' => e = .returned (.int .i64 k4) ∧ W = w') := hp4
          have hsz : o.s.data.toList.length = o.s.size := by rw [Array.length_toList]; rfl
          have HB2 : Hid (Bd n (10 + 3000 * ((opsW (ops.take (j + 1)) : Nat) : Int)) (σ.receive (k4 - 1) o.s.data.toList).1) := (hbd.out.receive (k4 - 1) o.s.data.toList).mono (by rw [hsz, HNX.out]; omega)
          have hwd := hW1.drew
          clear hsz hp4
          generalize (σ.receive (k4 - 1) o.s.data.toList).2 = ans at *
          generalize (σ.receive (k4 - 1) o.s.data.toList).1 = τ at *
          have HBd : Hid (Blk W1.drew B 59 o.cells) := HBk.out
          go_wp2_with (go_at_call 19; refine (PK.out _).mono ?_; clear PK; rintro e w' ⟨rfl, hw⟩; subst hw)
          go_region_held2 (fun w' => w'.cell? ⟨B, 1, none⟩ = some (.int .i64 o.n) ∧ w'.cell? ⟨B, 2, none⟩ = some (.string o.s)) (go_keep) (first
            | (go_at_call 19; refine (HP4.out _).mono ?_; rintro e w' ⟨rfl, hw⟩; subst hw)
            | (go_at_call 13; refine (HRC.out _ ?_).mono ?_; exact hwd; rintro e V1 ⟨rfl, hV1, hk1⟩; have hb1 := hk1.blk HBd.out (by simp); have d1 := hb1.cell 1 (v := .int .i64 o.n) rfl; have d2 := hb1.cell 2 (v := .string o.s) rfl; clear hb1 hk1))
          clear HRC HP4 hwd HBd
          have hbd2 := HB2.out
          have q1 : ¬ ((τ.inq.length : Nat) : Int) < 0 := by omega
          have q2 : ¬ (256 : Int) < ((τ.inq.length : Nat) : Int) := by have := hbd2.inv.inq; omega
          have q3 : ¬ ((τ.out.length : Nat) : Int) < 0 := by omega
          have q4 : ¬ (256 : Int) < ((τ.out.length : Nat) : Int) := by have := hbd2.inv.out; omega
          have q5 : ¬ τ.col < 0 := by have := hbd2.inv.c0; omega
          clear hbd2
          have hst := TStatus [] w [B] b τ V1 hV1
          go_wp2_with (first
            | (go_at_call 18; refine hst.mono ?_; clear hst; rintro e X1 ⟨rfl, hX1⟩)
            | (refine wpList_store_whole rfl (.tmp 16) (.tmp 175) 42 rfl X1.heap.size rfl (statusL τ) rfl 42 zero6 (Blk.new X1 _ _) rfl rfl (statusL_one _) ?_))
          intro X2 xb2 xg2 xz2
          obtain ⟨hX2, _⟩ := hX1.filled _ xg2
          have s0 := xb2.cell 0 (v := .int .i64 τ.inq.length) rfl
          have s1 := xb2.cell 1 (v := .int .i64 τ.out.length) rfl
          have s2 := xb2.cell 2 (v := .int .i64 τ.col) rfl
          have hX3 : AtT [] w [] b τ X2 := hX2.weaken fun g hg => by cases hg
          clear xb2 xg2 xz2 hX1 hX2
          go_wp2_with fail
          go_roundg (gk - 1)
          case measure => omega
          case rel => exact ⟨j + 1, n, τ, by omega, rfl, by go_num, hX3, HB2⟩
      · as_aux_lemma =>
          have hwr : Hid (∀ W, AtT [] w [B] b σ W → Calls Try.prog 25 #[.pointer (some ⟨b, 0, none⟩), .string o.s] W fun e w' => e = .returned (.int .i64 ((σ.write o.s.data.toList).2 : Nat)) ∧ AtT [] w [B] b (σ.write o.s.data.toList).1 w' ∧ Kq [B] W w') := fun W hW => hW.calls fun S u h => TWrite S u [B] b σ W _ h hbd.out.inv (by omega) o.s (by have := hok.sz; unfold maxLen; omega)
          have hle := write_le o.s.data.toList σ
          have hsz : o.s.data.toList.length = o.s.size := by rw [Array.length_toList]; rfl
          rw [hsz] at hle
          have HB2 : Hid (Bd n (10 + 3000 * ((opsW (ops.take (j + 1)) : Nat) : Int)) (σ.write o.s.data.toList).1) := (hbd.out.write o.s.data.toList).mono (by rw [HNX.out]; omega)
          clear hsz
          generalize (σ.write o.s.data.toList).2 = m at *
          generalize (σ.write o.s.data.toList).1 = τ at *
          have t1 : ¬ ((m : Nat) : Int) < 0 := by omega
          have t2 : ¬ (o.s.size : Int) < ((m : Nat) : Int) := by omega
          go_upto_if 62 with (first
            | (go_at_call 19; refine (PK.out _).mono ?_; clear PK; rintro e w' ⟨rfl, hw⟩; subst hw)
            | (go_at_call 25; refine (hwr.out _ hW1).mono ?_; clear hwr; rintro e V1 ⟨rfl, hV1, hk1⟩; have hb1 := hk1.blk HBk.out (by simp); have d2 := hb1.cell 2 (v := .string o.s) rfl; clear hb1))
          have hbd2 := HB2.out
          have q1 : ¬ ((τ.inq.length : Nat) : Int) < 0 := by omega
          have q2 : ¬ (256 : Int) < ((τ.inq.length : Nat) : Int) := by have := hbd2.inv.inq; omega
          have q3 : ¬ ((τ.out.length : Nat) : Int) < 0 := by omega
          have q4 : ¬ (256 : Int) < ((τ.out.length : Nat) : Int) := by have := hbd2.inv.out; omega
          have q5 : ¬ τ.col < 0 := by have := hbd2.inv.c0; omega
          clear hbd2
          have hst := TStatus [] w [B] b τ V1 hV1
          go_wp2_with (first
            | (go_at_call 18; refine hst.mono ?_; clear hst; rintro e X1 ⟨rfl, hX1⟩)
            | (refine wpList_store_whole rfl (.tmp 16) (.tmp 175) 42 rfl X1.heap.size rfl (statusL τ) rfl 42 zero6 (Blk.new X1 _ _) rfl rfl (statusL_one _) ?_))
          intro X2 xb2 xg2 xz2
          obtain ⟨hX2, _⟩ := hX1.filled _ xg2
          have s0 := xb2.cell 0 (v := .int .i64 τ.inq.length) rfl
          have s1 := xb2.cell 1 (v := .int .i64 τ.out.length) rfl
          have s2 := xb2.cell 2 (v := .int .i64 τ.col) rfl
          have hX3 : AtT [] w [] b τ X2 := hX2.weaken fun g hg => by cases hg
          clear xb2 xg2 xz2 hX1 hX2
          go_wp2_with fail
          go_roundg (gk - 1)
          case measure => omega
          case rel => exact ⟨j + 1, n, τ, by omega, rfl, by go_num, hX3, HB2⟩
      · as_aux_lemma =>
          by_cases hneg : o.n < 0
          · have hdr : Hid (∀ W, AtT [] w [B] b σ W → Calls Try.prog 27 #[.pointer (some ⟨b, 0, none⟩), .int .i64 o.n] W fun e w' => e = .returned (.tuple #[.string (str []), .int .i64 2]) ∧ AtT [] w [B] b σ w' ∧ Kq [B] W w') := fun W hW => hW.calls fun S u h => TDrain_no S u [B] b σ W h o.n hneg
            have HB2 : Hid (Bd n (10 + 3000 * ((opsW (ops.take (j + 1)) : Nat) : Int)) σ) := hbd.out.mono (by rw [HNX.out]; omega)
            have t1 : ¬ (0 : Int) < ((str ([] : List UInt8)).size : Int) := by rw [str_size]; simp
            clear hbd
            go_upto_if 89 with (first
              | (go_at_call 19; refine (PK.out _).mono ?_; clear PK; rintro e w' ⟨rfl, hw⟩; subst hw)
              | (go_at_call 27; refine (hdr.out _ hW1).mono ?_; clear hdr; rintro e V1 ⟨rfl, hV1, hk1⟩; have hb1 := hk1.blk HBk.out (by simp); have d1 := hb1.cell 1 (v := .int .i64 o.n) rfl; clear hb1))
            have hbd2 := HB2.out
            have q1 : ¬ ((σ.inq.length : Nat) : Int) < 0 := by omega
            have q2 : ¬ (256 : Int) < ((σ.inq.length : Nat) : Int) := by have := hbd2.inv.inq; omega
            have q3 : ¬ ((σ.out.length : Nat) : Int) < 0 := by omega
            have q4 : ¬ (256 : Int) < ((σ.out.length : Nat) : Int) := by have := hbd2.inv.out; omega
            have q5 : ¬ σ.col < 0 := by have := hbd2.inv.c0; omega
            clear hbd2
            have hst := TStatus [] w [B] b σ V1 hV1
            go_wp2_with (first
              | (go_at_call 18; refine hst.mono ?_; clear hst; rintro e X1 ⟨rfl, hX1⟩)
              | (refine wpList_store_whole rfl (.tmp 16) (.tmp 175) 42 rfl X1.heap.size rfl (statusL σ) rfl 42 zero6 (Blk.new X1 _ _) rfl rfl (statusL_one _) ?_))
            intro X2 xb2 xg2 xz2
            obtain ⟨hX2, _⟩ := hX1.filled _ xg2
            have s0 := xb2.cell 0 (v := .int .i64 σ.inq.length) rfl
            have s1 := xb2.cell 1 (v := .int .i64 σ.out.length) rfl
            have s2 := xb2.cell 2 (v := .int .i64 σ.col) rfl
            have hX3 : AtT [] w [] b σ X2 := hX2.weaken fun g hg => by cases hg
            clear xb2 xg2 xz2 hX1 hX2
            go_wp2_with fail
            go_roundg (gk - 1)
            case measure => omega
            case rel => exact ⟨j + 1, n, σ, by omega, rfl, by go_num, hX3, HB2⟩
          · have hdr : Hid (∀ W, AtT [] w [B] b σ W → Calls Try.prog 27 #[.pointer (some ⟨b, 0, none⟩), .int .i64 o.n] W fun e w' => e = .returned (.tuple #[.string (str (σ.drain o.n.toNat).2), .int .i64 0]) ∧ AtT [] w [B] b (σ.drain o.n.toNat).1 w' ∧ Kq [B] W w') := fun W hW => hW.calls fun S u h => TDrain S u [B] b σ W _ h hbd.out.inv (by omega) o.n (by omega) hok.n1
            have HB2 : Hid (Bd n (10 + 3000 * ((opsW (ops.take (j + 1)) : Nat) : Int)) (σ.drain o.n.toNat).1) := (hbd.out.drain o.n.toNat).mono (by rw [HNX.out]; omega)
            have hdl := drain_len σ o.n.toNat
            have t2 : ¬ o.n < ((str (σ.drain o.n.toNat).2).size : Int) := by rw [str_size]; omega
            clear hdl
            generalize (σ.drain o.n.toNat).2 = dd at *
            generalize (σ.drain o.n.toNat).1 = τ at *
            by_cases hd0 : (0 : Int) < ((str dd).size : Int)
            · clear hbd
              go_upto_if 89 with (first
                | (go_at_call 19; refine (PK.out _).mono ?_; clear PK; rintro e w' ⟨rfl, hw⟩; subst hw)
                | (go_at_call 27; refine (hdr.out _ hW1).mono ?_; clear hdr; rintro e V1 ⟨rfl, hV1, hk1⟩; have hb1 := hk1.blk HBk.out (by simp); have d1 := hb1.cell 1 (v := .int .i64 o.n) rfl; clear hb1))
              have hbd2 := HB2.out
              have q1 : ¬ ((τ.inq.length : Nat) : Int) < 0 := by omega
              have q2 : ¬ (256 : Int) < ((τ.inq.length : Nat) : Int) := by have := hbd2.inv.inq; omega
              have q3 : ¬ ((τ.out.length : Nat) : Int) < 0 := by omega
              have q4 : ¬ (256 : Int) < ((τ.out.length : Nat) : Int) := by have := hbd2.inv.out; omega
              have q5 : ¬ τ.col < 0 := by have := hbd2.inv.c0; omega
              clear hbd2
              have hst := TStatus [] w [B] b τ V1 hV1
              go_wp2_with (first
                | (go_at_call 18; refine hst.mono ?_; clear hst; rintro e X1 ⟨rfl, hX1⟩)
                | (refine wpList_store_whole rfl (.tmp 16) (.tmp 175) 42 rfl X1.heap.size rfl (statusL τ) rfl 42 zero6 (Blk.new X1 _ _) rfl rfl (statusL_one _) ?_))
              intro X2 xb2 xg2 xz2
              obtain ⟨hX2, _⟩ := hX1.filled _ xg2
              have s0 := xb2.cell 0 (v := .int .i64 τ.inq.length) rfl
              have s1 := xb2.cell 1 (v := .int .i64 τ.out.length) rfl
              have s2 := xb2.cell 2 (v := .int .i64 τ.col) rfl
              have hX3 : AtT [] w [] b τ X2 := hX2.weaken fun g hg => by cases hg
              clear xb2 xg2 xz2 hX1 hX2
              go_wp2_with fail
              go_roundg (gk - 1)
              case measure => omega
              case rel => exact ⟨j + 1, n, τ, by omega, rfl, by go_num, hX3, HB2⟩
            · clear hbd
              go_upto_if 89 with (first
                | (go_at_call 19; refine (PK.out _).mono ?_; clear PK; rintro e w' ⟨rfl, hw⟩; subst hw)
                | (go_at_call 27; refine (hdr.out _ hW1).mono ?_; clear hdr; rintro e V1 ⟨rfl, hV1, hk1⟩; have hb1 := hk1.blk HBk.out (by simp); have d1 := hb1.cell 1 (v := .int .i64 o.n) rfl; clear hb1))
              have hbd2 := HB2.out
              have q1 : ¬ ((τ.inq.length : Nat) : Int) < 0 := by omega
              have q2 : ¬ (256 : Int) < ((τ.inq.length : Nat) : Int) := by have := hbd2.inv.inq; omega
              have q3 : ¬ ((τ.out.length : Nat) : Int) < 0 := by omega
              have q4 : ¬ (256 : Int) < ((τ.out.length : Nat) : Int) := by have := hbd2.inv.out; omega
              have q5 : ¬ τ.col < 0 := by have := hbd2.inv.c0; omega
              clear hbd2
              have hst := TStatus [] w [B] b τ V1 hV1
              go_wp2_with (first
                | (go_at_call 18; refine hst.mono ?_; clear hst; rintro e X1 ⟨rfl, hX1⟩)
                | (refine wpList_store_whole rfl (.tmp 16) (.tmp 175) 42 rfl X1.heap.size rfl (statusL τ) rfl 42 zero6 (Blk.new X1 _ _) rfl rfl (statusL_one _) ?_))
              intro X2 xb2 xg2 xz2
              obtain ⟨hX2, _⟩ := hX1.filled _ xg2
              have s0 := xb2.cell 0 (v := .int .i64 τ.inq.length) rfl
              have s1 := xb2.cell 1 (v := .int .i64 τ.out.length) rfl
              have s2 := xb2.cell 2 (v := .int .i64 τ.col) rfl
              have hX3 : AtT [] w [] b τ X2 := hX2.weaken fun g hg => by cases hg
              clear xb2 xg2 xz2 hX1 hX2
              go_wp2_with fail
              go_roundg (gk - 1)
              case measure => omega
              case rel => exact ⟨j + 1, n, τ, by omega, rfl, by go_num, hX3, HB2⟩
      · as_aux_lemma =>
          have p4 := pickN_lt o.n 4 (by omega)
          have hp4 := fun W => kpick_any o.n 4 W (by omega) (by omega) hok.n0 hok.n1
          obtain ⟨k4, hk4⟩ : ∃ k4 : Int, pickN o.n 4 = k4 := ⟨_, rfl⟩
          rw [hk4] at hp4 p4
          clear hk4
          obtain ⟨p41, p42⟩ := p4
          have hwp : IntKind.i64.wrap (k4 - 1) = k4 - 1 := by simp [IntKind.wrap, IntKind.bits, IntKind.signed]; omega
          have hse : ∀ W, AtT [] w [B] b σ W → Calls Try.prog 28 #[.pointer (some ⟨b, 0, none⟩), .agg (i64s o.ss).toArray, .int .i64 (k4 - 1)] W fun e w' => e = .returned (.int .i64 (σ.set o.ss (k4 - 1)).2) ∧ AtT [] w [B] b (σ.set o.ss (k4 - 1)).1 w' ∧ Kq [B] W w' := fun W hW => hW.calls fun S u h => TSet S u [B] b σ W _ h hbd.out.inv (by omega) hbd.out.well o.ss hok.l (k4 - 1)
          have hbd3 := (hbd.out.set o.ss (k4 - 1))
          have HB2 : Hid (Bd n (10 + 3000 * ((opsW (ops.take (j + 1)) : Nat) : Int)) (σ.set o.ss (k4 - 1)).1) := hbd3.mono (by rw [HNX.out]; omega)
          have hnr := hbd3.nrm
          have hss := hbd3.inv.s.len
          have ha2 : ((σ.set o.ss (k4 - 1)).2 == 2) = false := beq_eq_false_iff_ne.2 (set_ans σ o.ss (k4 - 1))
          clear hbd3 hbd
          generalize (σ.set o.ss (k4 - 1)).2 = ans at *
          generalize (σ.set o.ss (k4 - 1)).1 = τ at *
          have hsl : (i64s o.ss).length = 17 := by rw [i64s_len, hok.l]
          have HSE : Hid (∀ W, AtT [] w [B] b σ W → Calls Try.prog 28 #[.pointer (some ⟨b, 0, none⟩), .agg (i64s o.ss).toArray, .int .i64 (k4 - 1)] W fun e w' => e = .returned (.int .i64 ans) ∧ AtT [] w [B] b τ w' ∧ Kq [B] W w') := hse
          obtain ⟨a0, a1, a2, a3, a4, a5, a6, a7, a8, a9, a10, a11, a12, a13, a14, a15, a16, hse17⟩ : ∃ a0 a1 a2 a3 a4 a5 a6 a7 a8 a9 a10 a11 a12 a13 a14 a15 a16 : Int, o.ss = [a0, a1, a2, a3, a4, a5, a6, a7, a8, a9, a10, a11, a12, a13, a14, a15, a16] := seventeen o.ss hok.l
          rw [hse17] at HSE hsl
          have gc : ∀ (jj : Nat) (v : Value), (i64s o.ss)[jj]? = some v → W1.cell? ⟨B, 3 + jj, none⟩ = some v := fun jj v hv => HBk.out.cell (3 + jj) (opk_set o jj v hv)
          rw [hse17] at gc
          have g0 := gc 0 (.int .i64 a0) rfl
          have g1 := gc 1 (.int .i64 a1) rfl
          have g2 := gc 2 (.int .i64 a2) rfl
          have g3 := gc 3 (.int .i64 a3) rfl
          have g4 := gc 4 (.int .i64 a4) rfl
          have g5 := gc 5 (.int .i64 a5) rfl
          have g6 := gc 6 (.int .i64 a6) rfl
          have g7 := gc 7 (.int .i64 a7) rfl
          have g8 := gc 8 (.int .i64 a8) rfl
          have g9 := gc 9 (.int .i64 a9) rfl
          have g10 := gc 10 (.int .i64 a10) rfl
          have g11 := gc 11 (.int .i64 a11) rfl
          have g12 := gc 12 (.int .i64 a12) rfl
          have g13 := gc 13 (.int .i64 a13) rfl
          have g14 := gc 14 (.int .i64 a14) rfl
          have g15 := gc 15 (.int .i64 a15) rfl
          have g16 := gc 16 (.int .i64 a16) rfl
          have gd : ∀ V, Kq [B] W1.drew V → ∀ (jj : Nat) (v : Value), (i64s [a0, a1, a2, a3, a4, a5, a6, a7, a8, a9, a10, a11, a12, a13, a14, a15, a16])[jj]? = some v → V.cell? ⟨B, 3 + jj, none⟩ = some v := fun V hV jj v hv => (hV.blk (show Blk W1.drew B 59 o.cells from HBk.out) (by simp)).cell (3 + jj) (opk_set o jj v (by rw [hse17]; exact hv))
          clear gc hse hse17
          have HP4 : Hid (∀ W, Calls Try.prog 19 #[.int .i64 o.n, .int .i64 4] W fun e w' => e = .returned (.int .i64 k4) ∧ W = w') := hp4
          have HSF : Hid (∀ W, AtT [] w [B] b σ W → Calls Try.prog 28 #[.pointer (some ⟨b, 0, none⟩), .agg #[.int .i64 a0, .int .i64 a1, .int .i64 a2, .int .i64 a3, .int .i64 a4, .int .i64 a5, .int .i64 a6, .int .i64 a7, .int .i64 a8, .int .i64 a9, .int .i64 a10, .int .i64 a11, .int .i64 a12, .int .i64 a13, .int .i64 a14, .int .i64 a15, .int .i64 a16], .int .i64 (k4 - 1)] W fun e w' => e = .returned (.int .i64 ans) ∧ AtT [] w [B] b τ w' ∧ Kq [B] W w') := HSE.out
          have hwd := hW1.drew
          clear HSE hp4
          have HBd : Hid (Blk W1.drew B 59 o.cells) := HBk.out
          go_wp2_with (go_at_call 19; refine (PK.out _).mono ?_; clear PK; rintro e w' ⟨rfl, hw⟩; subst hw)
          go_region_held2 (fun w' => w'.cell? ⟨B, 1, none⟩ = some (.int .i64 o.n) ∧ w'.cell? ⟨B, 3, none⟩ = some (.int .i64 a0) ∧ w'.cell? ⟨B, 4, none⟩ = some (.int .i64 a1) ∧ w'.cell? ⟨B, 5, none⟩ = some (.int .i64 a2) ∧ w'.cell? ⟨B, 6, none⟩ = some (.int .i64 a3) ∧ w'.cell? ⟨B, 7, none⟩ = some (.int .i64 a4) ∧ w'.cell? ⟨B, 8, none⟩ = some (.int .i64 a5) ∧ w'.cell? ⟨B, 9, none⟩ = some (.int .i64 a6) ∧ w'.cell? ⟨B, 10, none⟩ = some (.int .i64 a7) ∧ w'.cell? ⟨B, 11, none⟩ = some (.int .i64 a8) ∧ w'.cell? ⟨B, 12, none⟩ = some (.int .i64 a9) ∧ w'.cell? ⟨B, 13, none⟩ = some (.int .i64 a10) ∧ w'.cell? ⟨B, 14, none⟩ = some (.int .i64 a11) ∧ w'.cell? ⟨B, 15, none⟩ = some (.int .i64 a12) ∧ w'.cell? ⟨B, 16, none⟩ = some (.int .i64 a13) ∧ w'.cell? ⟨B, 17, none⟩ = some (.int .i64 a14) ∧ w'.cell? ⟨B, 18, none⟩ = some (.int .i64 a15) ∧ w'.cell? ⟨B, 19, none⟩ = some (.int .i64 a16)) (go_keep) (first
            | (go_at_call 19; refine (HP4.out _).mono ?_; rintro e w' ⟨rfl, hw⟩; subst hw)
            | (go_at_call 28; refine (HSF.out _ ?_).mono ?_; exact hwd; rintro e V1 ⟨rfl, hV1, hk1⟩; have hb1 := hk1.blk HBd.out (by simp); have d1 := hb1.cell 1 (v := .int .i64 o.n) rfl; clear hb1; have e0 := gd V1 hk1 0 (.int .i64 a0) rfl; have e1 := gd V1 hk1 1 (.int .i64 a1) rfl; have e2 := gd V1 hk1 2 (.int .i64 a2) rfl; have e3 := gd V1 hk1 3 (.int .i64 a3) rfl; have e4 := gd V1 hk1 4 (.int .i64 a4) rfl; have e5 := gd V1 hk1 5 (.int .i64 a5) rfl; have e6 := gd V1 hk1 6 (.int .i64 a6) rfl; have e7 := gd V1 hk1 7 (.int .i64 a7) rfl; have e8 := gd V1 hk1 8 (.int .i64 a8) rfl; have e9 := gd V1 hk1 9 (.int .i64 a9) rfl; have e10 := gd V1 hk1 10 (.int .i64 a10) rfl; have e11 := gd V1 hk1 11 (.int .i64 a11) rfl; have e12 := gd V1 hk1 12 (.int .i64 a12) rfl; have e13 := gd V1 hk1 13 (.int .i64 a13) rfl; have e14 := gd V1 hk1 14 (.int .i64 a14) rfl; have e15 := gd V1 hk1 15 (.int .i64 a15) rfl; have e16 := gd V1 hk1 16 (.int .i64 a16) rfl))
          clear HSF HP4 hwd HBd gd g0 g1 g2 g3 g4 g5 g6 g7 g8 g9 g10 g11 g12 g13 g14 g15 g16
          have hge := TGet [] w [B] b τ V1 hV1
          go_wp2_with (first
            | (go_at_call 10; refine hge.mono ?_; clear hge; rintro e V2 ⟨rfl, hV2⟩)
            | (refine wpList_store_whole rfl (.tmp 11) (.tmp 101) 26 rfl V2.heap.size rfl (i64s τ.ss) rfl 26 zero17 (Blk.new V2 _ _) (by rw [i64s_len, hss]; rfl) (by rw [i64s_len, hss]; exact size_settings2) (i64s_one _) ?_))
          intro V3 vb3 vg3 vz3
          obtain ⟨hV3, _⟩ := hV2.filled _ vg3
          have gcell : ∀ k, k < 17 → V3.cell? ⟨V2.heap.size, k, none⟩ = some (.int .i64 (gt τ.ss k)) := fun k hk => vb3.cell k (by simp [i64s, gt, List.getD, List.getElem?_eq_getElem (show k < τ.ss.length by omega)])
          have u0 := gcell 0 (by omega)
          have u1 := gcell 1 (by omega)
          have u2 := gcell 2 (by omega)
          have v0 : ¬ gt τ.ss 0 < 0 := by have := hnr.i0; omega
          have v1 : ¬ 8191 < gt τ.ss 0 := by have := hnr.i1; omega
          have v2 : ¬ gt τ.ss 1 < 0 := by have := hnr.o0; omega
          have v3 : ¬ 127 < gt τ.ss 1 := by have := hnr.o1; omega
          have v4 : ¬ gt τ.ss 2 < 0 := by have := hnr.l0; omega
          have v5 : ¬ 1023 < gt τ.ss 2 := by have := hnr.l1; omega
          have hV4 : AtT [] w [B] b τ V3 := hV3.weaken fun g hg => by simp at hg; simp [hg]
          clear gcell vb3 vg3 vz3 hV2 hV3 hnr hss hV1
          go_upto_if 133 with fail
          have hbd2 := HB2.out
          have q1 : ¬ ((τ.inq.length : Nat) : Int) < 0 := by omega
          have q2 : ¬ (256 : Int) < ((τ.inq.length : Nat) : Int) := by have := hbd2.inv.inq; omega
          have q3 : ¬ ((τ.out.length : Nat) : Int) < 0 := by omega
          have q4 : ¬ (256 : Int) < ((τ.out.length : Nat) : Int) := by have := hbd2.inv.out; omega
          have q5 : ¬ τ.col < 0 := by have := hbd2.inv.c0; omega
          clear hbd2
          have hst := TStatus [] w [B] b τ V3 hV4
          go_wp2_with (first
            | (go_at_call 18; refine hst.mono ?_; clear hst; rintro e X1 ⟨rfl, hX1⟩)
            | (refine wpList_store_whole rfl (.tmp 16) (.tmp 175) 42 rfl X1.heap.size rfl (statusL τ) rfl 42 zero6 (Blk.new X1 _ _) rfl rfl (statusL_one _) ?_))
          intro X2 xb2 xg2 xz2
          obtain ⟨hX2, _⟩ := hX1.filled _ xg2
          have s0 := xb2.cell 0 (v := .int .i64 τ.inq.length) rfl
          have s1 := xb2.cell 1 (v := .int .i64 τ.out.length) rfl
          have s2 := xb2.cell 2 (v := .int .i64 τ.col) rfl
          have hX3 : AtT [] w [] b τ X2 := hX2.weaken fun g hg => by cases hg
          clear xb2 xg2 xz2 hX1 hX2
          go_wp2_with fail
          go_roundg (gk - 1)
          case measure => omega
          case rel => exact ⟨j + 1, n, τ, by omega, rfl, by go_num, hX3, HB2⟩
      · as_aux_lemma =>
          have hre : Hid (∀ W, AtT [] w [B] b σ W → Calls Try.prog 20 #[.pointer (some ⟨b, 0, none⟩), .int .i64 o.n] W fun e w' => e = .returned (.int .i64 (σ.read o.n).2) ∧ AtT [] w [B] b (σ.read o.n).1 w' ∧ Kq [B] W w') := fun W hW => hW.calls fun S u h => TRead S u [B] b σ W _ h hbd.out.inv (by omega) hbd.out.well o.n
          have HB3 := hbd.out.read o.n
          clear hbd
          generalize (σ.read o.n).2 = ans at *
          generalize (σ.read o.n).1 = τ at *
          by_cases ha0 : ans = 0
          · rw [if_pos ha0] at HB3
            have HB2 : Hid (Bd o.n (10 + 3000 * ((opsW (ops.take (j + 1)) : Nat) : Int)) τ) := HB3.mono (by rw [HNX.out]; omega)
            have ha1 : (ans == 0) = true := by simpa using ha0
            clear ha0 HB3
            go_wp2_with (first
              | (go_at_call 19; refine (PK.out _).mono ?_; clear PK; rintro e w' ⟨rfl, hw⟩; subst hw)
              | (go_at_call 20; refine (hre.out _ hW1).mono ?_; clear hre; rintro e V1 ⟨rfl, hV1, hk1⟩; have hb1 := hk1.blk HBk.out (by simp); have d1 := hb1.cell 1 (v := .int .i64 o.n) rfl; clear hb1))
            have hbd2 := HB2.out
            have q1 : ¬ ((τ.inq.length : Nat) : Int) < 0 := by omega
            have q2 : ¬ (256 : Int) < ((τ.inq.length : Nat) : Int) := by have := hbd2.inv.inq; omega
            have q3 : ¬ ((τ.out.length : Nat) : Int) < 0 := by omega
            have q4 : ¬ (256 : Int) < ((τ.out.length : Nat) : Int) := by have := hbd2.inv.out; omega
            have q5 : ¬ τ.col < 0 := by have := hbd2.inv.c0; omega
            clear hbd2
            have hst := TStatus [] w [B] b τ V1 hV1
            go_wp2_with (first
              | (go_at_call 18; refine hst.mono ?_; clear hst; rintro e X1 ⟨rfl, hX1⟩)
              | (refine wpList_store_whole rfl (.tmp 16) (.tmp 175) 42 rfl X1.heap.size rfl (statusL τ) rfl 42 zero6 (Blk.new X1 _ _) rfl rfl (statusL_one _) ?_))
            intro X2 xb2 xg2 xz2
            obtain ⟨hX2, _⟩ := hX1.filled _ xg2
            have s0 := xb2.cell 0 (v := .int .i64 τ.inq.length) rfl
            have s1 := xb2.cell 1 (v := .int .i64 τ.out.length) rfl
            have s2 := xb2.cell 2 (v := .int .i64 τ.col) rfl
            have hX3 : AtT [] w [] b τ X2 := hX2.weaken fun g hg => by cases hg
            clear xb2 xg2 xz2 hX1 hX2
            go_wp2_with fail
            go_roundg (gk - 1)
            case measure => omega
            case rel => exact ⟨j + 1, o.n, τ, by omega, rfl, by go_num, hX3, HB2⟩
          · rw [if_neg ha0] at HB3
            have HB2 : Hid (Bd n (10 + 3000 * ((opsW (ops.take (j + 1)) : Nat) : Int)) τ) := HB3.mono (by rw [HNX.out]; omega)
            have ha1 : (ans == 0) = false := by simpa using ha0
            clear ha0 HB3
            go_wp2_with (first
              | (go_at_call 19; refine (PK.out _).mono ?_; clear PK; rintro e w' ⟨rfl, hw⟩; subst hw)
              | (go_at_call 20; refine (hre.out _ hW1).mono ?_; clear hre; rintro e V1 ⟨rfl, hV1, hk1⟩; have hb1 := hk1.blk HBk.out (by simp); have d1 := hb1.cell 1 (v := .int .i64 o.n) rfl; clear hb1))
            have hbd2 := HB2.out
            have q1 : ¬ ((τ.inq.length : Nat) : Int) < 0 := by omega
            have q2 : ¬ (256 : Int) < ((τ.inq.length : Nat) : Int) := by have := hbd2.inv.inq; omega
            have q3 : ¬ ((τ.out.length : Nat) : Int) < 0 := by omega
            have q4 : ¬ (256 : Int) < ((τ.out.length : Nat) : Int) := by have := hbd2.inv.out; omega
            have q5 : ¬ τ.col < 0 := by have := hbd2.inv.c0; omega
            clear hbd2
            have hst := TStatus [] w [B] b τ V1 hV1
            go_wp2_with (first
              | (go_at_call 18; refine hst.mono ?_; clear hst; rintro e X1 ⟨rfl, hX1⟩)
              | (refine wpList_store_whole rfl (.tmp 16) (.tmp 175) 42 rfl X1.heap.size rfl (statusL τ) rfl 42 zero6 (Blk.new X1 _ _) rfl rfl (statusL_one _) ?_))
            intro X2 xb2 xg2 xz2
            obtain ⟨hX2, _⟩ := hX1.filled _ xg2
            have s0 := xb2.cell 0 (v := .int .i64 τ.inq.length) rfl
            have s1 := xb2.cell 1 (v := .int .i64 τ.out.length) rfl
            have s2 := xb2.cell 2 (v := .int .i64 τ.col) rfl
            have hX3 : AtT [] w [] b τ X2 := hX2.weaken fun g hg => by cases hg
            clear xb2 xg2 xz2 hX1 hX2
            go_wp2_with fail
            go_roundg (gk - 1)
            case measure => omega
            case rel => exact ⟨j + 1, n, τ, by omega, rfl, by go_num, hX3, HB2⟩
      · as_aux_lemma =>
          have hta := TTake [] w [B] b σ W1 _ hW1 hbd.out.inv
          have hft := hbd.out.fits.take hbd.out.n0
          have HB2 : Hid (Bd n (10 + 3000 * ((opsW (ops.take (j + 1)) : Nat) : Int)) σ.take.1) := hbd.out.take.mono (by rw [HNX.out]; omega)
          have t1 : ¬ n < ((str σ.take.2.1).size : Int) := by rw [str_size]; have := hft.2.1; omega
          have hno := hft.2.2
          clear hft hbd
          generalize σ.take.2.2.2 = ans at *
          generalize σ.take.2.2.1 = is at *
          generalize σ.take.2.1 = dd at *
          generalize σ.take.1 = τ at *
          cases is with
          | true =>
            clear hno
            go_upto_if 163 with (first
              | (go_at_call 19; refine (PK.out _).mono ?_; clear PK; rintro e w' ⟨rfl, hw⟩; subst hw)
              | (go_at_call 21; refine hta.mono ?_; clear hta; rintro e V1 ⟨rfl, hV1⟩))
            have hbd2 := HB2.out
            have q1 : ¬ ((τ.inq.length : Nat) : Int) < 0 := by omega
            have q2 : ¬ (256 : Int) < ((τ.inq.length : Nat) : Int) := by have := hbd2.inv.inq; omega
            have q3 : ¬ ((τ.out.length : Nat) : Int) < 0 := by omega
            have q4 : ¬ (256 : Int) < ((τ.out.length : Nat) : Int) := by have := hbd2.inv.out; omega
            have q5 : ¬ τ.col < 0 := by have := hbd2.inv.c0; omega
            clear hbd2
            have hst := TStatus [] w [B] b τ V1 hV1
            go_wp2_with (first
              | (go_at_call 18; refine hst.mono ?_; clear hst; rintro e X1 ⟨rfl, hX1⟩)
              | (refine wpList_store_whole rfl (.tmp 16) (.tmp 175) 42 rfl X1.heap.size rfl (statusL τ) rfl 42 zero6 (Blk.new X1 _ _) rfl rfl (statusL_one _) ?_))
            intro X2 xb2 xg2 xz2
            obtain ⟨hX2, _⟩ := hX1.filled _ xg2
            have s0 := xb2.cell 0 (v := .int .i64 τ.inq.length) rfl
            have s1 := xb2.cell 1 (v := .int .i64 τ.out.length) rfl
            have s2 := xb2.cell 2 (v := .int .i64 τ.col) rfl
            have hX3 : AtT [] w [] b τ X2 := hX2.weaken fun g hg => by cases hg
            clear xb2 xg2 xz2 hX1 hX2
            go_wp2_with fail
            go_roundg (gk - 1)
            case measure => omega
            case rel => exact ⟨j + 1, n, τ, by omega, rfl, by go_num, hX3, HB2⟩
          | false =>
            obtain rfl := hno rfl
            clear hno
            have t2 := str_nil_empty
            go_upto_if 163 with (first
              | (go_at_call 19; refine (PK.out _).mono ?_; clear PK; rintro e w' ⟨rfl, hw⟩; subst hw)
              | (go_at_call 21; refine hta.mono ?_; clear hta; rintro e V1 ⟨rfl, hV1⟩))
            have hbd2 := HB2.out
            have q1 : ¬ ((τ.inq.length : Nat) : Int) < 0 := by omega
            have q2 : ¬ (256 : Int) < ((τ.inq.length : Nat) : Int) := by have := hbd2.inv.inq; omega
            have q3 : ¬ ((τ.out.length : Nat) : Int) < 0 := by omega
            have q4 : ¬ (256 : Int) < ((τ.out.length : Nat) : Int) := by have := hbd2.inv.out; omega
            have q5 : ¬ τ.col < 0 := by have := hbd2.inv.c0; omega
            clear hbd2
            have hst := TStatus [] w [B] b τ V1 hV1
            go_wp2_with (first
              | (go_at_call 18; refine hst.mono ?_; clear hst; rintro e X1 ⟨rfl, hX1⟩)
              | (refine wpList_store_whole rfl (.tmp 16) (.tmp 175) 42 rfl X1.heap.size rfl (statusL τ) rfl 42 zero6 (Blk.new X1 _ _) rfl rfl (statusL_one _) ?_))
            intro X2 xb2 xg2 xz2
            obtain ⟨hX2, _⟩ := hX1.filled _ xg2
            have s0 := xb2.cell 0 (v := .int .i64 τ.inq.length) rfl
            have s1 := xb2.cell 1 (v := .int .i64 τ.out.length) rfl
            have s2 := xb2.cell 2 (v := .int .i64 τ.col) rfl
            have hX3 : AtT [] w [] b τ X2 := hX2.weaken fun g hg => by cases hg
            clear xb2 xg2 xz2 hX1 hX2
            go_wp2_with fail
            go_roundg (gk - 1)
            case measure => omega
            case rel => exact ⟨j + 1, n, τ, by omega, rfl, by go_num, hX3, HB2⟩
      · as_aux_lemma =>
          have hti := TTick [] w [B] b σ W1 _ hW1 hbd.out.inv (by omega) hbd.out.well
          have HB2 : Hid (Bd n (10 + 3000 * ((opsW (ops.take (j + 1)) : Nat) : Int)) σ.tick) := hbd.out.tick.mono (by rw [HNX.out]; omega)
          clear hbd
          generalize σ.tick = τ at *
          go_wp2_with (first
            | (go_at_call 19; refine (PK.out _).mono ?_; clear PK; rintro e w' ⟨rfl, hw⟩; subst hw)
            | (go_at_call 22; refine hti.mono ?_; clear hti; rintro e V1 ⟨rfl, hV1⟩))
          have hbd2 := HB2.out
          have q1 : ¬ ((τ.inq.length : Nat) : Int) < 0 := by omega
          have q2 : ¬ (256 : Int) < ((τ.inq.length : Nat) : Int) := by have := hbd2.inv.inq; omega
          have q3 : ¬ ((τ.out.length : Nat) : Int) < 0 := by omega
          have q4 : ¬ (256 : Int) < ((τ.out.length : Nat) : Int) := by have := hbd2.inv.out; omega
          have q5 : ¬ τ.col < 0 := by have := hbd2.inv.c0; omega
          clear hbd2
          have hst := TStatus [] w [B] b τ V1 hV1
          go_wp2_with (first
            | (go_at_call 18; refine hst.mono ?_; clear hst; rintro e X1 ⟨rfl, hX1⟩)
            | (refine wpList_store_whole rfl (.tmp 16) (.tmp 175) 42 rfl X1.heap.size rfl (statusL τ) rfl 42 zero6 (Blk.new X1 _ _) rfl rfl (statusL_one _) ?_))
          intro X2 xb2 xg2 xz2
          obtain ⟨hX2, _⟩ := hX1.filled _ xg2
          have s0 := xb2.cell 0 (v := .int .i64 τ.inq.length) rfl
          have s1 := xb2.cell 1 (v := .int .i64 τ.out.length) rfl
          have s2 := xb2.cell 2 (v := .int .i64 τ.col) rfl
          have hX3 : AtT [] w [] b τ X2 := hX2.weaken fun g hg => by cases hg
          clear xb2 xg2 xz2 hX1 hX2
          go_wp2_with fail
          go_roundg (gk - 1)
          case measure => omega
          case rel => exact ⟨j + 1, n, τ, by omega, rfl, by go_num, hX3, HB2⟩
      · as_aux_lemma =>
          have hti := TFlush [] w [B] b σ W1 _ hW1 hbd.out.inv (by omega) hbd.out.well o.n
          have HB2 : Hid (Bd n (10 + 3000 * ((opsW (ops.take (j + 1)) : Nat) : Int)) (σ.flush o.n).1) := (hbd.out.flush o.n).mono (by rw [HNX.out]; omega)
          clear hbd
          generalize (σ.flush o.n).2 = ans at *
          generalize (σ.flush o.n).1 = τ at *
          go_wp2_with (first
            | (go_at_call 19; refine (PK.out _).mono ?_; clear PK; rintro e w' ⟨rfl, hw⟩; subst hw)
            | (go_at_call 29; refine hti.mono ?_; clear hti; rintro e V1 ⟨rfl, hV1⟩))
          have hbd2 := HB2.out
          have q1 : ¬ ((τ.inq.length : Nat) : Int) < 0 := by omega
          have q2 : ¬ (256 : Int) < ((τ.inq.length : Nat) : Int) := by have := hbd2.inv.inq; omega
          have q3 : ¬ ((τ.out.length : Nat) : Int) < 0 := by omega
          have q4 : ¬ (256 : Int) < ((τ.out.length : Nat) : Int) := by have := hbd2.inv.out; omega
          have q5 : ¬ τ.col < 0 := by have := hbd2.inv.c0; omega
          clear hbd2
          have hst := TStatus [] w [B] b τ V1 hV1
          go_wp2_with (first
            | (go_at_call 18; refine hst.mono ?_; clear hst; rintro e X1 ⟨rfl, hX1⟩)
            | (refine wpList_store_whole rfl (.tmp 16) (.tmp 175) 42 rfl X1.heap.size rfl (statusL τ) rfl 42 zero6 (Blk.new X1 _ _) rfl rfl (statusL_one _) ?_))
          intro X2 xb2 xg2 xz2
          obtain ⟨hX2, _⟩ := hX1.filled _ xg2
          have s0 := xb2.cell 0 (v := .int .i64 τ.inq.length) rfl
          have s1 := xb2.cell 1 (v := .int .i64 τ.out.length) rfl
          have s2 := xb2.cell 2 (v := .int .i64 τ.col) rfl
          have hX3 : AtT [] w [] b τ X2 := hX2.weaken fun g hg => by cases hg
          clear xb2 xg2 xz2 hX1 hX2
          go_wp2_with fail
          go_roundg (gk - 1)
          case measure => omega
          case rel => exact ⟨j + 1, n, τ, by omega, rfl, by go_num, hX3, HB2⟩
      · as_aux_lemma =>
          have hti := TFlow [] w [B] b σ W1 _ hW1 hbd.out.inv (by omega) o.n
          have HB2 : Hid (Bd n (10 + 3000 * ((opsW (ops.take (j + 1)) : Nat) : Int)) (σ.flow o.n).1) := (hbd.out.flow o.n).mono (by rw [HNX.out]; omega)
          clear hbd
          generalize (σ.flow o.n).2 = ans at *
          generalize (σ.flow o.n).1 = τ at *
          go_wp2_with (first
            | (go_at_call 19; refine (PK.out _).mono ?_; clear PK; rintro e w' ⟨rfl, hw⟩; subst hw)
            | (go_at_call 30; refine hti.mono ?_; clear hti; rintro e V1 ⟨rfl, hV1⟩))
          have hbd2 := HB2.out
          have q1 : ¬ ((τ.inq.length : Nat) : Int) < 0 := by omega
          have q2 : ¬ (256 : Int) < ((τ.inq.length : Nat) : Int) := by have := hbd2.inv.inq; omega
          have q3 : ¬ ((τ.out.length : Nat) : Int) < 0 := by omega
          have q4 : ¬ (256 : Int) < ((τ.out.length : Nat) : Int) := by have := hbd2.inv.out; omega
          have q5 : ¬ τ.col < 0 := by have := hbd2.inv.c0; omega
          clear hbd2
          have hst := TStatus [] w [B] b τ V1 hV1
          go_wp2_with (first
            | (go_at_call 18; refine hst.mono ?_; clear hst; rintro e X1 ⟨rfl, hX1⟩)
            | (refine wpList_store_whole rfl (.tmp 16) (.tmp 175) 42 rfl X1.heap.size rfl (statusL τ) rfl 42 zero6 (Blk.new X1 _ _) rfl rfl (statusL_one _) ?_))
          intro X2 xb2 xg2 xz2
          obtain ⟨hX2, _⟩ := hX1.filled _ xg2
          have s0 := xb2.cell 0 (v := .int .i64 τ.inq.length) rfl
          have s1 := xb2.cell 1 (v := .int .i64 τ.out.length) rfl
          have s2 := xb2.cell 2 (v := .int .i64 τ.col) rfl
          have hX3 : AtT [] w [] b τ X2 := hX2.weaken fun g hg => by cases hg
          clear xb2 xg2 xz2 hX1 hX2
          go_wp2_with fail
          go_roundg (gk - 1)
          case measure => omega
          case rel => exact ⟨j + 1, n, τ, by omega, rfl, by go_num, hX3, HB2⟩
    · obtain rfl : j = ops.length := by omega
      have HKP : Hid (Below w.heap.size w wr) := below_of hR
      clear hbd
      go_wp2_with fail
      go_ret
      exact ⟨rfl, HKP.out⟩
end Go.Proofs.Ytfnglkhhmplejaa
