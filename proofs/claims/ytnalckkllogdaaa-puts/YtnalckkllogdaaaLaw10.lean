/- Walks: the law: a step of a script. -/
import Derived.Test.YtnalckkllogdaaaLaw8
import Derived.Test.YtnalckkllogdaaaLaw7
import Derived.Deep.RegionHeld
namespace Go.Proofs.Ytnalckkllogdaaa
open Go Go.RowKit Go.Clk

section
variable (I J : St → Prop) (W0 : World) (wb : Nat) (ps : List (Nat × Nat × St)) (c : Nat → Nat) (w : World) (kind term n : Int) (s : ByteArray) (ss : List Int)

set_option maxHeartbeats 2000000 in
set_option maxRecDepth 100000 in
theorem step_none (hW : Wd I W0 wb ps c w) (hk : kind < 1) :
    Calls Try.prog 7 #[.pointer (some ⟨wb, 0, none⟩), .agg (opCells kind term n s ss).toArray] w fun e w' => e = .returned (.bool true) ∧ ∃ c', Wd I W0 wb ps c' w' := by
  have HW : Hid (Wd I W0 wb ps c w) := hW
  clear hW
  go_enter Try.func7, Try.ntmps7
  go_wp2_with (first | refine wpList_box rfl (.tmp 1) 36 rfl (opCells kind term n s ss) rfl ?_)
  intro W B hid
  obtain ⟨rfl, rfl⟩ := hid.out
  have b0 := (Blk.new w (opCells kind term n s ss) 36).cell 0 (v := .int .i64 kind) rfl
  go_wp2
  go_ret
  exact ⟨rfl, _, HW.out.alloc _⟩

set_option maxHeartbeats 4000000 in
set_option maxRecDepth 100000 in
theorem step_any (hW : Wd I W0 wb ps c w) (hIJ : ∀ σ, I σ → J σ) (h0 : 0 < ps.length) (h4 : ps.length ≤ 4) (hk : 1 ≤ kind) (hk' : kind ≤ 13) (hss : ss.length = 17) (ht : -9223372036854775808 ≤ term) (ht' : term ≤ 9223372036854775807)
    (hd : ∀ (W : World) (c2 : Nat → Nat) (i bt br : Nat) (σ : St), Pr W c2 (2 * i + 2) (2 * i + 3) bt br σ σ → I σ → Calls Try.prog 16 #[.pointer (some ⟨wb, 0, none⟩), .agg #[.pointer (some ⟨bt, 0, none⟩), .pointer (some ⟨br, 0, none⟩)], .agg (opCells kind term n s ss).toArray] W fun e w' => ∃ σ', J σ' ∧ Dn c2 (2 * i + 2) (2 * i + 3) bt br W σ' e w') :
    Calls Try.prog 7 #[.pointer (some ⟨wb, 0, none⟩), .agg (opCells kind term n s ss).toArray] w fun e w' => e = .returned (.bool true) ∧ ∃ ps' c', ps'.length = ps.length ∧ Wd J W0 wb ps' c' w' := by
  obtain ⟨p0, p1⟩ := pickN_lt term ps.length (by omega)
  obtain ⟨i, hi⟩ : ∃ i : Nat, pickN term ps.length = i := ⟨(pickN term ps.length).toNat, by omega⟩
  have hil : i < ps.length := by omega
  obtain ⟨⟨bt, br, σ⟩, hpi⟩ : ∃ x, ps[i]? = some x := ⟨_, List.getElem?_eq_getElem hil⟩
  have hol : (opCells kind term n s ss).length = 21 := by unfold opCells; rw [List.length_append, i64s_len, hss]; rfl
  have hio : (Try.prog.info? 36).map (·.size) = some (opCells kind term n s ss).length := by rw [hol]; exact size_op
  have HD : Hid (∀ (W : World) (c2 : Nat → Nat) (i bt br : Nat) (σ : St), Pr W c2 (2 * i + 2) (2 * i + 3) bt br σ σ → I σ → Calls Try.prog 16 #[.pointer (some ⟨wb, 0, none⟩), .agg #[.pointer (some ⟨bt, 0, none⟩), .pointer (some ⟨br, 0, none⟩)], .agg (opCells kind term n s ss).toArray] W fun e w' => ∃ σ', J σ' ∧ Dn c2 (2 * i + 2) (2 * i + 3) bt br W σ' e w') := hd
  have HIJ : Hid (∀ σ, I σ → J σ) := hIJ
  clear hd hIJ p0 p1
  go_enter Try.func7, Try.ntmps7
  go_wp2_with (first | refine wpList_box rfl (.tmp 1) 36 rfl (opCells kind term n s ss) rfl ?_)
  intro W B hid
  have hW2 : Wd I W0 wb ps (recol w c 0) W := by rw [hid.out.2]; exact hW.alloc _
  have hB : Bx W (recol w c 0) B 36 (opCells kind term n s ss) := by rw [hid.out.1, hid.out.2]; exact Bx.new w c _ _
  clear hW hid
  generalize recol w c 0 = c2 at *
  obtain ⟨g, off, cap, k0, hg, hcg, q1, q2⟩ := hW2.at hpi
  have b0 := hB.1.cell 0 (v := .int .i64 kind) rfl
  have b1 := hB.1.cell 1 (v := .int .i64 term) rfl
  have hIσ := (hW2.t i bt br σ hpi).2.2
  go_wp2
  have hBlt := hB.1.lt
  have hwlt := hW2.lt
  refine wp_region_held_drew (S := fun w' => w'.cell? ⟨wb, 0, none⟩ = some (.slice (some ⟨g, off, none⟩) ps.length cap) ∧ w'.cell? ⟨B, 1, none⟩ = some (.int .i64 term) ∧ w'.rangeAt B 0 (opCells kind term n s ss) ∧ w'.rangeAt g (off + i * 2) [.pointer (some ⟨bt, 0, none⟩), .pointer (some ⟨br, 0, none⟩)]) (by kernel_rfl) ⟨by simpa using k0, by simpa using b1, ?hS3, ?hS4⟩ (fun hHeld => ?_)
  case hS3 =>
    intro j v hv
    rw [Nat.zero_add]
    exact hB.1.cell j hv
  case hS4 =>
    intro j v hv
    match j, hv with
    | 0, hv => cases hv; exact q1
    | 1, hv => cases hv; exact q2
    | j + 2, hv => simp at hv
  refine wpAnyH_take (i := 15) (oi := { dst := some 42, op := Op.load 36 (Operand.tmp 3), type := 36, pos := "law.go:184", after := #[], guard := none }) (v := .agg (opCells kind term n s ss).toArray) rfl (by kernel_rfl) (by kernel_rfl) (by kernel_rfl) (fun _ _ _ h => h) (yieldsIf_load_mid (by rfl) 36 (.tmp 3) rfl B 0 rfl (opCells kind term n s ss) _ (fun w' hSw => hSw.2.2.1) Try.underlying36 rfl hio) hHeld ?_
  simp only [Act.put, List.setIfInBounds_toArray, List.set_cons_zero, List.set_cons_succ]
  refine wpAnyH_take (i := 0) (oi := { dst := some 27, op := Op.move (Operand.tmp 0), type := 25, pos := "law.go:184", after := #[], guard := none }) (v := .pointer (some ⟨wb, 0, none⟩)) rfl (by kernel_rfl) (by kernel_rfl) (by kernel_rfl) (fun _ _ _ h => h) (Or.inl ⟨by rfl, fun w' hSw => ?_⟩) hHeld ?_
  · obtain ⟨x1, x2, _, _⟩ := hSw
    go_simp
  simp only [Act.put, List.setIfInBounds_toArray, List.set_cons_zero, List.set_cons_succ]
  refine wpAnyH_take (i := 1) (oi := { dst := some 28, op := Op.move (Operand.tmp 0), type := 25, pos := "law.go:184", after := #[], guard := none }) (v := .pointer (some ⟨wb, 0, none⟩)) rfl (by kernel_rfl) (by kernel_rfl) (by kernel_rfl) (fun _ _ _ h => h) (Or.inl ⟨by rfl, fun w' hSw => ?_⟩) hHeld ?_
  · obtain ⟨x1, x2, _, _⟩ := hSw
    go_simp
  simp only [Act.put, List.setIfInBounds_toArray, List.set_cons_zero, List.set_cons_succ]
  refine wpAnyH_take (i := 2) (oi := { dst := some 29, op := Op.nilCheck (Operand.tmp 28), type := 0, pos := "law.go:184", after := #[{ on := 1, ground := Ground.data }], guard := none }) (v := .pointer (some ⟨wb, 0, none⟩)) rfl (by kernel_rfl) (by kernel_rfl) (by kernel_rfl) (fun _ _ _ h => h) (Or.inl ⟨by rfl, fun w' hSw => ?_⟩) hHeld ?_
  · obtain ⟨x1, x2, _, _⟩ := hSw
    go_simp
  simp only [Act.put, List.setIfInBounds_toArray, List.set_cons_zero, List.set_cons_succ]
  refine wpAnyH_take (i := 3) (oi := { dst := some 30, op := Op.fieldAddr 30 (Operand.tmp 29) 0, type := 0, pos := "law.go:184", after := #[{ on := 2, ground := Ground.data }], guard := none }) (v := .pointer (some ⟨wb, 0, none⟩)) rfl (by kernel_rfl) (by kernel_rfl) (by kernel_rfl) (fun _ _ _ h => h) (Or.inl ⟨by rfl, fun w' hSw => ?_⟩) hHeld ?_
  · obtain ⟨x1, x2, _, _⟩ := hSw
    go_simp
  simp only [Act.put, List.setIfInBounds_toArray, List.set_cons_zero, List.set_cons_succ]
  refine wpAnyH_take (i := 4) (oi := { dst := some 31, op := Op.load 26 (Operand.tmp 30), type := 26, pos := "law.go:184", after := #[{ on := 3, ground := Ground.data }], guard := none }) (v := .slice (some ⟨g, off, none⟩) ps.length cap) rfl (by kernel_rfl) (by kernel_rfl) (by kernel_rfl) (fun _ _ _ h => h) (Or.inl ⟨by rfl, fun w' hSw => ?_⟩) hHeld ?_
  · obtain ⟨x1, x2, _, _⟩ := hSw
    go_simp
  simp only [Act.put, List.setIfInBounds_toArray, List.set_cons_zero, List.set_cons_succ]
  refine wpAnyH_take (i := 5) (oi := { dst := some 32, op := Op.fieldAddr 36 (Operand.tmp 3) 1, type := 0, pos := "law.go:184", after := #[], guard := none }) (v := .pointer (some ⟨B, 1, none⟩)) rfl (by kernel_rfl) (by kernel_rfl) (by kernel_rfl) (fun _ _ _ h => h) (Or.inl ⟨by rfl, fun w' hSw => ?_⟩) hHeld ?_
  · obtain ⟨x1, x2, _, _⟩ := hSw
    go_simp
  simp only [Act.put, List.setIfInBounds_toArray, List.set_cons_zero, List.set_cons_succ]
  refine wpAnyH_take (i := 6) (oi := { dst := some 33, op := Op.load 3 (Operand.tmp 32), type := 3, pos := "law.go:184", after := #[{ on := 5, ground := Ground.data }], guard := none }) (v := .int .i64 term) rfl (by kernel_rfl) (by kernel_rfl) (by kernel_rfl) (fun _ _ _ h => h) (Or.inl ⟨by rfl, fun w' hSw => ?_⟩) hHeld ?_
  · obtain ⟨x1, x2, _, _⟩ := hSw
    go_simp
  simp only [Act.put, List.setIfInBounds_toArray, List.set_cons_zero, List.set_cons_succ]
  refine wpAnyH_take (i := 7) (oi := { dst := some 34, op := Op.move (Operand.tmp 0), type := 25, pos := "law.go:184", after := #[], guard := none }) (v := .pointer (some ⟨wb, 0, none⟩)) rfl (by kernel_rfl) (by kernel_rfl) (by kernel_rfl) (fun _ _ _ h => h) (Or.inl ⟨by rfl, fun w' hSw => ?_⟩) hHeld ?_
  · obtain ⟨x1, x2, _, _⟩ := hSw
    go_simp
  simp only [Act.put, List.setIfInBounds_toArray, List.set_cons_zero, List.set_cons_succ]
  refine wpAnyH_take (i := 8) (oi := { dst := some 35, op := Op.nilCheck (Operand.tmp 34), type := 0, pos := "law.go:184", after := #[{ on := 7, ground := Ground.data }], guard := none }) (v := .pointer (some ⟨wb, 0, none⟩)) rfl (by kernel_rfl) (by kernel_rfl) (by kernel_rfl) (fun _ _ _ h => h) (Or.inl ⟨by rfl, fun w' hSw => ?_⟩) hHeld ?_
  · obtain ⟨x1, x2, _, _⟩ := hSw
    go_simp
  simp only [Act.put, List.setIfInBounds_toArray, List.set_cons_zero, List.set_cons_succ]
  refine wpAnyH_take (i := 9) (oi := { dst := some 36, op := Op.fieldAddr 30 (Operand.tmp 35) 0, type := 0, pos := "law.go:184", after := #[{ on := 8, ground := Ground.data }], guard := none }) (v := .pointer (some ⟨wb, 0, none⟩)) rfl (by kernel_rfl) (by kernel_rfl) (by kernel_rfl) (fun _ _ _ h => h) (Or.inl ⟨by rfl, fun w' hSw => ?_⟩) hHeld ?_
  · obtain ⟨x1, x2, _, _⟩ := hSw
    go_simp
  simp only [Act.put, List.setIfInBounds_toArray, List.set_cons_zero, List.set_cons_succ]
  refine wpAnyH_take (i := 10) (oi := { dst := some 37, op := Op.load 26 (Operand.tmp 36), type := 26, pos := "law.go:184", after := #[{ on := 9, ground := Ground.data }], guard := none }) (v := .slice (some ⟨g, off, none⟩) ps.length cap) rfl (by kernel_rfl) (by kernel_rfl) (by kernel_rfl) (fun _ _ _ h => h) (Or.inl ⟨by rfl, fun w' hSw => ?_⟩) hHeld ?_
  · obtain ⟨x1, x2, _, _⟩ := hSw
    go_simp
  simp only [Act.put, List.setIfInBounds_toArray, List.set_cons_zero, List.set_cons_succ]
  refine wpAnyH_take (i := 11) (oi := { dst := some 38, op := Op.call { callee := Callee.builtin Builtin.len, args := #[Operand.tmp 37], argTypes := #[26] }, type := 3, pos := "law.go:184", after := #[{ on := 10, ground := Ground.data }], guard := none }) (v := .int .i64 ps.length) rfl (by kernel_rfl) (by kernel_rfl) (by kernel_rfl) (fun _ _ _ h => h) (Or.inl ⟨by rfl, fun w' hSw => ?_⟩) hHeld ?_
  · obtain ⟨x1, x2, _, _⟩ := hSw
    go_simp
  simp only [Act.put, List.setIfInBounds_toArray, List.set_cons_zero, List.set_cons_succ]
  refine wpAnyH_ready (rs := [12]) (by kernel_rfl) (by simp) ?_
  refine AllReadyH.cons (o := { dst := some 39, op := Op.call { callee := Callee.value (Operand.func 17), args := #[Operand.tmp 33, Operand.tmp 38], argTypes := #[3, 3] }, type := 3, pos := "law.go:184", after := #[{ on := 6, ground := Ground.data }, { on := 11, ground := Ground.data }], guard := none }) rfl (fun K hK => ?_) AllReadyH.nil
  refine step_call rfl 17 #[.tmp 33, .tmp 38] #[3, 3] rfl #[.int .i64 term, .int .i64 ps.length] (by simp [Act.eval]) Try.func17 (by kernel_rfl) (by kernel_rfl) (pick_any term ps.length _ (by omega) (by omega) ht ht') ?_
  rintro e W1 ⟨rfl, rfl⟩
  refine ⟨_, rfl, hK.out _ _ hHeld (fun _ => ?_)⟩
  rw [hi]
  clear hK K
  simp only [Act.put, List.setIfInBounds_toArray, List.set_cons_zero, List.set_cons_succ]
  refine wpAnyH_take (i := 13) (oi := { dst := some 40, op := Op.indexAddr 26 (Operand.tmp 31) (Operand.tmp 39), type := 0, pos := "law.go:184", after := #[{ on := 4, ground := Ground.data }, { on := 12, ground := Ground.data }], guard := none }) (v := .pointer (some ⟨g, off + i * 2, none⟩)) rfl (by kernel_rfl) (by kernel_rfl) (by kernel_rfl) (fun _ _ _ h => h) (Or.inl ⟨by rfl, fun w' hSw => ?_⟩) hHeld ?_
  · obtain ⟨x1, x2, _, _⟩ := hSw
    go_simp
  simp only [Act.put, List.setIfInBounds_toArray, List.set_cons_zero, List.set_cons_succ]
  refine wpAnyH_take (i := 14) (oi := { dst := some 41, op := Op.load 42 (Operand.tmp 40), type := 42, pos := "law.go:184", after := #[{ on := 13, ground := Ground.data }], guard := none }) (v := .agg ([.pointer (some ⟨bt, 0, none⟩), .pointer (some ⟨br, 0, none⟩)]).toArray) rfl (by kernel_rfl) (by kernel_rfl) (by kernel_rfl) (fun _ _ _ h => h) (yieldsIf_load_mid (by rfl) 42 (.tmp 40) rfl g (off + i * 2) rfl ([.pointer (some ⟨bt, 0, none⟩), .pointer (some ⟨br, 0, none⟩)]) _ (fun w' hSw => hSw.2.2.2) Try.underlying42 rfl size_pair) hHeld ?_
  simp only [Act.put, List.setIfInBounds_toArray, List.set_cons_zero, List.set_cons_succ]
  refine wpAnyH_ready (rs := [16]) (by kernel_rfl) (by simp) ?_
  refine AllReadyH.cons (o := { dst := some 43, op := Op.call { callee := Callee.value (Operand.func 16), args := #[Operand.tmp 27, Operand.tmp 41, Operand.tmp 42], argTypes := #[25, 42, 36] }, type := 4, pos := "law.go:184", after := #[{ on := 0, ground := Ground.data }, { on := 14, ground := Ground.data }, { on := 15, ground := Ground.data }, { on := 12, ground := Ground.chain }], guard := none }) rfl (fun K hK => ?_) AllReadyH.nil
  refine step_call rfl 16 #[.tmp 27, .tmp 41, .tmp 42] #[25, 42, 36] rfl #[.pointer (some ⟨wb, 0, none⟩), .agg #[.pointer (some ⟨bt, 0, none⟩), .pointer (some ⟨br, 0, none⟩)], .agg (opCells kind term n s ss).toArray] (by simp [Act.eval]) Try.func16 (by kernel_rfl) (by kernel_rfl) (HD.out W.drew c2 i bt br σ (hW2.drew.pr hpi) hIσ) ?_
  rintro e W1 ⟨σ', hJ, hD⟩
  obtain ⟨c3, hW3, _⟩ := hW2.drew.after HIJ.out hpi hD hJ
  have hblk : ∀ k, k < W.heap.size → c2 k = 0 → W1.heap[k]? = W.heap[k]? := fun k hk h0 => by
    obtain ⟨_, _, _, hT, _⟩ := hD
    exact hT.block k hk (by rw [h0]; omega) (by rw [h0]; omega)
  have hcell : ∀ (k o : Nat), k < W.heap.size → c2 k = 0 → W1.cell? ⟨k, o, none⟩ = W.cell? ⟨k, o, none⟩ := fun k o hk h0 => World.cell?_of_block (hblk k hk h0)
  obtain ⟨rfl, _⟩ := hD
  have HF : Hid (∃ ps' c', ps'.length = ps.length ∧ Wd J W0 wb ps' c' W1) := ⟨_, c3, by simp, hW3⟩
  refine ⟨_, rfl, hK.out _ _ ⟨(hcell wb 0 hwlt hW2.cb).trans k0, (hcell B 1 hBlt hB.2).trans b1, fun j v hv => ?_, fun j v hv => ?_⟩ (fun hHeld => ?_)⟩
  · rw [hcell B _ hBlt hB.2, Nat.zero_add]; exact hB.1.cell j hv
  · rw [hcell g _ hg hcg]
    match j, hv with
    | 0, hv => cases hv; exact q1
    | 1, hv => cases hv; exact q2
    | j + 2, hv => simp at hv
  clear hK K
  simp only [Act.put, List.setIfInBounds_toArray, List.set_cons_zero, List.set_cons_succ]
  refine wpAnyH_take (i := 17) (oi := { dst := some 6, op := Op.assign (Operand.tmp 43), type := 4, pos := "law.go:184", after := #[{ on := 16, ground := Ground.data }, { on := 16, ground := Ground.chain }, { on := 0, ground := Ground.phase }, { on := 1, ground := Ground.phase }, { on := 2, ground := Ground.phase }, { on := 3, ground := Ground.phase }, { on := 4, ground := Ground.phase }, { on := 5, ground := Ground.phase }, { on := 6, ground := Ground.phase }, { on := 7, ground := Ground.phase }, { on := 8, ground := Ground.phase }, { on := 9, ground := Ground.phase }, { on := 10, ground := Ground.phase }, { on := 11, ground := Ground.phase }, { on := 12, ground := Ground.phase }, { on := 13, ground := Ground.phase }, { on := 14, ground := Ground.phase }, { on := 15, ground := Ground.phase }, { on := 16, ground := Ground.phase }], guard := none }) (v := .bool true) rfl (by kernel_rfl) (by kernel_rfl) (by kernel_rfl) (fun _ _ _ h => h) (Or.inl ⟨by rfl, fun w' hSw => ?_⟩) hHeld ?_
  · obtain ⟨x1, x2, _, _⟩ := hSw
    go_simp
  simp only [Act.put, List.setIfInBounds_toArray, List.set_cons_zero, List.set_cons_succ]
  refine wpAnyH_done (by kernel_rfl) ?_ _
  clear hHeld hcell hblk hW3 hW2 hB k0 b0 b1 q1 q2
  go_wp2
  go_ret
  exact ⟨rfl, HF.out⟩
end
end Go.Proofs.Ytnalckkllogdaaa
