/- Walks: the law: a step that tells. -/
import Derived.Test.YtnalckkllogdaaaLaw1
namespace Go.Proofs.Ytnalckkllogdaaa
open Go Go.RowKit Go.Clk

theorem size_op : (Try.prog.info? 36).map (·.size) = some 21 := by kernel_rfl
theorem size_pair : (Try.prog.info? 42).map (·.size) = some 2 := by kernel_rfl
theorem Dn.after {c c2 : Nat → Nat} {i j bt br : Nat} {w W : World} {σ' : St} {e : Ending} {w' : World} (hT : Tw c i j w W) (hc : ∀ k, k < w.heap.size → c2 k = c k) (h : Dn c2 i j bt br W σ' e w') : Dn c i j bt br w σ' e w' := by
  obtain ⟨h1, c', h2, h3, h4⟩ := h
  refine ⟨h1, c', h2, ⟨h3.os.trans hT.os, h3.tape.trans hT.tape, h3.output.trans hT.output, Nat.le_trans hT.size h3.size, fun k hk q1 q2 => ?_⟩, fun k hk => (h4 k (Nat.lt_of_lt_of_le hk hT.size)).trans (hc k hk)⟩
  exact (h3.block k (Nat.lt_of_lt_of_le hk hT.size) (by rw [hc k hk]; exact q1) (by rw [hc k hk]; exact q2)).trans (hT.block k hk q1 q2)

section
variable (c : Nat → Nat) (i j bt br wb : Nat) (σ σ' : St) (w : World) (kind term n : Int) (s : ByteArray) (ss : List Int)

set_option maxHeartbeats 2000000 in
set_option maxRecDepth 100000 in
theorem does_tells (h : Pr w c i j bt br σ σ) (hss : ss.length = 17) (k2 : (kind == 2) = false) (k5 : (kind == 5) = false) (k6 : (kind == 6) = false) (k8 : (kind == 8) = false) (k9 : (kind == 9) = false) (k11 : (kind == 11) = false) (k12 : (kind == 12) = false) (k13 : (kind == 13) = false)
    (ht : ∀ W c2, Pr W c2 i j bt br σ σ → Calls Try.prog 35 #[.pointer (some ⟨wb, 0, none⟩), .agg #[.pointer (some ⟨bt, 0, none⟩), .pointer (some ⟨br, 0, none⟩)], .agg (opCells kind term n s ss).toArray] W fun e w' => Dn c2 i j bt br W σ' e w') :
    Calls Try.prog 16 #[.pointer (some ⟨wb, 0, none⟩), .agg #[.pointer (some ⟨bt, 0, none⟩), .pointer (some ⟨br, 0, none⟩)], .agg (opCells kind term n s ss).toArray] w fun e w' => Dn c i j bt br w σ' e w' := by
  have hol : (opCells kind term n s ss).length = 21 := by unfold opCells; rw [List.length_append, i64s_len, hss]; rfl
  have hio : (Try.prog.info? 36).map (·.size) = some (opCells kind term n s ss).length := by rw [hol]; exact size_op
  have HT : Hid (∀ W c2, Pr W c2 i j bt br σ σ → Calls Try.prog 35 #[.pointer (some ⟨wb, 0, none⟩), .agg #[.pointer (some ⟨bt, 0, none⟩), .pointer (some ⟨br, 0, none⟩)], .agg (opCells kind term n s ss).toArray] W fun e w' => Dn c2 i j bt br W σ' e w') := ht
  clear ht
  go_enter Try.func16, Try.ntmps16
  go_wp2_with (first | refine wpList_box rfl (.tmp 2) 36 rfl (opCells kind term n s ss) rfl ?_)
  intro W B hid
  obtain ⟨c2, hP, hA, hB, hT, hc2⟩ := boxes h [.pointer (some ⟨bt, 0, none⟩), .pointer (some ⟨br, 0, none⟩)] (opCells kind term n s ss) W B 42 36 hid.out
  obtain ⟨A, hAe⟩ : ∃ A, A = w.heap.size := ⟨_, rfl⟩
  rw [← hAe] at hA ⊢
  clear hAe
  have a0 := hA.1.cell 0 (v := .pointer (some ⟨bt, 0, none⟩)) rfl
  have a1 := hA.1.cell 1 (v := .pointer (some ⟨br, 0, none⟩)) rfl
  have b0 := hB.1.cell 0 (v := .int .i64 kind) rfl
  go_wp2_with (refine wpList_load_part rfl (.tmp 5) 36 rfl B 0 rfl (opCells kind term n s ss) _ ?hc Try.underlying36 rfl hio ?next)
  case hc =>
    intro k v hv
    rw [Nat.zero_add]
    exact hB.1.cell k hv
  refine (HT.out W c2 hP).mono ?_
  intro e W1 hD
  have HF : Hid (Dn c i j bt br w σ' e W1) := hD.after hT hc2
  obtain ⟨rfl, _⟩ := hD
  clear a0 a1 b0
  go_wp2
  go_ret
  exact HF.out
end
end Go.Proofs.Ytnalckkllogdaaa
