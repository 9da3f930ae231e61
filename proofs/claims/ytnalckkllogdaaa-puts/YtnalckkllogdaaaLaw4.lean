/- Walks: the law: what a pair tells: Status. -/
import Derived.Test.YtnalckkllogdaaaLaw3
import Derived.Test.YtnalckkllogdaaaProg12
namespace Go.Proofs.Ytnalckkllogdaaa
open Go Go.RowKit Go.Clk

def stL (σ : St) : List Value := [.int .i64 (σ.inq.length : Nat), .int .i64 (σ.out.length : Nat), .int .i64 σ.col, .bool σ.stopped, .bool σ.held, .bool σ.quoted]

section
variable (c : Nat → Nat) (i j bt br wb : Nat) (σ : St) (w : World) (term n : Int) (s : ByteArray) (ss : List Int)

set_option maxHeartbeats 4000000 in
set_option maxRecDepth 100000 in
theorem tells_status (h : Pr w c i j bt br σ σ) (hij : i ≠ j) (hi0 : i ≠ 0) (hj0 : j ≠ 0) :
    Calls Try.prog 35 #[.pointer (some ⟨wb, 0, none⟩), .agg #[.pointer (some ⟨bt, 0, none⟩), .pointer (some ⟨br, 0, none⟩)], .agg (opCells 4 term n s ss).toArray] w fun e w' => Dn c i j bt br w σ e w' := by
  go_enter Try.func35, Try.ntmps35
  go_wp2_with (first | refine wpList_box rfl (.tmp 2) 36 rfl (opCells 4 term n s ss) rfl ?_)
  intro W B hid
  obtain ⟨c2, hP, hA, hB, hT, hc2⟩ := boxes h [.pointer (some ⟨bt, 0, none⟩), .pointer (some ⟨br, 0, none⟩)] (opCells 4 term n s ss) W B 42 36 hid.out
  obtain ⟨A, hAe⟩ : ∃ A, A = w.heap.size := ⟨_, rfl⟩
  rw [← hAe] at hA ⊢
  clear hAe
  have a0 := hA.1.cell 0 (v := .pointer (some ⟨bt, 0, none⟩)) rfl
  have b0 := hB.1.cell 0 (v := .int .i64 4) rfl
  go_wp2_with fail
  refine (hP.doP hij (fun S0 w0 hX => PStatus_any S0 w0 [] bt σ W hX)).mono ?_
  rintro e W1 ⟨rfl, hP1, ht1⟩
  have hA1 := hA.stay ht1 hi0
  have hT1 := hT.next hc2 ht1 (.inl rfl)
  have hc1 : ∀ k, k < w.heap.size → recol W c2 i k = c k := fun k hk => (recol_old (Nat.lt_of_lt_of_le hk hT.size)).trans (hc2 k hk)
  clear a0 b0 hB hA hP
  generalize recol W c2 i = c3 at *
  have hbk := (Bx.new W1 c3 85 (stL σ))
  have hPz := hP1.alloc (.cells (stL σ).toArray 85)
  have hAz := hA1.alloc (.cells (stL σ).toArray 85)
  have hTz := hT1.alloc (.cells (stL σ).toArray 85)
  have hcz : ∀ k, k < w.heap.size → recol W1 c3 0 k = c k := fun k hk => (recol_old (Nat.lt_of_lt_of_le hk hT1.size)).trans (hc1 k hk)
  have a1 := hA1.1.cell 1 (v := .pointer (some ⟨br, 0, none⟩)) rfl
  have hAlt := hA1.1.lt
  unfold statusV
  go_wp2_with fail
  refine (hPz.doR hij (fun S0 w0 hX => Status_any S0 w0 [] br σ _ hX)).mono ?_
  rintro e W2 ⟨rfl, hP2, ht2⟩
  have hB2 := hbk.stay ht2 hj0
  have hT2 := hTz.next hcz ht2 (.inr rfl)
  have hcy : ∀ k, k < w.heap.size → recol (W1.alloc (.cells (stL σ).toArray 85)) (recol W1 c3 0) j k = c k := fun k hk => (recol_old (Nat.lt_of_lt_of_le hk hTz.size)).trans (hcz k hk)
  have s0 := hB2.1.cell 0 (v := .int .i64 (σ.inq.length : Nat)) rfl
  have s1 := hB2.1.cell 1 (v := .int .i64 (σ.out.length : Nat)) rfl
  have s2 := hB2.1.cell 2 (v := .int .i64 σ.col) rfl
  have s3 := hB2.1.cell 3 (v := .bool σ.stopped) rfl
  have s4 := hB2.1.cell 4 (v := .bool σ.held) rfl
  have s5 := hB2.1.cell 5 (v := .bool σ.quoted) rfl
  have hlt2 := hB2.1.lt
  have HF : Hid (Dn c i j bt br w σ (.returned (.bool true)) (W2.alloc (.cells (stL σ).toArray 85))) :=
    ⟨rfl, _, hP2.alloc _, hT2.alloc _, fun k hk => (recol_old (Nat.lt_of_lt_of_le hk hT2.size)).trans (hcy k hk)⟩
  clear hP2 hT2 hcy hB2 ht2 hPz hAz hTz hcz hbk hP1 hA1 hT1 hc1 a1
  unfold statusV
  go_wp2
  go_ret
  exact HF.out
end
end Go.Proofs.Ytnalckkllogdaaa
