/- Walks: the law: what a pair tells: Drain. -/
import Derived.Test.YtnalckkllogdaaaLaw1
namespace Go.Proofs.Ytnalckkllogdaaa
open Go Go.RowKit Go.Clk

section
variable (c : Nat → Nat) (i j bt br wb : Nat) (σ : St) (w : World) (term n : Int) (s : ByteArray) (ss : List Int)

set_option maxHeartbeats 2000000 in
set_option maxRecDepth 100000 in
theorem tells_drain_no (h : Pr w c i j bt br σ σ) (hij : i ≠ j) (hi0 : i ≠ 0) (hn : n < 0) :
    Calls Try.prog 35 #[.pointer (some ⟨wb, 0, none⟩), .agg #[.pointer (some ⟨bt, 0, none⟩), .pointer (some ⟨br, 0, none⟩)], .agg (opCells 3 term n s ss).toArray] w fun e w' => Dn c i j bt br w (σ) e w' := by
  go_enter Try.func35, Try.ntmps35
  go_wp2_with (first | refine wpList_box rfl (.tmp 2) 36 rfl (opCells 3 term n s ss) rfl ?_)
  intro W B hid
  obtain ⟨c2, hP, hA, hB, hT, hc2⟩ := boxes h [.pointer (some ⟨bt, 0, none⟩), .pointer (some ⟨br, 0, none⟩)] (opCells 3 term n s ss) W B 42 36 hid.out
  obtain ⟨A, hAe⟩ : ∃ A, A = w.heap.size := ⟨_, rfl⟩
  rw [← hAe] at hA ⊢
  clear hAe
  have a0 := hA.1.cell 0 (v := .pointer (some ⟨bt, 0, none⟩)) rfl
  have b0 := hB.1.cell 0 (v := .int .i64 3) rfl
  have b2 := hB.1.cell 2 (v := .int .i64 n) rfl
  go_wp2_with fail
  refine (hP.doP hij (fun S0 w0 hX => PDrain_no S0 w0 [] bt σ W hX n hn)).mono ?_
  rintro e W1 ⟨rfl, hP1, ht1⟩
  have hA1 := hA.stay ht1 hi0
  have hB1 := hB.stay ht1 hi0
  have a1 := hA1.1.cell 1 (v := .pointer (some ⟨br, 0, none⟩)) rfl
  have b2' := hB1.1.cell 2 (v := .int .i64 n) rfl
  clear a0 b0 b2
  go_wp2_with fail
  refine (hP1.doR hij (fun S0 w0 hX => Drain_no S0 w0 [] br σ W1 hX n hn)).mono ?_
  rintro e W2 ⟨rfl, hP2, ht2⟩
  clear a1 b2'
  have HF : Hid (Dn c i j bt br w (σ) (.returned (.bool true)) W2) :=
    ⟨rfl, _, hP2, (hT.next hc2 ht1 (.inl rfl)).next (fun k hk => (recol_old (Nat.lt_of_lt_of_le hk hT.size)).trans (hc2 k hk)) ht2 (.inr rfl),
      fun k hk => (recol_old (Nat.lt_of_lt_of_le (Nat.lt_of_lt_of_le hk hT.size) ht1.size)).trans ((recol_old (Nat.lt_of_lt_of_le hk hT.size)).trans (hc2 k hk))⟩
  go_wp2_with (go_at_call 36; refine (num_any _ _).mono ?_; rintro e w' ⟨rfl, hw⟩; have hw := hw.symm; subst hw)
  go_ret
  exact HF.out

set_option maxHeartbeats 2000000 in
set_option maxRecDepth 100000 in
theorem tells_drain (h : Pr w c i j bt br σ σ) (hij : i ≠ j) (hi0 : i ≠ 0) (hn : 0 ≤ n) (hn' : n ≤ 9223372036854775807) (hu : σ.urg.length ≤ 1000000000) (ho : σ.out.length ≤ 256) :
    Calls Try.prog 35 #[.pointer (some ⟨wb, 0, none⟩), .agg #[.pointer (some ⟨bt, 0, none⟩), .pointer (some ⟨br, 0, none⟩)], .agg (opCells 3 term n s ss).toArray] w fun e w' => Dn c i j bt br w ((σ.drain n.toNat).1) e w' := by
  go_enter Try.func35, Try.ntmps35
  go_wp2_with (first | refine wpList_box rfl (.tmp 2) 36 rfl (opCells 3 term n s ss) rfl ?_)
  intro W B hid
  obtain ⟨c2, hP, hA, hB, hT, hc2⟩ := boxes h [.pointer (some ⟨bt, 0, none⟩), .pointer (some ⟨br, 0, none⟩)] (opCells 3 term n s ss) W B 42 36 hid.out
  obtain ⟨A, hAe⟩ : ∃ A, A = w.heap.size := ⟨_, rfl⟩
  rw [← hAe] at hA ⊢
  clear hAe
  have a0 := hA.1.cell 0 (v := .pointer (some ⟨bt, 0, none⟩)) rfl
  have b0 := hB.1.cell 0 (v := .int .i64 3) rfl
  have b2 := hB.1.cell 2 (v := .int .i64 n) rfl
  go_wp2_with fail
  refine (hP.doP hij (fun S0 w0 hX => PDrain_any S0 w0 [] bt σ W hX n hn hn' hu ho)).mono ?_
  rintro e W1 ⟨rfl, hP1, ht1⟩
  have hA1 := hA.stay ht1 hi0
  have hB1 := hB.stay ht1 hi0
  have a1 := hA1.1.cell 1 (v := .pointer (some ⟨br, 0, none⟩)) rfl
  have b2' := hB1.1.cell 2 (v := .int .i64 n) rfl
  clear a0 b0 b2
  go_wp2_with fail
  refine (hP1.doR hij (fun S0 w0 hX => Drain_any S0 w0 [] br σ W1 hX n hn hu ho)).mono ?_
  rintro e W2 ⟨rfl, hP2, ht2⟩
  clear a1 b2'
  have HF : Hid (Dn c i j bt br w ((σ.drain n.toNat).1) (.returned (.bool true)) W2) :=
    ⟨rfl, _, hP2, (hT.next hc2 ht1 (.inl rfl)).next (fun k hk => (recol_old (Nat.lt_of_lt_of_le hk hT.size)).trans (hc2 k hk)) ht2 (.inr rfl),
      fun k hk => (recol_old (Nat.lt_of_lt_of_le (Nat.lt_of_lt_of_le hk hT.size) ht1.size)).trans ((recol_old (Nat.lt_of_lt_of_le hk hT.size)).trans (hc2 k hk))⟩
  go_wp2_with (go_at_call 36; refine (num_any _ _).mono ?_; rintro e w' ⟨rfl, hw⟩; have hw := hw.symm; subst hw)
  go_ret
  exact HF.out
end
end Go.Proofs.Ytnalckkllogdaaa
