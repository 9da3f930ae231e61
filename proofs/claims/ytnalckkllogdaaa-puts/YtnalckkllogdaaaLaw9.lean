/- The law: a step on a pair, of the kinds up to KOut. -/
import Derived.Test.YtnalckkllogdaaaLaw4
import Derived.Test.YtnalckkllogdaaaLaw5
import Derived.Test.YtnalckkllogdaaaLaw8
namespace Go.Proofs.Ytnalckkllogdaaa
open Go Go.RowKit Go.Clk

section
variable (C : Int) (wb : Nat) (kind term n : Int) (s : ByteArray) (ss : List Int)

theorem does_any (hC : C ≤ 1152921504606800000) (hk : 1 ≤ kind) (hk' : kind ≤ 5) (hn : n ≤ 9223372036854775807) (hs : s.size ≤ maxLen) (hss : ss.length = 17)
    (W : World) (c2 : Nat → Nat) (i bt br : Nat) (σ : St) (h : Pr W c2 (2 * i + 2) (2 * i + 3) bt br σ σ) (hI : IP C σ) :
    Calls Try.prog 16 #[.pointer (some ⟨wb, 0, none⟩), .agg #[.pointer (some ⟨bt, 0, none⟩), .pointer (some ⟨br, 0, none⟩)], .agg (opCells kind term n s ss).toArray] W fun e w' => ∃ σ', IP (C + 2048) σ' ∧ Dn c2 (2 * i + 2) (2 * i + 3) bt br W σ' e w' := by
  have hij : 2 * i + 2 ≠ 2 * i + 3 := by omega
  have hi0 : 2 * i + 2 ≠ 0 := by omega
  have hj0 : 2 * i + 3 ≠ 0 := by omega
  have up : C ≤ C + 2048 := by omega
  have cases : kind = 1 ∨ kind = 2 ∨ kind = 3 ∨ kind = 4 ∨ kind = 5 := by omega
  rcases cases with rfl | rfl | rfl | rfl | rfl
  · exact (does_tells c2 _ _ bt br wb σ σ W 1 term n s ss h hss rfl rfl rfl rfl rfl rfl rfl rfl (fun W' c' hP => tells_get c' _ _ bt br wb σ W' term n s ss hP hij hi0 hj0)).mono fun e w' hD => ⟨σ, hI.mono up, hD⟩
  · exact (does_write C c2 _ _ bt br wb σ W term n s ss h hij hi0 hI.ok hI.out hC hs).mono fun e w' hD => ⟨_, hI.write _, hD⟩
  · rcases Int.lt_or_le n 0 with h0 | h0
    · exact (does_tells c2 _ _ bt br wb σ σ W 3 term n s ss h hss rfl rfl rfl rfl rfl rfl rfl rfl (fun W' c' hP => tells_drain_no c' _ _ bt br wb σ W' term n s ss hP hij hi0 h0)).mono fun e w' hD => ⟨σ, hI.mono up, hD⟩
    · exact (does_tells c2 _ _ bt br wb σ _ W 3 term n s ss h hss rfl rfl rfl rfl rfl rfl rfl rfl (fun W' c' hP => tells_drain c' _ _ bt br wb σ W' term n s ss hP hij hi0 h0 hn hI.urg hI.out)).mono fun e w' hD => ⟨_, (hI.drain _).mono up, hD⟩
  · exact (does_tells c2 _ _ bt br wb σ σ W 4 term n s ss h hss rfl rfl rfl rfl rfl rfl rfl rfl (fun W' c' hP => tells_status c' _ _ bt br wb σ W' term n s ss hP hij hi0 hj0)).mono fun e w' hD => ⟨σ, hI.mono up, hD⟩
  · exact (does_out C c2 _ _ bt br wb σ W term n s ss h hij hi0 hj0 hI.ok hI.reads hI.held hI.fl hss).mono fun e w' hD => ⟨_, (hI.flags _ _).mono up, hD⟩
/-- What is asked at the end. -/
theorem does_ask (k : Int) (hk : k = 1 ∨ k = 3 ∨ k = 4)
    (W : World) (c2 : Nat → Nat) (i bt br : Nat) (σ : St) (h : Pr W c2 (2 * i + 2) (2 * i + 3) bt br σ σ) (hI : IP C σ) :
    Calls Try.prog 16 #[.pointer (some ⟨wb, 0, none⟩), .agg #[.pointer (some ⟨bt, 0, none⟩), .pointer (some ⟨br, 0, none⟩)], .agg (opCells k 0 1000 ByteArray.empty (List.replicate 17 0)).toArray] W fun e w' => ∃ σ', IP C σ' ∧ Dn c2 (2 * i + 2) (2 * i + 3) bt br W σ' e w' := by
  have hij : 2 * i + 2 ≠ 2 * i + 3 := by omega
  have hi0 : 2 * i + 2 ≠ 0 := by omega
  have hj0 : 2 * i + 3 ≠ 0 := by omega
  rcases hk with rfl | rfl | rfl
  · exact (does_tells c2 _ _ bt br wb σ σ W 1 0 1000 ByteArray.empty (List.replicate 17 0) h (by simp) rfl rfl rfl rfl rfl rfl rfl rfl (fun W' c' hP => tells_get c' _ _ bt br wb σ W' 0 1000 ByteArray.empty (List.replicate 17 0) hP hij hi0 hj0)).mono fun e w' hD => ⟨σ, hI, hD⟩
  · exact (does_tells c2 _ _ bt br wb σ _ W 3 0 1000 ByteArray.empty (List.replicate 17 0) h (by simp) rfl rfl rfl rfl rfl rfl rfl rfl (fun W' c' hP => tells_drain c' _ _ bt br wb σ W' 0 1000 ByteArray.empty (List.replicate 17 0) hP hij hi0 (by decide) (by decide) hI.urg hI.out)).mono fun e w' hD => ⟨_, hI.drain _, hD⟩
  · exact (does_tells c2 _ _ bt br wb σ σ W 4 0 1000 ByteArray.empty (List.replicate 17 0) h (by simp) rfl rfl rfl rfl rfl rfl rfl rfl (fun W' c' hP => tells_status c' _ _ bt br wb σ W' 0 1000 ByteArray.empty (List.replicate 17 0) hP hij hi0 hj0)).mono fun e w' hD => ⟨σ, hI, hD⟩
end
end Go.Proofs.Ytnalckkllogdaaa
