/- Walks: the law: looks, while no list has come out; head. -/
import Derived.Test.YtnalckkllogdaaaLaw7
import Derived.Test.YtnalckkllogdaaaLaw8
namespace Go.Proofs.Ytnalckkllogdaaa
open Go Go.RowKit Go.Clk

section
variable (I J : St → Prop) (W0 : World) (wb : Nat) (ps : List (Nat × Nat × St)) (c : Nat → Nat) (w : World)

set_option maxHeartbeats 2000000 in
set_option maxRecDepth 100000 in
theorem looks_nil (hW : Wd I W0 wb ps c w) :
    Calls Try.prog 8 #[.pointer (some ⟨wb, 0, none⟩)] w fun e w' => e = .returned (.bool true) ∧ w = w' := by
  obtain ⟨pa, cap, po, hb, _⟩ := hW.pv
  have k2 := hb.cell 2 (v := .slice none 0 0) rfl
  clear hW hb
  go_enter Try.func8, Try.ntmps8
  go_wp2_with fail
  go_loopg [3] 0 (fun _ i wr => i = .int .i64 0 ∧ w = wr)
  case atStart => exact ⟨rfl, rfl⟩
  case round =>
    obtain ⟨rfl, rfl⟩ := hrel
    go_wp2
    go_ret
    exact ⟨rfl, rfl⟩

theorem head_put : newS.write [97, 10] = ({ newS with out := [97, 13, 10], col := 0 }, 2) := rfl
theorem head_sent : ({ newS with out := [97, 13, 10], col := 0 } : St).drain 9 = ({ newS with out := [], col := 0 }, [97, 13, 10]) := rfl

set_option maxHeartbeats 2000000 in
set_option maxRecDepth 100000 in
theorem head_any (hW : Wd (IP 0) W0 wb [] c w) :
    Calls Try.prog 5 #[.pointer (some ⟨wb, 0, none⟩)] w fun e w' => e = .returned (.bool true) ∧ ∃ bt br σ c', Wd (IP 2048) W0 wb [(bt, br, σ)] c' w' := by
  go_enter Try.func5, Try.ntmps5
  go_wp2_with fail
  refine (more_any (IP 0) W0 wb [] c w IP.new hW (by simp)).mono ?_
  rintro e W1 ⟨rfl, bt, br, c1, hW1⟩
  have hi : ([] ++ [(bt, br, newS)] : List (Nat × Nat × St))[0]? = some (bt, br, newS) := rfl
  obtain ⟨g, off, cap, k0, hg, hcg, q1, q2⟩ := hW1.at hi
  have q1' : W1.cell? ⟨g, off, none⟩ = some (.pointer (some ⟨bt, 0, none⟩)) := q1
  have q2' : W1.cell? ⟨g, off + 1, none⟩ = some (.pointer (some ⟨br, 0, none⟩)) := q2
  have k0' : W1.cell? ⟨wb, 0, none⟩ = some (.slice (some ⟨g, off, none⟩) 1 cap) := k0
  clear q1 q2 k0 hW
  go_wp2_with fail
  have hP0 : Pr W1 c1 2 3 bt br newS newS := hW1.pr hi
  have hPa := hP0.alloc (.cells #[.pointer (some ⟨bt, 0, none⟩), .pointer (some ⟨br, 0, none⟩)] 42)
  have hA := Bx.new W1 c1 42 [.pointer (some ⟨bt, 0, none⟩), .pointer (some ⟨br, 0, none⟩)]
  have hT := (Tw.refl c1 2 3 W1).alloc (.cells #[.pointer (some ⟨bt, 0, none⟩), .pointer (some ⟨br, 0, none⟩)] 42)
  have hc0 : ∀ k, k < W1.heap.size → recol W1 c1 0 k = c1 k := fun k hk => recol_old hk
  clear hP0 q1' q2' k0'
  generalize recol W1 c1 0 = c2 at *
  refine (hPa.doP (v := .int .i64 2) (σ' := { newS with out := [97, 13, 10], col := 0 }) (by decide) (fun S0 w0 hX => PWrite_any S0 w0 [] bt newS _ 0 hX IP.new.ok (by decide) (by decide) ⟨#[97, 10]⟩ (by decide))).mono ?_
  rintro e W2 ⟨rfl, hP1, ht1⟩
  have hA1 := hA.stay ht1 (by decide)
  have hT1 := hT.next hc0 ht1 (.inl rfl)
  have hc1 : ∀ k, k < W1.heap.size → recol _ c2 2 k = c1 k := fun k hk => (recol_old (Nat.lt_of_lt_of_le hk hT.size)).trans (hc0 k hk)
  have a1 := hA1.1.cell 1 (v := .pointer (some ⟨br, 0, none⟩)) rfl
  clear hPa hA hT hc0 ht1
  generalize recol (W1.alloc _) c2 2 = c3 at *
  go_wp2_with fail
  refine (hP1.doR (v := .int .i64 2) (τ' := { newS with out := [97, 13, 10], col := 0 }) (by decide) (fun S0 w0 hX => Write_any S0 w0 [] br newS _ 0 hX IP.new.ok (by decide) (by decide) ⟨#[97, 10]⟩ (by decide))).mono ?_
  rintro e W3 ⟨rfl, hP2, ht2⟩
  have hA2 := hA1.stay ht2 (by decide)
  have hT2 := hT1.next hc1 ht2 (.inr rfl)
  have hc2 : ∀ k, k < W1.heap.size → recol W2 c3 3 k = c1 k := fun k hk => (recol_old (Nat.lt_of_lt_of_le hk hT1.size)).trans (hc1 k hk)
  have a0 := hA2.1.cell 0 (v := .pointer (some ⟨bt, 0, none⟩)) rfl
  clear hP1 hA1 hT1 hc1 ht2 a1
  generalize recol W2 c3 3 = c4 at *
  go_wp2_with fail
  refine (hP2.doP (v := .tuple #[.string ⟨#[97, 13, 10]⟩, .int .i64 0]) (σ' := { newS with out := [], col := 0 }) (by decide) (fun S0 w0 hX => PDrain_any S0 w0 [] bt { newS with out := [97, 13, 10], col := 0 } _ hX 9 (by decide) (by decide) (by decide) (by decide))).mono ?_
  rintro e W4 ⟨rfl, hP3, ht3⟩
  have hA3 := hA2.stay ht3 (by decide)
  have hT3 := hT2.next hc2 ht3 (.inl rfl)
  have hc3 : ∀ k, k < W1.heap.size → recol W3 c4 2 k = c1 k := fun k hk => (recol_old (Nat.lt_of_lt_of_le hk hT2.size)).trans (hc2 k hk)
  have a1 := hA3.1.cell 1 (v := .pointer (some ⟨br, 0, none⟩)) rfl
  clear hP2 hA2 hT2 hc2 ht3 a0
  generalize recol W3 c4 2 = c5 at *
  go_wp2_with fail
  refine (hP3.doR (v := .tuple #[.string ⟨#[97, 13, 10]⟩, .int .i64 0]) (τ' := { newS with out := [], col := 0 }) (by decide) (fun S0 w0 hX => Drain_any S0 w0 [] br { newS with out := [97, 13, 10], col := 0 } _ hX 9 (by decide) (by decide) (by decide))).mono ?_
  rintro e W5 ⟨rfl, hP4, ht4⟩
  have hT4 := hT3.next hc3 ht4 (.inr rfl)
  have hc4 : ∀ k, k < W1.heap.size → recol W4 c5 3 k = c1 k := fun k hk => (recol_old (Nat.lt_of_lt_of_le hk hT3.size)).trans (hc3 k hk)
  have HF : Hid (∃ bt br σ c', Wd (IP 2048) W0 wb [(bt, br, σ)] c' W5) := by
    obtain ⟨c', h, _⟩ := hW1.after (J := IP 2048) (fun σ h => h.mono (by decide)) (e := .returned (.bool true)) hi ⟨rfl, _, hP4, hT4, hc4⟩ ((IP.new.write [97, 10]).drain 9)
    exact ⟨bt, br, _, c', h⟩
  clear hP3 hA3 hT3 hc3 ht4 a1 hP4 hT4 hc4 hW1
  go_wp2
  go_ret
  exact ⟨rfl, HF.out⟩
end
end Go.Proofs.Ytnalckkllogdaaa
