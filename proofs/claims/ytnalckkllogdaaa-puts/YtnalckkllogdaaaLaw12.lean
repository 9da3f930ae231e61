/- Walks: the law: what all terminals tell behind a script. -/
import Derived.Test.YtnalckkllogdaaaLaw9
import Derived.Test.YtnalckkllogdaaaLaw11
import Derived.Deep.LoopGhost
namespace Go.Proofs.Ytnalckkllogdaaa
open Go Go.RowKit Go.Clk

section
variable (C : Int) (W0 : World) (wb : Nat) (ps : List (Nat × Nat × St)) (c : Nat → Nat) (w : World)

set_option maxHeartbeats 4000000 in
set_option maxRecDepth 100000 in
theorem ends_any (hW : Wd (IP C) W0 wb ps c w) (h4 : ps.length ≤ 4) :
    Calls Try.prog 9 #[.pointer (some ⟨wb, 0, none⟩), .int .i64 5] w fun e w' => e = .returned (.bool true) ∧ ∃ ps' c', Wd (IP C) W0 wb ps' c' w' := by
  go_enter Try.func9, Try.ntmps9
  go_wp2_with fail
  go_loopg [5] ps.length (fun r iv wr => ∃ (i : Nat) (qs : List (Nat × Nat × St)) (c' : Nat → Nat), i + r = ps.length ∧ iv = .int .i64 i ∧ qs.length = ps.length ∧ Wd (IP C) W0 wb qs c' wr)
  case atStart => exact ⟨0, ps, c, by omega, rfl, rfl, hW⟩
  case round =>
    obtain ⟨i, qs, c1, hi, rfl, hq, hW1⟩ := hrel
    obtain ⟨og, hog⟩ : ∃ og, og = gk := ⟨_, rfl⟩
    rw [← hog] at hi
    clear hW
    obtain ⟨pa, cap, _, hb, _⟩ := hW1.pv
    have k0 := hb.cell 0 (v := .slice pa qs.length cap) rfl
    clear hb
    by_cases hlt : i < qs.length
    · go_wp2_with fail
      generalize decide (i < ps.length) = d14
      go_loopg [6] 5 (fun r kv w2 => ∃ (k : Nat) (rs : List (Nat × Nat × St)) (c' : Nat → Nat), k + r = 6 ∧ 1 ≤ k ∧ kv = .int .i64 k ∧ rs.length = ps.length ∧ Wd (IP C) W0 wb rs c' w2)
      case atStart => exact ⟨1, qs, c1, by omega, by omega, rfl, hq, hW1⟩
      case round =>
        obtain ⟨k, rs, c2, hk, hk1, rfl, hr, hW2⟩ := hrel
        have hil : i < rs.length := by omega
        obtain ⟨⟨bt, br, σ⟩, hpi⟩ : ∃ x, rs[i]? = some x := ⟨_, List.getElem?_eq_getElem hil⟩
        clear k0 hW1
        obtain ⟨g, off, cap, k0, hg, hcg, q1, q3⟩ := hW2.at hpi
        have q2 : wr.cell? ⟨g, off + i * 2 + 1, none⟩ = some (.pointer (some ⟨br, 0, none⟩)) := q3
        clear q3
        have hIσ := (hW2.t i bt br σ hpi).2.2
        have cases : k = 1 ∨ k = 2 ∨ k = 3 ∨ k = 4 ∨ k = 5 ∨ k = 6 := by omega
        rcases cases with rfl | rfl | rfl | rfl | rfl | rfl
        · go_wp2_with fail
          refine (does_ask C wb 1 (.inl rfl) _ c2 i bt br σ (hW2.pr hpi) hIσ).mono ?_
          rintro e W3 ⟨σ', hI', hD⟩
          have HF : Hid (∃ c3, Wd (IP C) W0 wb (rs.set i (bt, br, σ')) c3 W3) := by
            obtain ⟨c3, h3, _⟩ := hW2.after (fun _ h => h) hpi hD hI'
            exact ⟨c3, h3⟩
          obtain ⟨rfl, _⟩ := hD
          clear hW2 k0 q1 q2
          go_wp2
          go_roundg (gk - 1)
          case measure => omega
          case rel =>
            obtain ⟨c3, h3⟩ := HF.out
            exact ⟨2, _, c3, by omega, by omega, by go_num, by simpa using hr, h3⟩
        · clear k0 q1 q2
          go_wp2
          go_roundg (gk - 1)
          case measure => omega
          case rel => exact ⟨3, rs, c2, by omega, by omega, by go_num, hr, hW2⟩
        · go_wp2_with fail
          refine (does_ask C wb 3 (.inr (.inl rfl)) _ c2 i bt br σ (hW2.pr hpi) hIσ).mono ?_
          rintro e W3 ⟨σ', hI', hD⟩
          have HF : Hid (∃ c3, Wd (IP C) W0 wb (rs.set i (bt, br, σ')) c3 W3) := by
            obtain ⟨c3, h3, _⟩ := hW2.after (fun _ h => h) hpi hD hI'
            exact ⟨c3, h3⟩
          obtain ⟨rfl, _⟩ := hD
          clear hW2 k0 q1 q2
          go_wp2
          go_roundg (gk - 1)
          case measure => omega
          case rel =>
            obtain ⟨c3, h3⟩ := HF.out
            exact ⟨4, _, c3, by omega, by omega, by go_num, by simpa using hr, h3⟩
        · go_wp2_with fail
          refine (does_ask C wb 4 (.inr (.inr rfl)) _ c2 i bt br σ (hW2.pr hpi) hIσ).mono ?_
          rintro e W3 ⟨σ', hI', hD⟩
          have HF : Hid (∃ c3, Wd (IP C) W0 wb (rs.set i (bt, br, σ')) c3 W3) := by
            obtain ⟨c3, h3, _⟩ := hW2.after (fun _ h => h) hpi hD hI'
            exact ⟨c3, h3⟩
          obtain ⟨rfl, _⟩ := hD
          clear hW2 k0 q1 q2
          go_wp2
          go_roundg (gk - 1)
          case measure => omega
          case rel =>
            obtain ⟨c3, h3⟩ := HF.out
            exact ⟨5, _, c3, by omega, by omega, by go_num, by simpa using hr, h3⟩
        · clear k0 q1 q2
          go_wp2
          go_roundg (gk - 1)
          case measure => omega
          case rel => exact ⟨6, rs, c2, by omega, by omega, by go_num, hr, hW2⟩
        · clear k0 q1 q2
          go_wp2
          go_roundg (og - 1)
          case measure => omega
          case rel => exact ⟨i + 1, rs, c2, by omega, by go_num, hr, hW2⟩
    · go_wp2_with fail
      refine (looks_nil (IP C) W0 wb qs c1 _ hW1).mono ?_
      rintro e W1 ⟨rfl, rfl⟩
      go_wp2
      go_ret
      exact ⟨rfl, qs, c1, hW1⟩
end
end Go.Proofs.Ytnalckkllogdaaa
