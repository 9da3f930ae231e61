/- Walks: the reference's terminal: a byte is put out, whatever it is; several; a string. -/
import Derived.Test.YtnalckkllogdaaaRef2
import Derived.Deep.LoopGhost
import Derived.Handy
namespace Go.Proofs.Ytnalckkllogdaaa
open Go Go.RowKit Go.Clk

section
variable (S0 : List Nat) (w0 : World) (x : List Nat) (b : Nat) (σ : St) (c : UInt8) (w : World) (C : Int)

set_option maxHeartbeats 1000000 in
set_option maxRecDepth 100000 in
theorem puts_blanks (h : AtR S0 w0 x b σ w) (ok : Ok σ C) (hC : C ≤ 2305843009213693000) (hl : σ.out.length ≤ 90000) (hp : bit σ.o 1 = true) (h64 : bit σ.o 64 = true) :
    Calls Try.prog 38 #[.pointer (some ⟨b, 0, none⟩), .int .u8 9] w fun e w' => e = .returned (.tuple #[]) ∧ AtR S0 w0 x b (σ.sents (List.replicate (8 - σ.col % 8).toNat 32)) w' := by
  obtain ⟨vi, vo, vu, vn, vd, hV⟩ := h
  have o0 := ok.o0; have o1 := ok.o1; have c0 := ok.c0; have c1 := ok.c1
  have k20 := hV.c20
  go_enter Try.func38, Try.ntmps38
  go_wp2_with (first | (go_at_call 57; refine (out_any b σ.o _ _ hV.co o0 o1 (by omega) (by omega)).mono ?_; rintro e w' ⟨rfl, rfl⟩) | (go_at_call 59; refine (next_any _ _ (by omega) (by omega)).mono ?_; rintro e w' ⟨rfl, rfl⟩))
  all_goals
    go_loopg [] (8 - σ.col % 8).toNat (fun k wr => ∃ j : Nat, j + k = (8 - σ.col % 8).toNat ∧ AtR S0 w0 x b (σ.sents (List.replicate j 32)) wr)
    case atStart => exact ⟨0, by omega, by rw [List.replicate_zero, sents_nil]; exact hV.r⟩
    case round =>
      clear k20 hV
      obtain ⟨j, hj, hR⟩ := hrel
      have hR' := hR
      obtain ⟨vi, vo, vu, vn, vd, hV⟩ := hR'
      have k20 : wr.cell? ⟨b, 20, none⟩ = some (.int .i64 (σ.col + j)) := by rw [hV.c20, sents_col, moves_blanks]
      have hlen : (σ.sents (List.replicate j 32)).out.length ≤ 90010 := by rw [sents_out]; simp; omega
      have hlen2 : (List.replicate j (32 : UInt8)).length = j := List.length_replicate
      have HK : Hid (Ok (σ.sents (List.replicate j 32)) (C + 8 * j)) := by have := ok.sents (List.replicate j 32); rw [hlen2] at this; exact this
      clear hV hlen2
      by_cases hk : σ.col + j < σ.col - σ.col % 8 + 8
      · go_wp2_with fail
        refine (sent_at S0 w0 x b (σ.sents (List.replicate j 32)) 32 _ _ _ rfl hR HK.out (by omega) (by omega)).mono ?_
        rintro e W ⟨rfl, hW⟩
        go_wp2
        go_roundg (gk - 1)
        case measure => omega
        case rel => exact ⟨j + 1, by omega, by rw [sents_app, ← List.replicate_succ'] at hW; exact hW⟩
      · go_wp2
        refine bodyPost_ret (results_none rfl _ _ _) rfl ?_
        have : (8 - σ.col % 8).toNat = j := by omega
        exact ⟨rfl, by rw [this]; exact hR⟩

theorem puts_any (h : AtR S0 w0 x b σ w) (ok : Ok σ C) (hC : C ≤ 2305843009213693000) (hl : σ.out.length ≤ 90000) (n : Int) (hn : n = (c.toNat : Int)) :
    Calls Try.prog 38 #[.pointer (some ⟨b, 0, none⟩), .int .u8 n] w fun e w' => e = .returned (.tuple #[]) ∧ AtR S0 w0 x b (σ.puts c) w' := by
  subst hn
  unfold St.puts become
  have lt := UInt8.toNat_lt c
  by_cases hp : bit σ.o 1 = true
  · rw [if_pos hp]
    by_cases hu : (bit σ.o 32 && decide (97 ≤ c.toNat ∧ c.toNat ≤ 122)) = true
    · rw [if_pos hu]
      simp only [Bool.and_eq_true, decide_eq_true_eq] at hu
      exact puts_upper S0 w0 x b σ c w C h ok hC hl hp hu.1 (by omega) (by omega)
    · rw [if_neg hu]
      by_cases h10 : c.toNat = 10
      · have e : c = 10 := UInt8.toNat_inj.1 (by simpa using h10)
        subst e
        by_cases h2 : bit σ.o 2 = true
        · simp only [h2]; exact puts_nl S0 w0 x b σ w C h ok hC hl hp h2
        · simp only [h2]; exact puts_nl0 S0 w0 x b σ w C h ok hC hl hp (by simpa using h2)
      · by_cases h13 : c.toNat = 13
        · have e : c = 13 := UInt8.toNat_inj.1 (by simpa using h13)
          subst e
          by_cases h8 : bit σ.o 8 = true
          · by_cases hz : σ.col = 0
            · simp only [h8, hz]
              have := puts_cr0 S0 w0 x b σ w C h ok hC hl hp h8 (by simpa using hz)
              rw [← sents_nil σ] at this
              exact this
            · by_cases h4 : bit σ.o 4 = true
              · simp only [h8, hz, h4]; exact puts_crnlb S0 w0 x b σ w C h ok hC hl hp (by simpa using hz) h4
              · simp only [h8, hz, h4]; exact puts_crb S0 w0 x b σ w C h ok hC hl hp (by simpa using hz) (by simpa using h4)
          · by_cases h4 : bit σ.o 4 = true
            · simp only [h8, h4]; exact puts_crnla S0 w0 x b σ w C h ok hC hl hp (by simpa using h8) h4
            · simp only [h8, h4]; exact puts_cra S0 w0 x b σ w C h ok hC hl hp (by simpa using h8) (by simpa using h4)
        · by_cases h9 : c.toNat = 9
          · have e : c = 9 := UInt8.toNat_inj.1 (by simpa using h9)
            subst e
            by_cases h64 : bit σ.o 64 = true
            · simp only [h64]; exact puts_blanks S0 w0 x b σ w C h ok hC hl hp h64
            · simp only [h64]; exact puts_tab S0 w0 x b σ w C h ok hC hl hp (by simpa using h64)
          · simp only [h10, h13, h9]
            have q10 : ((c.toNat : Int) == 10) = false := beq_eq_false_iff_ne.2 (by omega)
            have q13 : ((c.toNat : Int) == 13) = false := beq_eq_false_iff_ne.2 (by omega)
            have q9 : ((c.toNat : Int) == 9) = false := beq_eq_false_iff_ne.2 (by omega)
            simp only [Bool.and_eq_true, decide_eq_true_eq, not_and] at hu
            by_cases h32 : bit σ.o 32 = true
            · have := hu h32
              by_cases h97 : c.toNat < 97
              · exact puts_elseb S0 w0 x b σ c w C h ok hC hl hp (by omega) q10 q13 q9
              · exact puts_elsec S0 w0 x b σ c w C h ok hC hl hp (by omega) q10 q13 q9
            · exact puts_elsea S0 w0 x b σ c w C h ok hC hl hp (by simpa using h32) q10 q13 q9
  · rw [if_neg hp]
    exact puts_plain S0 w0 x b σ c w C h ok hC hl (by simpa using hp)
end
end Go.Proofs.Ytnalckkllogdaaa
