/- Walks: the program: what a byte becomes. -/
import Derived.Test.YtfnglkhhmplejaaGreatProg3
namespace Go.Proofs.YtfnglkhhmplejaaGreat
open Go Go.RowKit Go.Clk

/-- A new list of these bytes comes out; nothing else turns. -/
def Gives (w w' : World) (e : Ending) (L : List UInt8) : Prop :=
  ∃ a cap o, e = .returned (.slice a L.length cap) ∧ Sl w' 5 1 (.slice a L.length cap) L.length (bys L) o ∧ w.grownBy w' none ∧ ∀ g, o = some g → w.heap.size ≤ g

theorem gives_list (w : World) (L : List UInt8) (hL : L.length ≤ 100) : Gives w (w.alloc (.cells (bys L).toArray 5)) (.returned (.slice (some ⟨w.heap.size, 0, none⟩) L.length L.length)) L :=
  ⟨_, _, _, rfl, Sl.made w (bys L) L.length _ 1 (bys_len L) (by unfold maxLen; omega), World.grownBy_alloc w _ none, fun g e => by cases e; exact Nat.le_refl _⟩
theorem gives_nil (w : World) : Gives w w (.returned (.slice none 0 0)) [] := ⟨none, 0, none, rfl, Sl.nil w _ 1, grownBy_refl w none, fun g e => by cases e⟩

theorem rep_one (c : UInt8) (k : Nat) : repL [c] k = List.replicate k c := by
  unfold repL
  induction k with
  | zero => rfl
  | succ k ih => rw [List.replicate_succ, List.flatten_cons, ih, List.replicate_succ]; rfl
theorem great_at (c : UInt8) (n : Int) (hn : n = (c.toNat : Int)) (w : World) :
    Calls Tryz.prog 157 #[.int .u8 n] w fun e w' => e = .returned (.int .u8 (great c).toNat) ∧ w' = w := by
  subst hn; exact great_any c w

section
variable (f col : Int) (c : UInt8) (w : World)

set_option maxHeartbeats 1000000 in
set_option maxRecDepth 100000 in
theorem become_plain (f0 : 0 ≤ f) (f1 : f < 8192) (hp : bit f 1 = false) :
    Calls Tryz.prog 144 #[.int .i64 f, .int .i64 col, .int .u8 (c.toNat : Int)] w fun e w' => Gives w w' e [c] := by
  have a1 := has1 f f0 f1; have a2 := has2 f f0 f1; have a4 := has4 f f0 f1; have a8 := has8 f f0 f1; have a32 := has32 f f0 f1; have a64 := has64 f f0 f1
  go_enter Tryz.func144, Tryz.ntmps144
  go_wp2_with (first | (go_at_call 52; refine (Has_any _ _ _).mono ?_; rintro e w' ⟨rfl, hw⟩; have hw := hw.symm; subst hw) | (go_at_call 157; refine (great_at c _ (by rfl) _).mono ?_; rintro e w' ⟨rfl, hw⟩; have hw := hw.symm; subst hw))
  all_goals go_ret
  all_goals exact gives_list w [c] (by simp)

set_option maxHeartbeats 1000000 in
set_option maxRecDepth 100000 in
theorem become_upper (f0 : 0 ≤ f) (f1 : f < 8192) (hp : bit f 1 = true) (hu : bit f 32 = true) (h1 : 97 ≤ (c.toNat : Int)) (h2 : (c.toNat : Int) ≤ 122) :
    Calls Tryz.prog 144 #[.int .i64 f, .int .i64 col, .int .u8 (c.toNat : Int)] w fun e w' => Gives w w' e [c - 32] := by
  have a1 := has1 f f0 f1; have a2 := has2 f f0 f1; have a4 := has4 f f0 f1; have a8 := has8 f f0 f1; have a32 := has32 f f0 f1; have a64 := has64 f f0 f1
  have hgr : ((great c).toNat : Int) = ((c - 32).toNat : Int) := by unfold great; rw [if_pos (by simp [h1, h2])]
  have hv : ((c - 32).toNat : Int) = (c.toNat : Int) - 32 := sub32 c h1
  have HV : Hid (((c - 32).toNat : Int) = (c.toNat : Int) - 32) := hv
  have g10 : (((c - 32).toNat : Int) == 10) = false := beq_eq_false_iff_ne.2 (by omega)
  have g13 : (((c - 32).toNat : Int) == 13) = false := beq_eq_false_iff_ne.2 (by omega)
  have g9 : (((c - 32).toNat : Int) == 9) = false := beq_eq_false_iff_ne.2 (by omega)
  clear hv
  go_enter Tryz.func144, Tryz.ntmps144
  go_wp2_with (first | (go_at_call 52; refine (Has_any _ _ _).mono ?_; rintro e w' ⟨rfl, hw⟩; have hw := hw.symm; subst hw) | (go_at_call 157; refine (great_at c _ (by rfl) _).mono ?_; rintro e w' ⟨rfl, hw⟩; have hw := hw.symm; subst hw))
  all_goals go_ret
  all_goals exact gives_list w [c - 32] (by simp)

set_option maxHeartbeats 1000000 in
set_option maxRecDepth 100000 in
theorem become_nl (f0 : 0 ≤ f) (f1 : f < 8192) (hp : bit f 1 = true) (hn : bit f 2 = true) :
    Calls Tryz.prog 144 #[.int .i64 f, .int .i64 col, .int .u8 10] w fun e w' => Gives w w' e [13, 10] := by
  have a1 := has1 f f0 f1; have a2 := has2 f f0 f1; have a4 := has4 f f0 f1; have a8 := has8 f f0 f1; have a32 := has32 f f0 f1; have a64 := has64 f f0 f1
  have hgr : ((great 10).toNat : Int) = 10 := rfl
  go_enter Tryz.func144, Tryz.ntmps144
  go_wp2_with (first | (go_at_call 52; refine (Has_any _ _ _).mono ?_; rintro e w' ⟨rfl, hw⟩; have hw := hw.symm; subst hw) | (go_at_call 157; refine (great_at 10 _ (by rfl) _).mono ?_; rintro e w' ⟨rfl, hw⟩; have hw := hw.symm; subst hw))
  all_goals go_ret
  all_goals exact gives_list w [13, 10] (by simp)

set_option maxHeartbeats 1000000 in
set_option maxRecDepth 100000 in
theorem become_cr0 (f0 : 0 ≤ f) (f1 : f < 8192) (hp : bit f 1 = true) (hn : bit f 8 = true) (hz : (col == 0) = true) :
    Calls Tryz.prog 144 #[.int .i64 f, .int .i64 col, .int .u8 13] w fun e w' => Gives w w' e [] := by
  have a1 := has1 f f0 f1; have a2 := has2 f f0 f1; have a4 := has4 f f0 f1; have a8 := has8 f f0 f1; have a32 := has32 f f0 f1; have a64 := has64 f f0 f1
  have hgr : ((great 13).toNat : Int) = 13 := rfl
  go_enter Tryz.func144, Tryz.ntmps144
  go_wp2_with (first | (go_at_call 52; refine (Has_any _ _ _).mono ?_; rintro e w' ⟨rfl, hw⟩; have hw := hw.symm; subst hw) | (go_at_call 157; refine (great_at 13 _ (by rfl) _).mono ?_; rintro e w' ⟨rfl, hw⟩; have hw := hw.symm; subst hw))
  all_goals go_ret
  all_goals exact gives_nil w

set_option maxHeartbeats 1000000 in
set_option maxRecDepth 100000 in
theorem become_crnla (f0 : 0 ≤ f) (f1 : f < 8192) (hp : bit f 1 = true) (hn : bit f 8 = false) (h4 : bit f 4 = true) :
    Calls Tryz.prog 144 #[.int .i64 f, .int .i64 col, .int .u8 13] w fun e w' => Gives w w' e [10] := by
  have a1 := has1 f f0 f1; have a2 := has2 f f0 f1; have a4 := has4 f f0 f1; have a8 := has8 f f0 f1; have a32 := has32 f f0 f1; have a64 := has64 f f0 f1
  have hgr : ((great 13).toNat : Int) = 13 := rfl
  go_enter Tryz.func144, Tryz.ntmps144
  go_wp2_with (first | (go_at_call 52; refine (Has_any _ _ _).mono ?_; rintro e w' ⟨rfl, hw⟩; have hw := hw.symm; subst hw) | (go_at_call 157; refine (great_at 13 _ (by rfl) _).mono ?_; rintro e w' ⟨rfl, hw⟩; have hw := hw.symm; subst hw))
  all_goals go_ret
  all_goals exact gives_list w [10] (by simp)

set_option maxHeartbeats 1000000 in
set_option maxRecDepth 100000 in
theorem become_cra (f0 : 0 ≤ f) (f1 : f < 8192) (hp : bit f 1 = true) (hn : bit f 8 = false) (h4 : bit f 4 = false) :
    Calls Tryz.prog 144 #[.int .i64 f, .int .i64 col, .int .u8 13] w fun e w' => Gives w w' e [13] := by
  have a1 := has1 f f0 f1; have a2 := has2 f f0 f1; have a4 := has4 f f0 f1; have a8 := has8 f f0 f1; have a32 := has32 f f0 f1; have a64 := has64 f f0 f1
  have hgr : ((great 13).toNat : Int) = 13 := rfl
  go_enter Tryz.func144, Tryz.ntmps144
  go_wp2_with (first | (go_at_call 52; refine (Has_any _ _ _).mono ?_; rintro e w' ⟨rfl, hw⟩; have hw := hw.symm; subst hw) | (go_at_call 157; refine (great_at 13 _ (by rfl) _).mono ?_; rintro e w' ⟨rfl, hw⟩; have hw := hw.symm; subst hw))
  all_goals go_ret
  all_goals exact gives_list w [13] (by simp)

set_option maxHeartbeats 1000000 in
set_option maxRecDepth 100000 in
theorem become_crnlb (f0 : 0 ≤ f) (f1 : f < 8192) (hp : bit f 1 = true) (hn : (col == 0) = false) (h4 : bit f 4 = true) :
    Calls Tryz.prog 144 #[.int .i64 f, .int .i64 col, .int .u8 13] w fun e w' => Gives w w' e [10] := by
  have a1 := has1 f f0 f1; have a2 := has2 f f0 f1; have a4 := has4 f f0 f1; have a8 := has8 f f0 f1; have a32 := has32 f f0 f1; have a64 := has64 f f0 f1
  have hgr : ((great 13).toNat : Int) = 13 := rfl
  go_enter Tryz.func144, Tryz.ntmps144
  go_wp2_with (first | (go_at_call 52; refine (Has_any _ _ _).mono ?_; rintro e w' ⟨rfl, hw⟩; have hw := hw.symm; subst hw) | (go_at_call 157; refine (great_at 13 _ (by rfl) _).mono ?_; rintro e w' ⟨rfl, hw⟩; have hw := hw.symm; subst hw))
  all_goals go_ret
  all_goals exact gives_list w [10] (by simp)

set_option maxHeartbeats 1000000 in
set_option maxRecDepth 100000 in
theorem become_crb (f0 : 0 ≤ f) (f1 : f < 8192) (hp : bit f 1 = true) (hn : (col == 0) = false) (h4 : bit f 4 = false) :
    Calls Tryz.prog 144 #[.int .i64 f, .int .i64 col, .int .u8 13] w fun e w' => Gives w w' e [13] := by
  have a1 := has1 f f0 f1; have a2 := has2 f f0 f1; have a4 := has4 f f0 f1; have a8 := has8 f f0 f1; have a32 := has32 f f0 f1; have a64 := has64 f f0 f1
  have hgr : ((great 13).toNat : Int) = 13 := rfl
  go_enter Tryz.func144, Tryz.ntmps144
  go_wp2_with (first | (go_at_call 52; refine (Has_any _ _ _).mono ?_; rintro e w' ⟨rfl, hw⟩; have hw := hw.symm; subst hw) | (go_at_call 157; refine (great_at 13 _ (by rfl) _).mono ?_; rintro e w' ⟨rfl, hw⟩; have hw := hw.symm; subst hw))
  all_goals go_ret
  all_goals exact gives_list w [13] (by simp)

set_option maxHeartbeats 1000000 in
set_option maxRecDepth 100000 in
theorem become_tab (f0 : 0 ≤ f) (f1 : f < 8192) (hp : bit f 1 = true) (h64 : bit f 64 = false) :
    Calls Tryz.prog 144 #[.int .i64 f, .int .i64 col, .int .u8 9] w fun e w' => Gives w w' e [9] := by
  have a1 := has1 f f0 f1; have a2 := has2 f f0 f1; have a4 := has4 f f0 f1; have a8 := has8 f f0 f1; have a32 := has32 f f0 f1; have a64 := has64 f f0 f1
  have hgr : ((great 9).toNat : Int) = 9 := rfl
  go_enter Tryz.func144, Tryz.ntmps144
  go_wp2_with (first | (go_at_call 52; refine (Has_any _ _ _).mono ?_; rintro e w' ⟨rfl, hw⟩; have hw := hw.symm; subst hw) | (go_at_call 157; refine (great_at 9 _ (by rfl) _).mono ?_; rintro e w' ⟨rfl, hw⟩; have hw := hw.symm; subst hw))
  all_goals go_ret
  all_goals exact gives_list w [9] (by simp)

set_option maxHeartbeats 1000000 in
set_option maxRecDepth 100000 in
theorem become_nl0 (f0 : 0 ≤ f) (f1 : f < 8192) (hp : bit f 1 = true) (h64 : bit f 2 = false) :
    Calls Tryz.prog 144 #[.int .i64 f, .int .i64 col, .int .u8 10] w fun e w' => Gives w w' e [10] := by
  have a1 := has1 f f0 f1; have a2 := has2 f f0 f1; have a4 := has4 f f0 f1; have a8 := has8 f f0 f1; have a32 := has32 f f0 f1; have a64 := has64 f f0 f1
  have hgr : ((great 10).toNat : Int) = 10 := rfl
  go_enter Tryz.func144, Tryz.ntmps144
  go_wp2_with (first | (go_at_call 52; refine (Has_any _ _ _).mono ?_; rintro e w' ⟨rfl, hw⟩; have hw := hw.symm; subst hw) | (go_at_call 157; refine (great_at 10 _ (by rfl) _).mono ?_; rintro e w' ⟨rfl, hw⟩; have hw := hw.symm; subst hw))
  all_goals go_ret
  all_goals exact gives_list w [10] (by simp)

set_option maxHeartbeats 1000000 in
set_option maxRecDepth 100000 in
theorem become_blanks (f0 : 0 ≤ f) (f1 : f < 8192) (hp : bit f 1 = true) (h64 : bit f 64 = true) (c0 : 0 ≤ col) (c1 : col < 4611686018427387000) :
    Calls Tryz.prog 144 #[.int .i64 f, .int .i64 col, .int .u8 9] w fun e w' => Gives w w' e (List.replicate (8 - col % 8).toNat 32) := by
  have a1 := has1 f f0 f1; have a2 := has2 f f0 f1; have a4 := has4 f f0 f1; have a8 := has8 f f0 f1; have a32 := has32 f f0 f1; have a64 := has64 f f0 f1
  have hgr : ((great 9).toNat : Int) = 9 := rfl
  go_enter Tryz.func144, Tryz.ntmps144
  go_wp2_with (first | (go_at_call 52; refine (Has_any _ _ _).mono ?_; rintro e w' ⟨rfl, hw⟩; have hw := hw.symm; subst hw) | (go_at_call 157; refine (great_at 9 _ (by rfl) _).mono ?_; rintro e w' ⟨rfl, hw⟩; have hw := hw.symm; subst hw))
  all_goals
    have hcol := Int.emod_lt_of_pos col (show (0 : Int) < 8 by omega)
    have hcol0 := Int.emod_nonneg col (show (8 : Int) ≠ 0 by omega)
    refine (tab_any col _ c0 (by omega)).mono ?_
    rintro e w' ⟨rfl, hw⟩
    have hw := hw.symm
    subst hw
    obtain ⟨k, hk⟩ : ∃ k : Nat, 8 - col % 8 = (k : Int) := ⟨(8 - col % 8).toNat, by omega⟩
    have HK : Hid ((8 - col % 8).toNat = k) := by show (8 - col % 8).toNat = k; omega
    have hk1 : 1 ≤ k := by omega
    have hk8 : k ≤ 8 := by omega
    rw [hk]
    clear hk hcol hcol0
    go_wp2_with fail
    refine (Repeat_any [32] 1 rfl (.inl rfl) w.heap.size 0 1 k hk1 (by omega) (Nat.le_refl _) _ (by intro j v hv; match j, hv with | 0, hv => simp [bys] at hv; subst hv; simp) (by simp)).mono ?_
    rw [Nat.one_mul, rep_one]
    rintro e W ⟨rfl, hS, hG⟩
    go_wp2
    go_ret
    rw [HK.out]
    have hlen : (List.replicate k (32 : UInt8)).length = k := List.length_replicate
    refine ⟨some ⟨w.heap.size + 1, 0, none⟩, k, some (w.heap.size + 1), ?_, ?_, ?_, ?_⟩
    · rw [hlen]; simp
    · rw [hlen]; simpa using hS
    · exact ⟨hG.os, hG.tape, hG.output, by have := hG.size; simp at this; omega, fun j hj _ => (hG.block j (by simp; omega) (by simp)).trans (Below.heap_alloc w _ j hj)⟩
    · intro g e; cases e; omega

set_option maxHeartbeats 1000000 in
set_option maxRecDepth 100000 in
theorem become_elsea (f0 : 0 ≤ f) (f1 : f < 8192) (hp : bit f 1 = true) (hu : bit f 32 = false) (h10 : ((c.toNat : Int) == 10) = false) (h13 : ((c.toNat : Int) == 13) = false) (h9 : ((c.toNat : Int) == 9) = false) :
    Calls Tryz.prog 144 #[.int .i64 f, .int .i64 col, .int .u8 (c.toNat : Int)] w fun e w' => Gives w w' e [c] := by
  have a1 := has1 f f0 f1; have a2 := has2 f f0 f1; have a4 := has4 f f0 f1; have a8 := has8 f f0 f1; have a32 := has32 f f0 f1; have a64 := has64 f f0 f1
  go_enter Tryz.func144, Tryz.ntmps144
  go_wp2_with (first | (go_at_call 52; refine (Has_any _ _ _).mono ?_; rintro e w' ⟨rfl, hw⟩; have hw := hw.symm; subst hw) | (go_at_call 157; refine (great_at c _ (by rfl) _).mono ?_; rintro e w' ⟨rfl, hw⟩; have hw := hw.symm; subst hw))
  all_goals go_ret
  all_goals exact gives_list w [c] (by simp)

set_option maxHeartbeats 1000000 in
set_option maxRecDepth 100000 in
theorem become_elseb (f0 : 0 ≤ f) (f1 : f < 8192) (hp : bit f 1 = true) (hu : great c = c) (h10 : ((c.toNat : Int) == 10) = false) (h13 : ((c.toNat : Int) == 13) = false) (h9 : ((c.toNat : Int) == 9) = false) :
    Calls Tryz.prog 144 #[.int .i64 f, .int .i64 col, .int .u8 (c.toNat : Int)] w fun e w' => Gives w w' e [c] := by
  have a1 := has1 f f0 f1; have a2 := has2 f f0 f1; have a4 := has4 f f0 f1; have a8 := has8 f f0 f1; have a32 := has32 f f0 f1; have a64 := has64 f f0 f1
  go_enter Tryz.func144, Tryz.ntmps144
  go_wp2_with (first | (go_at_call 52; refine (Has_any _ _ _).mono ?_; rintro e w' ⟨rfl, hw⟩; have hw := hw.symm; subst hw) | (go_at_call 157; refine (great_at c _ (by rfl) _).mono ?_; rintro e w' ⟨rfl, hw⟩; have hw := hw.symm; subst hw))
  all_goals go_ret
  all_goals exact gives_list w [c] (by simp)

theorem become_any (f0 : 0 ≤ f) (f1 : f < 8192) (c0 : 0 ≤ col) (c1 : col < 4611686018427387000) (n : Int) (hn : n = (c.toNat : Int)) :
    Calls Tryz.prog 144 #[.int .i64 f, .int .i64 col, .int .u8 n] w fun e w' => Gives w w' e (become f col c) := by
  subst hn
  unfold become
  have lt := UInt8.toNat_lt c
  by_cases hp : bit f 1 = true
  · rw [if_pos hp]
    by_cases hu : (bit f 32 && decide (97 ≤ c.toNat ∧ c.toNat ≤ 122)) = true
    · rw [if_pos hu]
      simp only [Bool.and_eq_true, decide_eq_true_eq] at hu
      exact become_upper f col c w f0 f1 hp hu.1 (by omega) (by omega)
    · rw [if_neg hu]
      by_cases h10 : c.toNat = 10
      · have e : c = 10 := UInt8.toNat_inj.1 (by simpa using h10)
        subst e
        by_cases h2 : bit f 2 = true
        · simp only [h2]; exact become_nl f col w f0 f1 hp h2
        · simp only [h2]; exact become_nl0 f col w f0 f1 hp (by simpa using h2)
      · by_cases h13 : c.toNat = 13
        · have e : c = 13 := UInt8.toNat_inj.1 (by simpa using h13)
          subst e
          by_cases h8 : bit f 8 = true
          · by_cases hz : col = 0
            · simp only [h8, hz]
              exact become_cr0 f 0 w f0 f1 hp h8 (by simp)
            · by_cases h4 : bit f 4 = true
              · simp only [h8, hz, h4]; exact become_crnlb f col w f0 f1 hp (by simpa using hz) h4
              · simp only [h8, hz, h4]; exact become_crb f col w f0 f1 hp (by simpa using hz) (by simpa using h4)
          · by_cases h4 : bit f 4 = true
            · simp only [h8, h4]; exact become_crnla f col w f0 f1 hp (by simpa using h8) h4
            · simp only [h8, h4]; exact become_cra f col w f0 f1 hp (by simpa using h8) (by simpa using h4)
        · by_cases h9 : c.toNat = 9
          · have e : c = 9 := UInt8.toNat_inj.1 (by simpa using h9)
            subst e
            by_cases h64 : bit f 64 = true
            · simp only [h64]; exact become_blanks f col w f0 f1 hp h64 c0 c1
            · simp only [h64]; exact become_tab f col w f0 f1 hp (by simpa using h64)
          · simp only [h10, h13, h9]
            have q10 : ((c.toNat : Int) == 10) = false := beq_eq_false_iff_ne.2 (by omega)
            have q13 : ((c.toNat : Int) == 13) = false := beq_eq_false_iff_ne.2 (by omega)
            have q9 : ((c.toNat : Int) == 9) = false := beq_eq_false_iff_ne.2 (by omega)
            simp only [Bool.and_eq_true, decide_eq_true_eq, not_and] at hu
            by_cases h32 : bit f 32 = true
            · have hu2 := hu h32
              exact become_elseb f col c w f0 f1 hp (by unfold great; rw [if_neg (by simp only [Bool.and_eq_true, decide_eq_true_eq]; omega)]) q10 q13 q9
            · exact become_elsea f col c w f0 f1 hp (by simpa using h32) q10 q13 q9
  · rw [if_neg hp]
    exact become_plain f col c w f0 f1 (by simpa using hp)
end
end Go.Proofs.YtfnglkhhmplejaaGreat
