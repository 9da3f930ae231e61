/- Walks: the program: the last word of the pending line. -/
import Derived.Test.YtfnglkhhmplejaaGreatProg18
import Derived.Test.YtfnglkhhmplejaaGreatBase2
namespace Go.Clk
open Go
theorem gap_beq (e : Ent) : gap e = (((e.b.toNat : Int) == 32) || ((e.b.toNat : Int) == 9)) := rfl
theorem wordW_turn (e : Ent) (l : List Ent) (h : gap e = false) : wordW false (e :: l) = wordW true (e :: l) := by rw [wordW_in _ _ _ h, wordW_in _ _ _ h]
theorem wordW_le (d : Bool) (l : List Ent) : wordW d l ≤ l.length := by
  induction l generalizing d with
  | nil => rw [wordW_nil]; exact Nat.zero_le _
  | cons e l ih =>
    cases hg : gap e with
    | true =>
      cases d with
      | true => rw [wordW_stop _ _ hg]; exact Nat.zero_le _
      | false => rw [wordW_gap _ _ hg]; have := ih false; simp; omega
    | false => rw [wordW_in _ _ _ hg]; have := ih true; simp; omega
theorem grownBy_alloc {w w1 : World} (h : w.grownBy w1 none) (ob : Obj) : w.grownBy (w1.alloc ob) none :=
  grownBy_then h (⟨rfl, rfl, rfl, by simp, fun k hk _ => Go.RowKit.Below.heap_alloc w1 ob k hk⟩ : w1.grownBy (w1.alloc ob) none) (by simp)
end Go.Clk
namespace Go.Proofs.YtfnglkhhmplejaaGreat
open Go Go.RowKit Go.Clk

section
variable (S0 : List Nat) (w0 : World) (x : List Nat) (b : Nat) (σ : St) (w : World) (K : Int)

set_option maxHeartbeats 1000000 in
set_option maxRecDepth 100000 in
theorem IsGap_any (e : Ent) :
    Calls Tryz.prog 156 #[.agg #[.int .u8 e.b.toNat, .bool e.file, .bool e.fin, .int .i64 e.cells]] w fun r w' => r = .returned (.bool (gap e)) ∧ w' = w.alloc (.cells #[.int .u8 e.b.toNat, .bool e.file, .bool e.fin, .int .i64 e.cells] 112) := by
  have HG : Hid (gap e = (((e.b.toNat : Int) == 32) || ((e.b.toNat : Int) == 9))) := rfl
  cases h32 : ((e.b.toNat : Int) == 32) with
  | true =>
    go_enter Tryz.func156, Tryz.ntmps156
    go_wp2
    go_ret
    exact ⟨ret_bool (by rw [HG.out, h32]; rfl), rfl⟩
  | false =>
    go_enter Tryz.func156, Tryz.ntmps156
    go_wp2
    go_ret
    exact ⟨ret_bool (by rw [HG.out, h32]; rfl), rfl⟩

set_option maxHeartbeats 1000000 in
set_option maxRecDepth 100000 in
theorem LastWord_any (v : Value) (l : List Ent) (o : Option Nat) (hs : Sl w 112 4 v l.length (pents l) o) (hl : l.length ≤ 256) :
    Calls Tryz.prog 141 #[v] w fun r w' => r = .returned (.int .i64 (wordR (l.reverse.take (pend l)) : Nat)) ∧ w.grownBy w' none := by
  have hpl := pend_le l
  obtain ⟨rr, hrr⟩ : ∃ rr, l.reverse.take (pend l) = rr := ⟨_, rfl⟩
  have HR : Hid (∀ j q : Nat, j < pend l → ∀ hq : q + 1 + j = pend l, ∃ hh : q < (l.drop (l.length - pend l)).length, rr.drop j = (l.drop (l.length - pend l))[q] :: rr.drop (j + 1)) := fun j q hj hq => by
    refine ⟨by simp; omega, ?_⟩
    rw [← hrr, back_drop l (pend l) j (l.length - pend l + q) hpl hj (by omega)]
    congr 1
    rw [List.getElem_drop]
  have HE : Hid (rr.length = pend l) := by show rr.length = pend l; rw [← hrr]; simp; omega
  rw [hrr]
  clear hrr
  have hC := Pending_any w v l o hs hl
  have hLl : (l.drop (l.length - pend l)).length = pend l := by simp; omega
  generalize l.drop (l.length - pend l) = L at *
  generalize pend l = p at *
  subst hLl
  go_enter Tryz.func141, Tryz.ntmps141
  go_wp2_with (go_at_call 138; refine hC.mono ?_; rintro e w' ⟨hw, a, cap, rfl, hL⟩; have hw := hw.symm; subst hw; clear hC)
  have hg0 := grownBy_refl w none
  clear hs
  go_wp2_with fail
  go_loopg [4] L.length (fun k n wr => ∃ (f j : Nat), f + j = L.length ∧ j + k = L.length ∧ n = .int .i64 f ∧ Hid (Sl wr 112 4 (.slice a L.length cap) L.length (pents L) o) ∧ Hid (w.grownBy wr none) ∧ Hid (wordR rr = j + wordW false (rr.drop j)))
  case atStart => exact ⟨L.length, 0, by omega, by omega, rfl, hL, hg0, by show wordR rr = 0 + wordW false (rr.drop 0); simp [wordW]⟩
  case round =>
    clear hL hg0
    obtain ⟨f, j, hf, hj, rfl, hS, hg, hw⟩ := hrel
    by_cases hz : 0 < f
    · obtain ⟨q, rfl⟩ : ∃ q, f = q + 1 := ⟨f - 1, by omega⟩
      have hql : q < L.length := by omega
      obtain ⟨_, hD⟩ := HR.out j q (by omega) (by omega)
      have HD : Hid (rr.drop j = L[q] :: rr.drop (j + 1)) := hD
      clear hD
      have hS1 := hS.out
      obtain ⟨ug, uoff, uc, he, rfl⟩ := hS1.addr (by omega)
      cases he
      have kc0 := (hS1.cells rfl (q * 4 + 0) (u := .int .u8 L[q].b.toNat) (by rw [pents_get L q hql 0 (by omega)]; rfl)).1
      have kc1 := (hS1.cells rfl (q * 4 + 1) (u := .bool L[q].file) (by rw [pents_get L q hql 1 (by omega)]; rfl)).1
      have kc2 := (hS1.cells rfl (q * 4 + 2) (u := .bool L[q].fin) (by rw [pents_get L q hql 2 (by omega)]; rfl)).1
      have kc3 := (hS1.cells rfl (q * 4 + 3) (u := .int .i64 L[q].cells) (by rw [pents_get L q hql 3 (by omega)]; rfl)).1
      simp only [← Nat.add_assoc, Nat.add_zero] at kc0 kc1 kc2 kc3
      clear hS1
      generalize hLq : L[q] = e at kc0 kc1 kc2 kc3 HD
      clear hLq
      have hC := IsGap_any wr e
      have hS2 : Hid (Sl (wr.alloc (.cells #[.int .u8 e.b.toNat, .bool e.file, .bool e.fin, .int .i64 e.cells] 112)) 112 4 (.slice (some ⟨ug, uoff, none⟩) L.length cap) L.length (pents L) (some ug)) := hS.out.alloc _
      have hg2 : Hid (w.grownBy (wr.alloc (.cells #[.int .u8 e.b.toNat, .bool e.file, .bool e.fin, .int .i64 e.cells] 112)) none) := grownBy_alloc hg.out _
      clear hS hg
      cases hgap : gap e with
      | true =>
        rw [hgap] at hC
        have HW : Hid (wordR rr = j + 1 + wordW false (rr.drop (j + 1))) := by show _ = _; rw [hw.out, HD.out, wordW_gap _ _ hgap]; omega
        clear hw HD hgap
        go_wp2_with (go_at_call 156; refine hC.mono ?_; rintro r w' ⟨rfl, rfl⟩; clear hC)
        go_roundg (gk - 1)
        case measure => omega
        case rel => exact ⟨q, j + 1, by omega, by omega, by go_num, hS2, hg2, HW⟩
      | false =>
        rw [hgap] at hC
        have hw1 : Hid (wordR rr = j + wordW true (rr.drop j)) := by show _ = _; rw [hw.out, HD.out, wordW_turn _ _ hgap]
        clear hw HD hgap
        go_wp2_with (go_at_call 156; refine hC.mono ?_; rintro r w' ⟨rfl, rfl⟩; clear hC)
        go_wp2_with fail
        go_loopg [4] (q + 1) (fun k n wr => ∃ (f j : Nat), f + j = L.length ∧ j + k = L.length ∧ n = .int .i64 f ∧ Hid (Sl wr 112 4 (.slice (some ⟨ug, uoff, none⟩) L.length cap) L.length (pents L) (some ug)) ∧ Hid (w.grownBy wr none) ∧ Hid (wordR rr = j + wordW true (rr.drop j)))
        case atStart => exact ⟨q + 1, j, hf, by omega, by go_num, hS2, hg2, hw1⟩
        case round =>
          clear hS2 hg2 hw1 hj hf hz kc0 kc1 kc2 kc3
          clear hql
          obtain ⟨f, j, hf, hj, rfl, hS, hg, hw⟩ := hrel
          by_cases hz : 0 < f
          · obtain ⟨q, rfl⟩ : ∃ q, f = q + 1 := ⟨f - 1, by omega⟩
            have hql : q < L.length := by omega
            obtain ⟨_, hD⟩ := HR.out j q (by omega) (by omega)
            have HD : Hid (rr.drop j = L[q] :: rr.drop (j + 1)) := hD
            clear hD
            have hS1 := hS.out
            have kc0 := (hS1.cells rfl (q * 4 + 0) (u := .int .u8 L[q].b.toNat) (by rw [pents_get L q hql 0 (by omega)]; rfl)).1
            have kc1 := (hS1.cells rfl (q * 4 + 1) (u := .bool L[q].file) (by rw [pents_get L q hql 1 (by omega)]; rfl)).1
            have kc2 := (hS1.cells rfl (q * 4 + 2) (u := .bool L[q].fin) (by rw [pents_get L q hql 2 (by omega)]; rfl)).1
            have kc3 := (hS1.cells rfl (q * 4 + 3) (u := .int .i64 L[q].cells) (by rw [pents_get L q hql 3 (by omega)]; rfl)).1
            simp only [← Nat.add_assoc, Nat.add_zero] at kc0 kc1 kc2 kc3
            clear hS1 HR
            generalize L[q] = e at *
            have hC := IsGap_any wr e
            have hS2 : Hid (Sl (wr.alloc (.cells #[.int .u8 e.b.toNat, .bool e.file, .bool e.fin, .int .i64 e.cells] 112)) 112 4 (.slice (some ⟨ug, uoff, none⟩) L.length cap) L.length (pents L) (some ug)) := hS.out.alloc _
            have hg2 : Hid (w.grownBy (wr.alloc (.cells #[.int .u8 e.b.toNat, .bool e.file, .bool e.fin, .int .i64 e.cells] 112)) none) := grownBy_alloc hg.out _
            clear hS hg
            cases hgap : gap e with
            | false =>
              rw [hgap] at hC
              have HW : Hid (wordR rr = j + 1 + wordW true (rr.drop (j + 1))) := by show _ = _; rw [hw.out, HD.out, wordW_in _ _ _ hgap]; omega
              clear hw HD hgap
              go_wp2_with (go_at_call 156; refine hC.mono ?_; rintro r w' ⟨rfl, rfl⟩; clear hC)
              go_roundg (gk - 1)
              case measure => omega
              case rel => exact ⟨q, j + 1, by omega, by omega, by go_num, hS2, hg2, HW⟩
            | true =>
              rw [hgap] at hC
              have HW : Hid (wordR rr = j) := by show _ = _; rw [hw.out, HD.out, wordW_stop _ _ hgap]; omega
              clear hw HD hgap
              go_wp2_with (go_at_call 156; refine hC.mono ?_; rintro r w' ⟨rfl, rfl⟩; clear hC)
              go_ret
              exact ⟨ret_int (by rw [HW.out]; omega), hg2.out⟩
          · obtain rfl : f = 0 := by omega
            obtain rfl : j = L.length := by omega
            have HW : Hid (wordR rr = L.length) := by show _ = _; rw [hw.out, List.drop_eq_nil_of_le (by rw [HE.out]; exact Nat.le_refl _), wordW_nil]; rfl
            clear HR hw
            go_wp2
            go_ret
            exact ⟨ret_int (by rw [HW.out]), hg.out⟩
    · obtain rfl : f = 0 := by omega
      obtain rfl : j = L.length := by omega
      have HW : Hid (wordR rr = L.length) := by show _ = _; rw [hw.out, List.drop_eq_nil_of_le (by rw [HE.out]; exact Nat.le_refl _), wordW_nil]; rfl
      clear HR hw
      go_wp2_with fail
      go_loopg [4] 0 (fun k n wr' => n = .int .i64 0 ∧ wr' = wr)
      case atStart => exact ⟨by go_num, rfl⟩
      case round =>
        obtain ⟨rfl, rfl⟩ := hrel
        go_wp2
        go_ret
        exact ⟨ret_int (by rw [HW.out]), hg.out⟩
end
end Go.Proofs.YtfnglkhhmplejaaGreat
