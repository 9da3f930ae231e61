/- Walks: the program: a good byte comes; a break comes. (Written by mkProg42.py.) -/
import Derived.Test.YtfnglkhhmplejaaGreatProg41
namespace Go.Proofs.YtfnglkhhmplejaaGreat
open Go Go.RowKit Go.Clk
set_option maxRecDepth 100000 in
theorem u8_and127 (c : UInt8) : bits BinOp.and IntKind.u8 (c.toNat : Int) 127 = ((c % 128).toNat : Int) := by
  have h : ∀ k : Fin 256, bits BinOp.and IntKind.u8 ((k.val : Nat) : Int) 127 = ((k.val % 128 : Nat) : Int) := by decide
  have := h ⟨c.toNat, c.toNat_lt⟩
  rw [this]
  rfl
theorem small_eq (σ : St) (c : UInt8) (h : (σ.I 256 && σ.L 512) = true) : σ.small c = smallC c := by
  unfold St.small smallC; rw [h, Bool.true_and]
theorem small_no (σ : St) (c : UInt8) (h : (σ.I 256 && σ.L 512) = false) : σ.small c = c := by
  unfold St.small; rw [h, Bool.false_and]; rfl
section
variable (S0 : List Nat) (w0 : World) (x : List Nat) (b : Nat) (σ : St) (w : World) (K : Int)
theorem layDown_new2 (h : AtP S0 w0 x b σ w) (ok : Inv K σ) (hK : K ≤ 1099511627776) (d : UInt8) (di : Int) (hd : di = (d.toNat : Int)) (sz : Nat) (hsz : sz = w.heap.size) :
    Calls Tryz.prog 53 #[.pointer (some ⟨b, 0, none⟩), .slice (some ⟨sz, 0, none⟩) 1 1] (w.alloc (.cells #[.int .u8 di] 5)) fun e w' => e = .returned (.tuple #[]) ∧ AtP S0 w0 x b (σ.plain d) w' := by
  subst hd hsz; exact layDown_new S0 w0 x b σ w K h ok hK [d] (by simp) _ rfl 1 rfl

set_option maxHeartbeats 4000000 in
set_option maxRecDepth 100000 in
theorem goodCame_any (h : AtP S0 w0 x b σ w) (ok : Inv K σ) (hK : K + 2048 ≤ 1099511627776) (c : UInt8) :
    Calls Tryz.prog 32 #[.pointer (some ⟨b, 0, none⟩), .int .u8 c.toNat] w fun e w' => e = .returned (.tuple #[]) ∧ AtP S0 w0 x b (σ.good c) w' := by
  obtain ⟨vi, vu, vo, vs, hV⟩ := h
  have k0 := hV.ci
  have k2 := hV.cl
  have kq := hV.c_quo
  have fq := hV.frozen 28
  have hR := hV.r
  have hQ := (hV.s_quo false).r
  have okQ := ok.quoted_ false
  have i0 := ok.ok.i0; have i1 := ok.ok.i1; have l0 := ok.ok.l0; have l1 := ok.ok.l1
  have a16 := has16 σ.i i0 i1
  have a8 := has8 σ.i i0 i1
  have a256 := has256 σ.i i0 i1
  have a512 := has512 σ.l l0 l1
  have HX := u8_and127 c
  have HG : Hid (σ.good c = if bit σ.i 16 then σ.good2 (σ.small (c % 128)) else if bit σ.i 8 && ((c.toNat : Int) == 255) then (σ.plain 255).plain 255 else σ.good2 (σ.small c)) := rfl
  have HG2 : Hid (∀ d, σ.good2 d = if σ.quoted then ({ σ with quoted := false } : St).plain d else σ.heed d) := fun _ => rfl
  have HLM : Hid (∀ W, AtP S0 w0 x b σ W → Calls Tryz.prog 53 #[.pointer (some ⟨b, 0, none⟩), .slice (some ⟨W.heap.size, 0, none⟩) 2 2] (W.alloc (.cells #[.int .u8 255, .int .u8 255] 5)) fun e w' => e = .returned (.tuple #[]) ∧ AtP S0 w0 x b ((σ.plain 255).plain 255) w') := fun W hW => layDown_new S0 w0 x b σ W K hW ok (by omega) [255, 255] (by simp) _ rfl 2 rfl
  have HLQ : Hid (∀ (W : World) (d : UInt8) (di : Int) (sz : Nat), AtP S0 w0 x b { σ with quoted := false } W → di = (d.toNat : Int) → sz = W.heap.size → Calls Tryz.prog 53 #[.pointer (some ⟨b, 0, none⟩), .slice (some ⟨sz, 0, none⟩) 1 1] (W.alloc (.cells #[.int .u8 di] 5)) fun e w' => e = .returned (.tuple #[]) ∧ AtP S0 w0 x b (({ σ with quoted := false } : St).plain d) w') := fun W d di sz hW hd hsz => layDown_new2 S0 w0 x b _ W K hW okQ (by omega) d di hd sz hsz
  have HHd : Hid (∀ (d : UInt8) (di : Int), di = (d.toNat : Int) → Calls Tryz.prog 55 #[.pointer (some ⟨b, 0, none⟩), .int .u8 di] w fun e w' => e = .returned (.tuple #[]) ∧ AtP S0 w0 x b (σ.heed d) w') := fun d di hd => heed_any S0 w0 x b σ w K hR ok hK d di hd
  have HSE : Hid (∀ d, (bit σ.i 256 && bit σ.l 512) = true → σ.small d = smallC d) := fun d hh => small_eq σ d hh
  have HSN : Hid (∀ d, (bit σ.i 256 && bit σ.l 512) = false → σ.small d = d) := fun d hh => small_no σ d hh
  clear hV ok okQ
  cases h16 : bit σ.i 16 with
  | true =>
    have e1 : Hid (σ.good c = σ.good2 (σ.small (c % 128))) := by show σ.good c = _; rw [HG.out, if_pos h16]
    rw [h16] at a16
    clear h16 HG HLM
    cases h256 : bit σ.i 256 with
    | false =>
      have e2 : Hid (σ.small (c % 128) = c % 128) := HSN.out _ (by rw [h256]; rfl)
      rw [h256] at a256
      rw [e2.out] at e1
      clear h256 e2 HSE HSN
      cases hq : σ.quoted with
      | true =>
        have e3 : Hid (σ.good c = ({ σ with quoted := false } : St).plain (c % 128)) := by show σ.good c = _; rw [e1.out, HG2.out, if_pos hq]
        rw [hq] at kq
        clear hq HG2 e1 HHd
        go_enter Tryz.func32, Tryz.ntmps32
        go_wp2_with (first
          | (go_at_call 52; refine (Has_any _ _ _).mono ?_; rintro e w' ⟨rfl, hw⟩; have hw := hw.symm; subst hw))
        refine (HLQ.out (w.setCell ⟨b, 28, none⟩ (.bool false)) (c % 128) _ _ hQ rfl (by simp)).mono ?_
        rintro e W2 ⟨rfl, hW2⟩
        go_wp2
        refine bodyPost_ret (results_none rfl _ _ _) rfl ?_
        exact ⟨rfl, by rw [e3.out]; exact hW2⟩
      | false =>
        have e3 : Hid (σ.good c = σ.heed (c % 128)) := by show σ.good c = _; rw [e1.out, HG2.out, if_neg (by rw [hq]; decide)]
        rw [hq] at kq
        clear hq HG2 e1 HLQ
        go_enter Tryz.func32, Tryz.ntmps32
        go_wp2_with (first
          | (go_at_call 52; refine (Has_any _ _ _).mono ?_; rintro e w' ⟨rfl, hw⟩; have hw := hw.symm; subst hw)
          | (go_at_call 55; refine (HHd.out (c % 128) _ rfl).mono ?_; rintro e W2 ⟨rfl, hW2⟩))
        go_end0
        exact ⟨rfl, by rw [e3.out]; exact hW2⟩
    | true =>
      rw [h256] at a256
      cases h512 : bit σ.l 512 with
      | false =>
        have e2 : Hid (σ.small (c % 128) = c % 128) := HSN.out _ (by rw [h256, h512]; rfl)
        rw [h512] at a512
        rw [e2.out] at e1
        clear h256 h512 e2 HSE HSN
        cases hq : σ.quoted with
        | true =>
          have e3 : Hid (σ.good c = ({ σ with quoted := false } : St).plain (c % 128)) := by show σ.good c = _; rw [e1.out, HG2.out, if_pos hq]
          rw [hq] at kq
          clear hq HG2 e1 HHd
          go_enter Tryz.func32, Tryz.ntmps32
          go_wp2_with (first
            | (go_at_call 52; refine (Has_any _ _ _).mono ?_; rintro e w' ⟨rfl, hw⟩; have hw := hw.symm; subst hw))
          refine (HLQ.out (w.setCell ⟨b, 28, none⟩ (.bool false)) (c % 128) _ _ hQ rfl (by simp)).mono ?_
          rintro e W2 ⟨rfl, hW2⟩
          go_wp2
          refine bodyPost_ret (results_none rfl _ _ _) rfl ?_
          exact ⟨rfl, by rw [e3.out]; exact hW2⟩
        | false =>
          have e3 : Hid (σ.good c = σ.heed (c % 128)) := by show σ.good c = _; rw [e1.out, HG2.out, if_neg (by rw [hq]; decide)]
          rw [hq] at kq
          clear hq HG2 e1 HLQ
          go_enter Tryz.func32, Tryz.ntmps32
          go_wp2_with (first
            | (go_at_call 52; refine (Has_any _ _ _).mono ?_; rintro e w' ⟨rfl, hw⟩; have hw := hw.symm; subst hw)
            | (go_at_call 55; refine (HHd.out (c % 128) _ rfl).mono ?_; rintro e W2 ⟨rfl, hW2⟩))
          go_end0
          exact ⟨rfl, by rw [e3.out]; exact hW2⟩
      | true =>
        have e2 : Hid (σ.small (c % 128) = smallC (c % 128)) := HSE.out _ (by rw [h256, h512]; rfl)
        rw [h512] at a512
        rw [e2.out] at e1
        clear h256 h512 e2 HSE HSN
        cases hq : σ.quoted with
        | true =>
          have e3 : Hid (σ.good c = ({ σ with quoted := false } : St).plain (smallC (c % 128))) := by show σ.good c = _; rw [e1.out, HG2.out, if_pos hq]
          rw [hq] at kq
          clear hq HG2 e1 HHd
          go_enter Tryz.func32, Tryz.ntmps32
          go_wp2_with (first
            | (go_at_call 52; refine (Has_any _ _ _).mono ?_; rintro e w' ⟨rfl, hw⟩; have hw := hw.symm; subst hw)
            | (go_at_call 54; refine (small_any (c % 128) _ rfl _).mono ?_; rintro e w' ⟨rfl, hw⟩; have hw := hw.symm; subst hw))
          refine (HLQ.out (w.setCell ⟨b, 28, none⟩ (.bool false)) (smallC (c % 128)) _ _ hQ rfl (by simp)).mono ?_
          rintro e W2 ⟨rfl, hW2⟩
          go_wp2
          refine bodyPost_ret (results_none rfl _ _ _) rfl ?_
          exact ⟨rfl, by rw [e3.out]; exact hW2⟩
        | false =>
          have e3 : Hid (σ.good c = σ.heed (smallC (c % 128))) := by show σ.good c = _; rw [e1.out, HG2.out, if_neg (by rw [hq]; decide)]
          rw [hq] at kq
          clear hq HG2 e1 HLQ
          go_enter Tryz.func32, Tryz.ntmps32
          go_wp2_with (first
            | (go_at_call 52; refine (Has_any _ _ _).mono ?_; rintro e w' ⟨rfl, hw⟩; have hw := hw.symm; subst hw)
            | (go_at_call 54; refine (small_any (c % 128) _ rfl _).mono ?_; rintro e w' ⟨rfl, hw⟩; have hw := hw.symm; subst hw)
            | (go_at_call 55; refine (HHd.out (smallC (c % 128)) _ rfl).mono ?_; rintro e W2 ⟨rfl, hW2⟩))
          go_end0
          exact ⟨rfl, by rw [e3.out]; exact hW2⟩
  | false =>
    rw [h16] at a16 HG
    clear h16 HX
    cases h8 : bit σ.i 8 with
    | false =>
      have e1 : Hid (σ.good c = σ.good2 (σ.small (c))) := by show σ.good c = _; rw [HG.out, h8]; rfl
      rw [h8] at a8
      clear h8 HG HLM
      cases h256 : bit σ.i 256 with
      | false =>
        have e2 : Hid (σ.small (c) = c) := HSN.out _ (by rw [h256]; rfl)
        rw [h256] at a256
        rw [e2.out] at e1
        clear h256 e2 HSE HSN
        cases hq : σ.quoted with
        | true =>
          have e3 : Hid (σ.good c = ({ σ with quoted := false } : St).plain (c)) := by show σ.good c = _; rw [e1.out, HG2.out, if_pos hq]
          rw [hq] at kq
          clear hq HG2 e1 HHd
          go_enter Tryz.func32, Tryz.ntmps32
          go_wp2_with (first
            | (go_at_call 52; refine (Has_any _ _ _).mono ?_; rintro e w' ⟨rfl, hw⟩; have hw := hw.symm; subst hw))
          refine (HLQ.out (w.setCell ⟨b, 28, none⟩ (.bool false)) (c) _ _ hQ rfl (by simp)).mono ?_
          rintro e W2 ⟨rfl, hW2⟩
          go_wp2
          refine bodyPost_ret (results_none rfl _ _ _) rfl ?_
          exact ⟨rfl, by rw [e3.out]; exact hW2⟩
        | false =>
          have e3 : Hid (σ.good c = σ.heed (c)) := by show σ.good c = _; rw [e1.out, HG2.out, if_neg (by rw [hq]; decide)]
          rw [hq] at kq
          clear hq HG2 e1 HLQ
          go_enter Tryz.func32, Tryz.ntmps32
          go_wp2_with (first
            | (go_at_call 52; refine (Has_any _ _ _).mono ?_; rintro e w' ⟨rfl, hw⟩; have hw := hw.symm; subst hw)
            | (go_at_call 55; refine (HHd.out (c) _ rfl).mono ?_; rintro e W2 ⟨rfl, hW2⟩))
          go_end0
          exact ⟨rfl, by rw [e3.out]; exact hW2⟩
      | true =>
        rw [h256] at a256
        cases h512 : bit σ.l 512 with
        | false =>
          have e2 : Hid (σ.small (c) = c) := HSN.out _ (by rw [h256, h512]; rfl)
          rw [h512] at a512
          rw [e2.out] at e1
          clear h256 h512 e2 HSE HSN
          cases hq : σ.quoted with
          | true =>
            have e3 : Hid (σ.good c = ({ σ with quoted := false } : St).plain (c)) := by show σ.good c = _; rw [e1.out, HG2.out, if_pos hq]
            rw [hq] at kq
            clear hq HG2 e1 HHd
            go_enter Tryz.func32, Tryz.ntmps32
            go_wp2_with (first
              | (go_at_call 52; refine (Has_any _ _ _).mono ?_; rintro e w' ⟨rfl, hw⟩; have hw := hw.symm; subst hw))
            refine (HLQ.out (w.setCell ⟨b, 28, none⟩ (.bool false)) (c) _ _ hQ rfl (by simp)).mono ?_
            rintro e W2 ⟨rfl, hW2⟩
            go_wp2
            refine bodyPost_ret (results_none rfl _ _ _) rfl ?_
            exact ⟨rfl, by rw [e3.out]; exact hW2⟩
          | false =>
            have e3 : Hid (σ.good c = σ.heed (c)) := by show σ.good c = _; rw [e1.out, HG2.out, if_neg (by rw [hq]; decide)]
            rw [hq] at kq
            clear hq HG2 e1 HLQ
            go_enter Tryz.func32, Tryz.ntmps32
            go_wp2_with (first
              | (go_at_call 52; refine (Has_any _ _ _).mono ?_; rintro e w' ⟨rfl, hw⟩; have hw := hw.symm; subst hw)
              | (go_at_call 55; refine (HHd.out (c) _ rfl).mono ?_; rintro e W2 ⟨rfl, hW2⟩))
            go_end0
            exact ⟨rfl, by rw [e3.out]; exact hW2⟩
        | true =>
          have e2 : Hid (σ.small (c) = smallC (c)) := HSE.out _ (by rw [h256, h512]; rfl)
          rw [h512] at a512
          rw [e2.out] at e1
          clear h256 h512 e2 HSE HSN
          cases hq : σ.quoted with
          | true =>
            have e3 : Hid (σ.good c = ({ σ with quoted := false } : St).plain (smallC (c))) := by show σ.good c = _; rw [e1.out, HG2.out, if_pos hq]
            rw [hq] at kq
            clear hq HG2 e1 HHd
            go_enter Tryz.func32, Tryz.ntmps32
            go_wp2_with (first
              | (go_at_call 52; refine (Has_any _ _ _).mono ?_; rintro e w' ⟨rfl, hw⟩; have hw := hw.symm; subst hw)
              | (go_at_call 54; refine (small_any (c) _ rfl _).mono ?_; rintro e w' ⟨rfl, hw⟩; have hw := hw.symm; subst hw))
            refine (HLQ.out (w.setCell ⟨b, 28, none⟩ (.bool false)) (smallC (c)) _ _ hQ rfl (by simp)).mono ?_
            rintro e W2 ⟨rfl, hW2⟩
            go_wp2
            refine bodyPost_ret (results_none rfl _ _ _) rfl ?_
            exact ⟨rfl, by rw [e3.out]; exact hW2⟩
          | false =>
            have e3 : Hid (σ.good c = σ.heed (smallC (c))) := by show σ.good c = _; rw [e1.out, HG2.out, if_neg (by rw [hq]; decide)]
            rw [hq] at kq
            clear hq HG2 e1 HLQ
            go_enter Tryz.func32, Tryz.ntmps32
            go_wp2_with (first
              | (go_at_call 52; refine (Has_any _ _ _).mono ?_; rintro e w' ⟨rfl, hw⟩; have hw := hw.symm; subst hw)
              | (go_at_call 54; refine (small_any (c) _ rfl _).mono ?_; rintro e w' ⟨rfl, hw⟩; have hw := hw.symm; subst hw)
              | (go_at_call 55; refine (HHd.out (smallC (c)) _ rfl).mono ?_; rintro e W2 ⟨rfl, hW2⟩))
            go_end0
            exact ⟨rfl, by rw [e3.out]; exact hW2⟩
    | true =>
      rw [h8] at a8 HG
      clear h8
      cases h255 : ((c.toNat : Int) == 255) with
      | false =>
        have e1 : Hid (σ.good c = σ.good2 (σ.small (c))) := by show σ.good c = _; rw [HG.out, h255]; rfl
        clear HG HLM
        cases h256 : bit σ.i 256 with
        | false =>
          have e2 : Hid (σ.small (c) = c) := HSN.out _ (by rw [h256]; rfl)
          rw [h256] at a256
          rw [e2.out] at e1
          clear h256 e2 HSE HSN
          cases hq : σ.quoted with
          | true =>
            have e3 : Hid (σ.good c = ({ σ with quoted := false } : St).plain (c)) := by show σ.good c = _; rw [e1.out, HG2.out, if_pos hq]
            rw [hq] at kq
            clear hq HG2 e1 HHd
            go_enter Tryz.func32, Tryz.ntmps32
            go_wp2_with (first
              | (go_at_call 52; refine (Has_any _ _ _).mono ?_; rintro e w' ⟨rfl, hw⟩; have hw := hw.symm; subst hw))
            refine (HLQ.out (w.setCell ⟨b, 28, none⟩ (.bool false)) (c) _ _ hQ rfl (by simp)).mono ?_
            rintro e W2 ⟨rfl, hW2⟩
            go_wp2
            refine bodyPost_ret (results_none rfl _ _ _) rfl ?_
            exact ⟨rfl, by rw [e3.out]; exact hW2⟩
          | false =>
            have e3 : Hid (σ.good c = σ.heed (c)) := by show σ.good c = _; rw [e1.out, HG2.out, if_neg (by rw [hq]; decide)]
            rw [hq] at kq
            clear hq HG2 e1 HLQ
            go_enter Tryz.func32, Tryz.ntmps32
            go_wp2_with (first
              | (go_at_call 52; refine (Has_any _ _ _).mono ?_; rintro e w' ⟨rfl, hw⟩; have hw := hw.symm; subst hw)
              | (go_at_call 55; refine (HHd.out (c) _ rfl).mono ?_; rintro e W2 ⟨rfl, hW2⟩))
            go_end0
            exact ⟨rfl, by rw [e3.out]; exact hW2⟩
        | true =>
          rw [h256] at a256
          cases h512 : bit σ.l 512 with
          | false =>
            have e2 : Hid (σ.small (c) = c) := HSN.out _ (by rw [h256, h512]; rfl)
            rw [h512] at a512
            rw [e2.out] at e1
            clear h256 h512 e2 HSE HSN
            cases hq : σ.quoted with
            | true =>
              have e3 : Hid (σ.good c = ({ σ with quoted := false } : St).plain (c)) := by show σ.good c = _; rw [e1.out, HG2.out, if_pos hq]
              rw [hq] at kq
              clear hq HG2 e1 HHd
              go_enter Tryz.func32, Tryz.ntmps32
              go_wp2_with (first
                | (go_at_call 52; refine (Has_any _ _ _).mono ?_; rintro e w' ⟨rfl, hw⟩; have hw := hw.symm; subst hw))
              refine (HLQ.out (w.setCell ⟨b, 28, none⟩ (.bool false)) (c) _ _ hQ rfl (by simp)).mono ?_
              rintro e W2 ⟨rfl, hW2⟩
              go_wp2
              refine bodyPost_ret (results_none rfl _ _ _) rfl ?_
              exact ⟨rfl, by rw [e3.out]; exact hW2⟩
            | false =>
              have e3 : Hid (σ.good c = σ.heed (c)) := by show σ.good c = _; rw [e1.out, HG2.out, if_neg (by rw [hq]; decide)]
              rw [hq] at kq
              clear hq HG2 e1 HLQ
              go_enter Tryz.func32, Tryz.ntmps32
              go_wp2_with (first
                | (go_at_call 52; refine (Has_any _ _ _).mono ?_; rintro e w' ⟨rfl, hw⟩; have hw := hw.symm; subst hw)
                | (go_at_call 55; refine (HHd.out (c) _ rfl).mono ?_; rintro e W2 ⟨rfl, hW2⟩))
              go_end0
              exact ⟨rfl, by rw [e3.out]; exact hW2⟩
          | true =>
            have e2 : Hid (σ.small (c) = smallC (c)) := HSE.out _ (by rw [h256, h512]; rfl)
            rw [h512] at a512
            rw [e2.out] at e1
            clear h256 h512 e2 HSE HSN
            cases hq : σ.quoted with
            | true =>
              have e3 : Hid (σ.good c = ({ σ with quoted := false } : St).plain (smallC (c))) := by show σ.good c = _; rw [e1.out, HG2.out, if_pos hq]
              rw [hq] at kq
              clear hq HG2 e1 HHd
              go_enter Tryz.func32, Tryz.ntmps32
              go_wp2_with (first
                | (go_at_call 52; refine (Has_any _ _ _).mono ?_; rintro e w' ⟨rfl, hw⟩; have hw := hw.symm; subst hw)
                | (go_at_call 54; refine (small_any (c) _ rfl _).mono ?_; rintro e w' ⟨rfl, hw⟩; have hw := hw.symm; subst hw))
              refine (HLQ.out (w.setCell ⟨b, 28, none⟩ (.bool false)) (smallC (c)) _ _ hQ rfl (by simp)).mono ?_
              rintro e W2 ⟨rfl, hW2⟩
              go_wp2
              refine bodyPost_ret (results_none rfl _ _ _) rfl ?_
              exact ⟨rfl, by rw [e3.out]; exact hW2⟩
            | false =>
              have e3 : Hid (σ.good c = σ.heed (smallC (c))) := by show σ.good c = _; rw [e1.out, HG2.out, if_neg (by rw [hq]; decide)]
              rw [hq] at kq
              clear hq HG2 e1 HLQ
              go_enter Tryz.func32, Tryz.ntmps32
              go_wp2_with (first
                | (go_at_call 52; refine (Has_any _ _ _).mono ?_; rintro e w' ⟨rfl, hw⟩; have hw := hw.symm; subst hw)
                | (go_at_call 54; refine (small_any (c) _ rfl _).mono ?_; rintro e w' ⟨rfl, hw⟩; have hw := hw.symm; subst hw)
                | (go_at_call 55; refine (HHd.out (smallC (c)) _ rfl).mono ?_; rintro e W2 ⟨rfl, hW2⟩))
              go_end0
              exact ⟨rfl, by rw [e3.out]; exact hW2⟩
      | true =>
        have e3 : Hid (σ.good c = (σ.plain 255).plain 255) := by show σ.good c = _; rw [HG.out, h255]; rfl
        clear HG HLQ HHd HSE HSN HG2
        go_enter Tryz.func32, Tryz.ntmps32
        go_wp2_with (go_at_call 52; refine (Has_any _ _ _).mono ?_; rintro e w' ⟨rfl, hw⟩; have hw := hw.symm; subst hw)
        refine (HLM.out w hR).mono ?_
        rintro e W2 ⟨rfl, hW2⟩
        go_wp2
        refine bodyPost_ret (results_none rfl _ _ _) rfl ?_
        exact ⟨rfl, by rw [e3.out]; exact hW2⟩

set_option maxHeartbeats 1000000 in
set_option maxRecDepth 100000 in
theorem breakCame_any (h : AtP S0 w0 x b σ w) (ok : Inv K σ) (hK : K ≤ 1099511627776) :
    Calls Tryz.prog 34 #[.pointer (some ⟨b, 0, none⟩)] w fun e w' => e = .returned (.tuple #[]) ∧ AtP S0 w0 x b σ.broken w' := by
  have k0 : w.cell? ⟨b, 0, none⟩ = some (.int .i64 σ.i) := by obtain ⟨vi, vu, vo, vs, hV⟩ := h; exact hV.ci
  have i0 := ok.ok.i0; have i1 := ok.ok.i1
  have a1 := has1 σ.i i0 i1
  have a2 := has2 σ.i i0 i1
  have HB : Hid (σ.broken = if bit σ.i 1 then σ else if bit σ.i 2 then σ.raise 1 else layW σ 0) := by
    show σ.broken = _
    unfold St.broken layW
    rfl
  have hsg := signal_any S0 w0 x b σ w K h ok hK 1
  have hlw := layWrong_any S0 w0 x b σ w K h ok hK 0 0 rfl
  clear ok
  cases h1 : bit σ.i 1 with
  | true =>
    have e1 : Hid (σ.broken = σ) := by show σ.broken = _; rw [HB.out, if_pos h1]
    rw [h1] at a1
    clear h1 HB hsg hlw
    go_enter Tryz.func34, Tryz.ntmps34
    go_wp2_with (go_at_call 52; refine (Has_any _ _ _).mono ?_; rintro e w' ⟨rfl, hw⟩; subst hw)
    go_end0
    exact ⟨rfl, by rw [e1.out]; exact h⟩
  | false =>
    rw [h1] at a1 HB
    clear h1
    cases h2 : bit σ.i 2 with
    | true =>
      have e1 : Hid (σ.broken = σ.raise 1) := by show σ.broken = _; rw [HB.out, h2]; rfl
      rw [h2] at a2
      clear h2 HB hlw
      go_enter Tryz.func34, Tryz.ntmps34
      go_wp2_with (first | (go_at_call 52; refine (Has_any _ _ _).mono ?_; rintro e w' ⟨rfl, hw⟩; subst hw) | (go_at_call 57; refine hsg.mono ?_; rintro e W2 ⟨rfl, hW2⟩))
      go_end0
      exact ⟨rfl, by rw [e1.out]; exact hW2⟩
    | false =>
      have e1 : Hid (σ.broken = layW σ 0) := by show σ.broken = _; rw [HB.out, h2]; rfl
      rw [h2] at a2
      clear h2 HB hsg
      go_enter Tryz.func34, Tryz.ntmps34
      go_wp2_with (first | (go_at_call 52; refine (Has_any _ _ _).mono ?_; rintro e w' ⟨rfl, hw⟩; subst hw) | (go_at_call 56; refine hlw.mono ?_; rintro e W2 ⟨rfl, hW2⟩))
      go_end0
      exact ⟨rfl, by rw [e1.out]; exact hW2⟩
end
end Go.Proofs.YtfnglkhhmplejaaGreat
