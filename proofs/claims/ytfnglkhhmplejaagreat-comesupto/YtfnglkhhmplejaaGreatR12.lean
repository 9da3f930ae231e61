/- Walks: the reference's terminal: something is laid down, whatever it is; flow; signals; what came in a wrong way. -/
import Derived.Test.YtfnglkhhmplejaaGreatRef11
import Derived.Test.YtfnglkhhmplejaaGreatBase2
namespace Go.Proofs.YtfnglkhhmplejaaGreat
open Go Go.RowKit Go.Clk

section
variable (S0 : List Nat) (w0 : World) (x : List Nat) (b : Nat) (σ : St) (w : World) (K : Int)

theorem lays_any (h : AtR S0 w0 x b σ w) (ok : Inv K σ) (hK : K ≤ 1099511627776) (e : Ent) (cs : Array Value) (hcs : cs = #[.int .u8 e.b.toNat, .bool e.fin, .bool e.file, .int .i64 e.cells]) :
    Calls Tryz.prog 147 #[.pointer (some ⟨b, 0, none⟩), .agg cs] w fun r w' => r = .returned (.tuple #[]) ∧ AtR S0 w0 x b (σ.lays e) w' := by
  subst hcs
  obtain ⟨c, fin, file, cl⟩ := e
  dsimp only
  by_cases hfull : σ.most fin ≤ σ.inq.length
  · have e1 : σ.lays ⟨c, fin, file, cl⟩ = lost σ := by unfold St.lays lost; dsimp only; rw [if_pos hfull]
    rw [e1]
    cases h2 : bit σ.l 2 with
    | false => exact lays_full_a S0 w0 x b σ w K h ok hK c fin file cl h2 (by simpa [St.most, St.L, h2] using hfull)
    | true =>
      cases fin with
      | true => exact lays_full_b S0 w0 x b σ w K h ok hK c file cl h2 (by simpa [St.most, St.L, h2] using hfull)
      | false => exact lays_full_c S0 w0 x b σ w K h ok hK c file cl h2 (by simpa [St.most, St.L, h2] using hfull)
  · cases file with
    | true =>
      have e1 : σ.lays ⟨c, fin, true, cl⟩ = { σ with inq := σ.inq ++ [⟨c, fin, true, cl⟩], wait := 0 } := by unfold St.lays; dsimp only; rw [if_neg hfull]; rfl
      rw [e1]
      cases h2 : bit σ.l 2 with
      | false => exact lays_file_a S0 w0 x b σ w K h ok hK c fin cl h2 (by simpa [St.most, St.L, h2] using hfull)
      | true =>
        cases fin with
        | true => exact lays_file_b S0 w0 x b σ w K h ok hK c cl h2 (by simpa [St.most, St.L, h2] using hfull)
        | false => exact lays_file_c S0 w0 x b σ w K h ok hK c cl h2 (by simpa [St.most, St.L, h2] using hfull)
    | false =>
      have e1 : σ.lays ⟨c, fin, false, cl⟩ = { σ.echo1 c with inq := σ.inq ++ [⟨c, fin, false, σ.cellsOf c⟩], wait := 0 } := by unfold St.lays; dsimp only; rw [if_neg hfull]; rfl
      rw [e1]
      cases h2 : bit σ.l 2 with
      | false => exact lays_byte_a S0 w0 x b σ w K h ok hK c fin cl h2 (by simpa [St.most, St.L, h2] using hfull)
      | true =>
        cases fin with
        | true => exact lays_byte_b S0 w0 x b σ w K h ok hK c cl h2 (by simpa [St.most, St.L, h2] using hfull)
        | false => exact lays_byte_c S0 w0 x b σ w K h ok hK c cl h2 (by simpa [St.most, St.L, h2] using hfull)

set_option maxHeartbeats 1000000 in
set_option maxRecDepth 100000 in
theorem plain_any (h : AtR S0 w0 x b σ w) (ok : Inv K σ) (hK : K ≤ 1099511627776) (c : UInt8) (n : Int) (hn : n = (c.toNat : Int)) :
    Calls Tryz.prog 126 #[.pointer (some ⟨b, 0, none⟩), .int .u8 n] w fun r w' => r = .returned (.tuple #[]) ∧ AtR S0 w0 x b (σ.plain c) w' := by
  subst hn
  go_enter Tryz.func126, Tryz.ntmps126
  go_wp2_with fail
  refine (lays_any S0 w0 x b σ w K h ok hK ⟨c, false, false, 0⟩ _ rfl).mono ?_
  rintro e W ⟨rfl, hW⟩
  go_wp2
  go_end0
  exact ⟨rfl, hW⟩

set_option maxHeartbeats 1000000 in
set_option maxRecDepth 100000 in
theorem flows_0 (h : AtR S0 w0 x b σ w) (ok : Inv K σ) (c : UInt8) (h0 : bit σ.i 512 = false) :
    Calls Tryz.prog 127 #[.pointer (some ⟨b, 0, none⟩), .int .u8 c.toNat] w fun r w' => r = .returned (.bool false) ∧ AtR S0 w0 x b σ w' := by
  have hR := h
  obtain ⟨vi, vo, vu, vn, vd, hV⟩ := h
  have i0' := ok.ok.i0; have i1' := ok.ok.i1
  have k0 := hV.ci
  have k21 := hV.c21
  have f21 := hV.frozen 21
  clear ok
  go_enter Tryz.func127, Tryz.ntmps127
  go_wp2_with (first | (go_at_call 124; refine (in_any b σ.i _ _ k0 i0' i1' (by omega) (by omega)).mono ?_; rintro e w' ⟨rfl, rfl⟩) | (go_at_call 148; refine (is_any S0 w0 x b σ _ hR c _ (by omega) (by omega)).mono ?_; rintro e w' ⟨rfl, rfl⟩))
  all_goals go_ret
  all_goals exact ⟨rfl, hV.r⟩
set_option maxHeartbeats 1000000 in
set_option maxRecDepth 100000 in
theorem flows_1 (h : AtR S0 w0 x b σ w) (ok : Inv K σ) (c : UInt8) (h0 : bit σ.i 512 = true) (h1 : σ.isC c 8 = true) :
    Calls Tryz.prog 127 #[.pointer (some ⟨b, 0, none⟩), .int .u8 c.toNat] w fun r w' => r = .returned (.bool true) ∧ AtR S0 w0 x b { σ with stopped := false } w' := by
  have hR := h
  obtain ⟨vi, vo, vu, vn, vd, hV⟩ := h
  have i0' := ok.ok.i0; have i1' := ok.ok.i1
  have k0 := hV.ci
  have k21 := hV.c21
  have f21 := hV.frozen 21
  clear ok
  go_enter Tryz.func127, Tryz.ntmps127
  go_wp2_with (first | (go_at_call 124; refine (in_any b σ.i _ _ k0 i0' i1' (by omega) (by omega)).mono ?_; rintro e w' ⟨rfl, rfl⟩) | (go_at_call 148; refine (is_any S0 w0 x b σ _ hR c _ (by omega) (by omega)).mono ?_; rintro e w' ⟨rfl, rfl⟩))
  all_goals go_ret
  all_goals exact ⟨rfl, (hV.s_stopped false).r⟩
set_option maxHeartbeats 1000000 in
set_option maxRecDepth 100000 in
theorem flows_2 (h : AtR S0 w0 x b σ w) (ok : Inv K σ) (c : UInt8) (h0 : bit σ.i 512 = true) (h1 : σ.isC c 8 = false) (h2 : σ.isC c 9 = true) :
    Calls Tryz.prog 127 #[.pointer (some ⟨b, 0, none⟩), .int .u8 c.toNat] w fun r w' => r = .returned (.bool true) ∧ AtR S0 w0 x b { σ with stopped := true } w' := by
  have hR := h
  obtain ⟨vi, vo, vu, vn, vd, hV⟩ := h
  have i0' := ok.ok.i0; have i1' := ok.ok.i1
  have k0 := hV.ci
  have k21 := hV.c21
  have f21 := hV.frozen 21
  clear ok
  go_enter Tryz.func127, Tryz.ntmps127
  go_wp2_with (first | (go_at_call 124; refine (in_any b σ.i _ _ k0 i0' i1' (by omega) (by omega)).mono ?_; rintro e w' ⟨rfl, rfl⟩) | (go_at_call 148; refine (is_any S0 w0 x b σ _ hR c _ (by omega) (by omega)).mono ?_; rintro e w' ⟨rfl, rfl⟩))
  all_goals go_ret
  all_goals exact ⟨rfl, (hV.s_stopped true).r⟩
set_option maxHeartbeats 1000000 in
set_option maxRecDepth 100000 in
theorem flows_3 (h : AtR S0 w0 x b σ w) (ok : Inv K σ) (c : UInt8) (h0 : bit σ.i 512 = true) (h1 : σ.isC c 8 = false) (h2 : σ.isC c 9 = false) (h3 : bit σ.i 1024 = true) :
    Calls Tryz.prog 127 #[.pointer (some ⟨b, 0, none⟩), .int .u8 c.toNat] w fun r w' => r = .returned (.bool false) ∧ AtR S0 w0 x b { σ with stopped := false } w' := by
  have hR := h
  obtain ⟨vi, vo, vu, vn, vd, hV⟩ := h
  have i0' := ok.ok.i0; have i1' := ok.ok.i1
  have k0 := hV.ci
  have k21 := hV.c21
  have f21 := hV.frozen 21
  clear ok
  go_enter Tryz.func127, Tryz.ntmps127
  go_wp2_with (first | (go_at_call 124; refine (in_any b σ.i _ _ k0 i0' i1' (by omega) (by omega)).mono ?_; rintro e w' ⟨rfl, rfl⟩) | (go_at_call 148; refine (is_any S0 w0 x b σ _ hR c _ (by omega) (by omega)).mono ?_; rintro e w' ⟨rfl, rfl⟩))
  all_goals go_ret
  all_goals exact ⟨rfl, (hV.s_stopped false).r⟩
set_option maxHeartbeats 1000000 in
set_option maxRecDepth 100000 in
theorem flows_4 (h : AtR S0 w0 x b σ w) (ok : Inv K σ) (c : UInt8) (h0 : bit σ.i 512 = true) (h1 : σ.isC c 8 = false) (h2 : σ.isC c 9 = false) (h3 : bit σ.i 1024 = false) :
    Calls Tryz.prog 127 #[.pointer (some ⟨b, 0, none⟩), .int .u8 c.toNat] w fun r w' => r = .returned (.bool false) ∧ AtR S0 w0 x b σ w' := by
  have hR := h
  obtain ⟨vi, vo, vu, vn, vd, hV⟩ := h
  have i0' := ok.ok.i0; have i1' := ok.ok.i1
  have k0 := hV.ci
  have k21 := hV.c21
  have f21 := hV.frozen 21
  clear ok
  go_enter Tryz.func127, Tryz.ntmps127
  go_wp2_with (first | (go_at_call 124; refine (in_any b σ.i _ _ k0 i0' i1' (by omega) (by omega)).mono ?_; rintro e w' ⟨rfl, rfl⟩) | (go_at_call 148; refine (is_any S0 w0 x b σ _ hR c _ (by omega) (by omega)).mono ?_; rintro e w' ⟨rfl, rfl⟩))
  all_goals go_ret
  all_goals exact ⟨rfl, hV.r⟩
theorem flows_any (h : AtR S0 w0 x b σ w) (ok : Inv K σ) (c : UInt8) :
    Calls Tryz.prog 127 #[.pointer (some ⟨b, 0, none⟩), .int .u8 c.toNat] w fun r w' => r = .returned (.bool (σ.flows c).2) ∧ AtR S0 w0 x b (σ.flows c).1 w' := by
  unfold St.flows St.I
  cases h0 : bit σ.i 512 with
  | false => exact flows_0 S0 w0 x b σ w K h ok c h0
  | true =>
    cases h1 : σ.isC c 8 with
    | true => exact flows_1 S0 w0 x b σ w K h ok c h0 h1
    | false =>
      cases h2 : σ.isC c 9 with
      | true => exact flows_2 S0 w0 x b σ w K h ok c h0 h1 h2
      | false =>
        cases h3 : bit σ.i 1024 with
        | true => exact flows_3 S0 w0 x b σ w K h ok c h0 h1 h2 h3
        | false => exact flows_4 S0 w0 x b σ w K h ok c h0 h1 h2 h3
theorem sigs_hit (σ : St) (c : UInt8) (j : Nat) (hj : j < 3) (h1 : bit σ.l 1 = true) (hn : ∀ m : Nat, m < j → σ.isC c m = false) (hc : σ.isC c j = true) : σ.sigs c = ((σ.raise (j + 1)).echo1 c, true) := by
  unfold St.sigs St.L
  rw [if_pos h1]
  match j, hj with
  | 0, _ => rw [if_pos (by exact hc)]; rfl
  | 1, _ => rw [if_neg (by have := hn 0 (by omega); simpa using this), if_pos (by exact hc)]; rfl
  | 2, _ => rw [if_neg (by have := hn 0 (by omega); simpa using this), if_neg (by have := hn 1 (by omega); simpa using this), if_pos (by exact hc)]; rfl
theorem sigs_none (σ : St) (c : UInt8) (hn : ∀ m : Nat, m < 3 → σ.isC c m = false) : σ.sigs c = (σ, false) := by
  have e0 : σ.isC c 0 = false := hn 0 (by omega)
  have e1 : σ.isC c 1 = false := hn 1 (by omega)
  have e2 : σ.isC c 2 = false := hn 2 (by omega)
  unfold St.sigs
  simp [e0, e1, e2]
theorem sigs_off (σ : St) (c : UInt8) (h1 : bit σ.l 1 = false) : σ.sigs c = (σ, false) := by
  unfold St.sigs St.L
  rw [h1]; rfl

set_option maxHeartbeats 1000000 in
set_option maxRecDepth 100000 in
theorem signals_any (h : AtR S0 w0 x b σ w) (ok : Inv K σ) (hK : K ≤ 1099511600000) (c : UInt8) :
    Calls Tryz.prog 128 #[.pointer (some ⟨b, 0, none⟩), .int .u8 c.toNat] w fun r w' => r = .returned (.bool (σ.sigs c).2) ∧ AtR S0 w0 x b (σ.sigs c).1 w' := by
  have hR := h
  obtain ⟨vi, vo, vu, vn, vd, hV⟩ := h
  have l0 := ok.ok.l0; have l1 := ok.ok.l1
  have k2 := hV.cl
  have HI : Hid (Inv K σ) := ok
  clear ok
  cases hon : bit σ.l 1 with
  | false =>
    rw [sigs_off σ c hon]
    go_enter Tryz.func128, Tryz.ntmps128
    go_wp2_with (go_at_call 89; refine (local_any b σ.l _ _ k2 l0 l1 (by omega) (by omega)).mono ?_; rintro e w' ⟨rfl, rfl⟩)
    go_loopg [6] 0 (fun _ i wr => i = .int .i64 0 ∧ AtR S0 w0 x b σ wr)
    case atStart => exact ⟨rfl, hR⟩
    case round =>
      obtain ⟨rfl, hRr⟩ := hrel
      go_wp2
      go_ret
      exact ⟨rfl, hRr⟩
  | true =>
    have HS : Hid (∀ j : Nat, j < 3 → (∀ m : Nat, m < j → σ.isC c m = false) → σ.isC c j = true → σ.sigs c = ((σ.raise (j + 1)).echo1 c, true)) := fun j hj hn hc => sigs_hit σ c j hj hon hn hc
    go_enter Tryz.func128, Tryz.ntmps128
    go_wp2_with (go_at_call 89; refine (local_any b σ.l _ _ k2 l0 l1 (by omega) (by omega)).mono ?_; rintro e w' ⟨rfl, rfl⟩)
    go_loopg [6] 3 (fun k i wr => ∃ j : Nat, j + k = 3 ∧ i = .int .i64 j ∧ AtR S0 w0 x b σ wr ∧ Hid (∀ m : Nat, m < j → σ.isC c m = false))
    case atStart => exact ⟨0, by omega, rfl, hR, fun m hm => by omega⟩
    case round =>
      clear hR hV k2
      obtain ⟨j, hj, rfl, hRr, hn⟩ := hrel
      by_cases hlt : j < 3
      · cases hc : σ.isC c j with
        | true =>
          have HT : Hid (σ.sigs c = ((σ.raise (j + 1)).echo1 c, true)) := HS.out j hlt hn.out hc
          clear HS hn
          go_wp2_with (go_at_call 148; refine (is_any S0 w0 x b σ _ hRr c _ (by omega) (by omega)).mono ?_; rintro e w' ⟨rfl, rfl⟩)
          refine (ref_raise_any S0 w0 x b σ _ K hRr HI.out (by omega) (j + 1)).mono ?_
          rintro e W ⟨rfl, hW⟩
          go_wp2_with fail
          refine (Echo_any S0 w0 x b _ _ (K + 2048) hW (HI.out.raise _) (by omega) c _ rfl).mono ?_
          rintro e W2 ⟨rfl, hW2⟩
          go_wp2
          go_ret
          rw [HT.out]
          exact ⟨rfl, hW2⟩
        | false =>
          clear HS
          go_wp2_with (go_at_call 148; refine (is_any S0 w0 x b σ _ hRr c _ (by omega) (by omega)).mono ?_; rintro e w' ⟨rfl, rfl⟩)
          go_roundg (gk - 1)
          case measure => omega
          case rel =>
            refine ⟨j + 1, by omega, by go_num, hRr, fun m hm => ?_⟩
            rcases Nat.lt_or_ge m j with h | h
            · exact hn.out m h
            · obtain rfl : m = j := by omega
              exact hc
      · obtain rfl : j = 3 := by omega
        have HT : Hid (σ.sigs c = (σ, false)) := sigs_none σ c hn.out
        clear HS hn
        go_wp2
        go_ret
        rw [HT.out]
        exact ⟨rfl, hRr⟩

set_option maxHeartbeats 1000000 in
set_option maxRecDepth 100000 in
theorem wrong_0 (h : AtR S0 w0 x b σ w) (ok : Inv K σ) (_hK : K ≤ 1099511627776) (c : UInt8) (h0 : bit σ.i 4 = true) :
    Calls Tryz.prog 93 #[.pointer (some ⟨b, 0, none⟩), .int .u8 c.toNat] w fun r w' => r = .returned (.tuple #[]) ∧ AtR S0 w0 x b σ w' := by
  have hR := h
  obtain ⟨vi, vo, vu, vn, vd, hV⟩ := h
  have i0' := ok.ok.i0; have i1' := ok.ok.i1
  have k0 := hV.ci
  have HI : Hid (Inv K σ) := ok
  clear ok
  go_enter Tryz.func93, Tryz.ntmps93
  go_wp2_with (go_at_call 124; refine (in_any b σ.i _ _ k0 i0' i1' (by omega) (by omega)).mono ?_; rintro e w' ⟨rfl, rfl⟩)
  go_end0
  exact ⟨rfl, hR⟩
set_option maxHeartbeats 1000000 in
set_option maxRecDepth 100000 in
theorem wrong_1 (h : AtR S0 w0 x b σ w) (ok : Inv K σ) (hK : K ≤ 1099511627776) (c : UInt8) (h0 : bit σ.i 4 = false) (h1 : bit σ.i 8 = true) :
    Calls Tryz.prog 93 #[.pointer (some ⟨b, 0, none⟩), .int .u8 c.toNat] w fun r w' => r = .returned (.tuple #[]) ∧ AtR S0 w0 x b (((σ.plain 255).plain 0).plain c) w' := by
  have hR := h
  obtain ⟨vi, vo, vu, vn, vd, hV⟩ := h
  have i0' := ok.ok.i0; have i1' := ok.ok.i1
  have k0 := hV.ci
  have HI : Hid (Inv K σ) := ok
  clear ok
  go_enter Tryz.func93, Tryz.ntmps93
  go_wp2_with (go_at_call 124; refine (in_any b σ.i _ _ k0 i0' i1' (by omega) (by omega)).mono ?_; rintro e w' ⟨rfl, rfl⟩)
  refine (plain_any S0 w0 x b σ _ K hR HI.out hK 255 _ rfl).mono ?_
  rintro e W0 ⟨rfl, hR0⟩
  go_wp2_with fail
  refine (plain_any S0 w0 x b (σ.plain 255) _ K hR0 (HI.out.plain 255) hK 0 _ rfl).mono ?_
  rintro e W1 ⟨rfl, hR1⟩
  go_wp2_with fail
  refine (plain_any S0 w0 x b ((σ.plain 255).plain 0) _ K hR1 ((HI.out.plain 255).plain 0) hK c _ rfl).mono ?_
  rintro e W2 ⟨rfl, hR2⟩
  go_wp2
  go_end0
  exact ⟨rfl, hR2⟩
set_option maxHeartbeats 1000000 in
set_option maxRecDepth 100000 in
theorem wrong_2 (h : AtR S0 w0 x b σ w) (ok : Inv K σ) (hK : K ≤ 1099511627776) (c : UInt8) (h0 : bit σ.i 4 = false) (h1 : bit σ.i 8 = false) :
    Calls Tryz.prog 93 #[.pointer (some ⟨b, 0, none⟩), .int .u8 c.toNat] w fun r w' => r = .returned (.tuple #[]) ∧ AtR S0 w0 x b (σ.plain 0) w' := by
  have hR := h
  obtain ⟨vi, vo, vu, vn, vd, hV⟩ := h
  have i0' := ok.ok.i0; have i1' := ok.ok.i1
  have k0 := hV.ci
  have HI : Hid (Inv K σ) := ok
  clear ok
  go_enter Tryz.func93, Tryz.ntmps93
  go_wp2_with (go_at_call 124; refine (in_any b σ.i _ _ k0 i0' i1' (by omega) (by omega)).mono ?_; rintro e w' ⟨rfl, rfl⟩)
  refine (plain_any S0 w0 x b σ _ K hR HI.out hK 0 _ rfl).mono ?_
  rintro e W0 ⟨rfl, hR0⟩
  go_wp2
  go_end0
  exact ⟨rfl, hR0⟩
theorem wrong_any (h : AtR S0 w0 x b σ w) (ok : Inv K σ) (hK : K ≤ 1099511627776) (c : UInt8) :
    Calls Tryz.prog 93 #[.pointer (some ⟨b, 0, none⟩), .int .u8 c.toNat] w fun r w' => r = .returned (.tuple #[]) ∧ AtR S0 w0 x b (σ.wrong c) w' := by
  unfold St.wrong St.I
  cases h0 : bit σ.i 4 with
  | true => exact wrong_0 S0 w0 x b σ w K h ok hK c h0
  | false =>
    cases h1 : bit σ.i 8 with
    | true => exact wrong_1 S0 w0 x b σ w K h ok hK c h0 h1
    | false => exact wrong_2 S0 w0 x b σ w K h ok hK c h0 h1
set_option maxHeartbeats 1000000 in
set_option maxRecDepth 100000 in
theorem broken_0 (h : AtR S0 w0 x b σ w) (ok : Inv K σ) (_hK : K ≤ 1099511627776) (h0 : bit σ.i 1 = true) :
    Calls Tryz.prog 92 #[.pointer (some ⟨b, 0, none⟩)] w fun r w' => r = .returned (.tuple #[]) ∧ AtR S0 w0 x b σ w' := by
  have hR := h
  obtain ⟨vi, vo, vu, vn, vd, hV⟩ := h
  have i0' := ok.ok.i0; have i1' := ok.ok.i1
  have k0 := hV.ci
  have HI : Hid (Inv K σ) := ok
  clear ok
  go_enter Tryz.func92, Tryz.ntmps92
  go_wp2_with (go_at_call 124; refine (in_any b σ.i _ _ k0 i0' i1' (by omega) (by omega)).mono ?_; rintro e w' ⟨rfl, rfl⟩)
  go_end0
  exact ⟨rfl, hR⟩
set_option maxHeartbeats 1000000 in
set_option maxRecDepth 100000 in
theorem broken_1 (h : AtR S0 w0 x b σ w) (ok : Inv K σ) (hK : K ≤ 1099511627776) (h0 : bit σ.i 1 = false) (h1 : bit σ.i 2 = true) :
    Calls Tryz.prog 92 #[.pointer (some ⟨b, 0, none⟩)] w fun r w' => r = .returned (.tuple #[]) ∧ AtR S0 w0 x b (σ.raise 1) w' := by
  have hR := h
  obtain ⟨vi, vo, vu, vn, vd, hV⟩ := h
  have i0' := ok.ok.i0; have i1' := ok.ok.i1
  have k0 := hV.ci
  have HI : Hid (Inv K σ) := ok
  clear ok
  go_enter Tryz.func92, Tryz.ntmps92
  go_wp2_with (go_at_call 124; refine (in_any b σ.i _ _ k0 i0' i1' (by omega) (by omega)).mono ?_; rintro e w' ⟨rfl, rfl⟩)
  refine (ref_raise_any S0 w0 x b σ _ K hR HI.out hK 1).mono ?_
  rintro e W0 ⟨rfl, hR0⟩
  go_wp2
  go_end0
  exact ⟨rfl, hR0⟩
set_option maxHeartbeats 1000000 in
set_option maxRecDepth 100000 in
theorem broken_2 (h : AtR S0 w0 x b σ w) (ok : Inv K σ) (hK : K ≤ 1099511627776) (h0 : bit σ.i 1 = false) (h1 : bit σ.i 2 = false) (h2 : bit σ.i 8 = true) :
    Calls Tryz.prog 92 #[.pointer (some ⟨b, 0, none⟩)] w fun r w' => r = .returned (.tuple #[]) ∧ AtR S0 w0 x b (((σ.plain 255).plain 0).plain 0) w' := by
  have hR := h
  obtain ⟨vi, vo, vu, vn, vd, hV⟩ := h
  have i0' := ok.ok.i0; have i1' := ok.ok.i1
  have k0 := hV.ci
  have HI : Hid (Inv K σ) := ok
  clear ok
  go_enter Tryz.func92, Tryz.ntmps92
  go_wp2_with (go_at_call 124; refine (in_any b σ.i _ _ k0 i0' i1' (by omega) (by omega)).mono ?_; rintro e w' ⟨rfl, rfl⟩)
  refine (plain_any S0 w0 x b σ _ K hR HI.out hK 255 _ rfl).mono ?_
  rintro e W0 ⟨rfl, hR0⟩
  go_wp2_with fail
  refine (plain_any S0 w0 x b (σ.plain 255) _ K hR0 (HI.out.plain 255) hK 0 _ rfl).mono ?_
  rintro e W1 ⟨rfl, hR1⟩
  go_wp2_with fail
  refine (plain_any S0 w0 x b ((σ.plain 255).plain 0) _ K hR1 ((HI.out.plain 255).plain 0) hK 0 _ rfl).mono ?_
  rintro e W2 ⟨rfl, hR2⟩
  go_wp2
  go_end0
  exact ⟨rfl, hR2⟩
set_option maxHeartbeats 1000000 in
set_option maxRecDepth 100000 in
theorem broken_3 (h : AtR S0 w0 x b σ w) (ok : Inv K σ) (hK : K ≤ 1099511627776) (h0 : bit σ.i 1 = false) (h1 : bit σ.i 2 = false) (h2 : bit σ.i 8 = false) :
    Calls Tryz.prog 92 #[.pointer (some ⟨b, 0, none⟩)] w fun r w' => r = .returned (.tuple #[]) ∧ AtR S0 w0 x b (σ.plain 0) w' := by
  have hR := h
  obtain ⟨vi, vo, vu, vn, vd, hV⟩ := h
  have i0' := ok.ok.i0; have i1' := ok.ok.i1
  have k0 := hV.ci
  have HI : Hid (Inv K σ) := ok
  clear ok
  go_enter Tryz.func92, Tryz.ntmps92
  go_wp2_with (go_at_call 124; refine (in_any b σ.i _ _ k0 i0' i1' (by omega) (by omega)).mono ?_; rintro e w' ⟨rfl, rfl⟩)
  refine (plain_any S0 w0 x b σ _ K hR HI.out hK 0 _ rfl).mono ?_
  rintro e W0 ⟨rfl, hR0⟩
  go_wp2
  go_end0
  exact ⟨rfl, hR0⟩
theorem broken_any (h : AtR S0 w0 x b σ w) (ok : Inv K σ) (hK : K ≤ 1099511627776) :
    Calls Tryz.prog 92 #[.pointer (some ⟨b, 0, none⟩)] w fun r w' => r = .returned (.tuple #[]) ∧ AtR S0 w0 x b σ.broken w' := by
  unfold St.broken St.I
  cases h0 : bit σ.i 1 with
  | true => exact broken_0 S0 w0 x b σ w K h ok hK h0
  | false =>
    cases h1 : bit σ.i 2 with
    | true => exact broken_1 S0 w0 x b σ w K h ok hK h0 h1
    | false =>
      cases h2 : bit σ.i 8 with
      | true => exact broken_2 S0 w0 x b σ w K h ok hK h0 h1 h2
      | false => exact broken_3 S0 w0 x b σ w K h ok hK h0 h1 h2
end
end Go.Proofs.YtfnglkhhmplejaaGreat
namespace Go.Clk
open Go
theorem ents_get (l : List Ent) (q : Nat) (h : q < l.length) (k : Nat) (hk : k < 4) : (ents l)[q * 4 + k]? = (entCells l[q])[k]? := by
  unfold ents
  induction l generalizing q with
  | nil => simp at h
  | cons a l ih =>
    rw [List.flatMap_cons]
    cases q with
    | zero => rw [List.getElem?_append_left (by simp [entCells]; omega)]; simp
    | succ q =>
      rw [List.getElem?_append_right (by simp [entCells]; omega)]
      have : (q + 1) * 4 + k - (entCells a).length = q * 4 + k := by simp [entCells]; omega
      rw [this, ih q (by simpa using h)]
      simp
end Go.Clk
namespace Go.Proofs.YtfnglkhhmplejaaGreat
open Go Go.RowKit Go.Clk

section
variable (S0 : List Nat) (w0 : World) (x : List Nat) (b : Nat) (σ : St) (w : World) (K : Int)

set_option maxHeartbeats 2000000 in
set_option maxRecDepth 100000 in
theorem word_any (h : AtR S0 w0 x b σ w) (p f : Nat) (hp : f + p = σ.inq.length) (hl : σ.inq.length ≤ 256) (fi : Int) (hf : fi = (f : Int)) :
    Calls Tryz.prog 152 #[.pointer (some ⟨b, 0, none⟩), .int .i64 fi] w fun r w' => r = .returned (.int .i64 (wordR (σ.inq.reverse.take p) : Nat)) ∧ AtR S0 w0 x b σ w' := by
  subst hf
  obtain ⟨vi, vo, vu, vn, vd, hV⟩ := h
  obtain ⟨oi, hsi, _, _, _⟩ := hV.lens_inq
  obtain ⟨ai, ci, rfl, hl1, hl2⟩ := hsi.shape
  have k17 := hV.c17
  have hR := hV.r
  obtain ⟨rr, hrr⟩ : ∃ rr, σ.inq.reverse.take p = rr := ⟨_, rfl⟩
  have HR : Hid (∀ j q : Nat, j < p → ∀ hq : q + 1 + j = σ.inq.length, rr.drop j = σ.inq[q] :: rr.drop (j + 1)) := fun j q hj hq => by rw [← hrr]; exact back_drop σ.inq p j q (by omega) hj hq
  have HE : Hid (rr.length = p) := by show rr.length = p; rw [← hrr]; simp; omega
  rw [hrr]
  clear hrr hsi hV
  go_enter Tryz.func152, Tryz.ntmps152
  go_wp2_with fail
  go_loopg [5, 6, 7] p (fun k n wd i wr => ∃ (j : Nat) (d : Bool), j + k = p ∧ n = .int .i64 j ∧ wd = .bool d ∧ i = .int .i64 ((σ.inq.length : Int) - 1 - j) ∧ AtR S0 w0 x b σ wr ∧ Hid (wordR rr = j + wordW d (rr.drop j)))
  case atStart => exact ⟨0, false, by omega, rfl, rfl, by go_num, hR, by show wordR rr = 0 + wordW false (rr.drop 0); simp [wordW]⟩
  case round =>
    clear hR k17 hl1 hl2
    obtain ⟨j, d, hj, rfl, rfl, rfl, ⟨vi, vo, vu, vn, vd, hV⟩, hw⟩ := hrel
    by_cases hlt : j < p
    · obtain ⟨q, hq⟩ : ∃ q : Nat, q + 1 + j = σ.inq.length := ⟨σ.inq.length - 1 - j, by omega⟩
      have hqi : (σ.inq.length : Int) - 1 - j = (q : Int) := by omega
      rw [hqi]
      have hql : q < σ.inq.length := by omega
      obtain ⟨oi, hsi, _, _, _⟩ := hV.lens_inq
      obtain ⟨ai, ci, rfl, hl1, hl2⟩ := hsi.shape
      obtain ⟨ug, uoff, uc, he, rfl⟩ := hsi.addr (by omega)
      cases he
      have k17 := hV.c17
      have kc := (hsi.cells rfl (q * 4 + 0) (u := .int .u8 (σ.inq[q].b.toNat : Int)) (by rw [ents_get σ.inq q hql 0 (by omega)]; rfl)).1
      simp only [Nat.add_zero] at kc
      have hD := HR.out j q hlt hq
      have hR := hV.r
      have HG : Hid (gap σ.inq[q] = (((σ.inq[q].b.toNat : Int) == 32) || ((σ.inq[q].b.toNat : Int) == 9))) := rfl
      have HD : Hid (rr.drop j = σ.inq[q] :: rr.drop (j + 1)) := hD
      clear hD hsi hV HR hqi
      generalize σ.inq[q] = e at *
      have hfq : f ≤ q := by omega
      rcases (by omega : (e.b.toNat : Int) = 32 ∨ (e.b.toNat : Int) = 9 ∨ ((e.b.toNat : Int) ≠ 32 ∧ (e.b.toNat : Int) ≠ 9)) with h1 | h1 | ⟨h1, h2⟩
      · have hgap : Hid (gap e = true) := by show gap e = true; rw [HG.out]; simp [h1]
        rw [h1] at kc
        clear HG h1
        cases d with
        | true =>
          go_wp2
          go_ret
          exact ⟨ret_int (by rw [hw.out, HD.out, wordW_stop _ _ hgap.out]; simp), hR⟩
        | false =>
          go_wp2
          go_roundg (gk - 1)
          case measure => omega
          case rel => exact ⟨j + 1, false, by omega, by go_num, rfl, by go_num, hR, by show wordR rr = _; rw [hw.out, HD.out, wordW_gap _ _ hgap.out]; omega⟩
      · have hgap : Hid (gap e = true) := by show gap e = true; rw [HG.out]; simp [h1]
        rw [h1] at kc
        clear HG h1
        cases d with
        | true =>
          go_wp2
          go_ret
          exact ⟨ret_int (by rw [hw.out, HD.out, wordW_stop _ _ hgap.out]; simp), hR⟩
        | false =>
          go_wp2
          go_roundg (gk - 1)
          case measure => omega
          case rel => exact ⟨j + 1, false, by omega, by go_num, rfl, by go_num, hR, by show wordR rr = _; rw [hw.out, HD.out, wordW_gap _ _ hgap.out]; omega⟩
      · have hgap : Hid (gap e = false) := by show gap e = false; rw [HG.out]; simp [h1, h2]
        have q1 : ((e.b.toNat : Int) == 32) = false := beq_eq_false_iff_ne.2 h1
        have q2 : ((e.b.toNat : Int) == 9) = false := beq_eq_false_iff_ne.2 h2
        clear HG h1 h2
        cases d with
        | true =>
          go_wp2
          go_roundg (gk - 1)
          case measure => omega
          case rel => exact ⟨j + 1, true, by omega, by go_num, rfl, by go_num, hR, by show wordR rr = _; rw [hw.out, HD.out, wordW_in _ _ _ hgap.out]; omega⟩
        | false =>
          go_wp2
          go_roundg (gk - 1)
          case measure => omega
          case rel => exact ⟨j + 1, true, by omega, by go_num, rfl, by go_num, hR, by show wordR rr = _; rw [hw.out, HD.out, wordW_in _ _ _ hgap.out]; omega⟩
    · obtain rfl : j = p := by omega
      have hR := hV.r
      have HT : Hid (wordR rr = j) := by show wordR rr = j; rw [hw.out, List.drop_eq_nil_of_le (by rw [HE.out]; exact Nat.le_refl _), wordW_nil]; rfl
      clear HR hw hV
      go_wp2
      go_ret
      exact ⟨ret_int (by rw [HT.out]), hR⟩
end
end Go.Proofs.YtfnglkhhmplejaaGreat
