/- Walks: the program: several bytes are laid down; what came in a wrong way; a signal; flow. -/
import Derived.Test.YtfnglkhhmplejaaGreatProg15
namespace Go.Clk
open Go
/-- Bytes are laid down, one after the other. -/
def plains (σ : St) (l : List UInt8) : St := l.foldl St.plain σ
/-- What came in a wrong way is laid down. -/
def layW (σ : St) (c : UInt8) : St := if σ.I 8 then ((σ.plain 255).plain 0).plain c else σ.plain 0
theorem plains_snoc (σ : St) (l : List UInt8) (c : UInt8) : plains σ (l ++ [c]) = (plains σ l).plain c := by simp [plains]
theorem Inv.plains {K : Int} {σ : St} (h : Inv K σ) (l : List UInt8) : Inv K (plains σ l) := by
  unfold Go.Clk.plains
  induction l generalizing σ with
  | nil => exact h
  | cons c r ih => exact ih (h.plain c)
end Go.Clk
namespace Go.Proofs.YtfnglkhhmplejaaGreat
open Go Go.RowKit Go.Clk

section
variable (S0 : List Nat) (w0 : World) (x : List Nat) (b : Nat) (σ : St) (w : World) (K : Int)

set_option maxHeartbeats 1000000 in
set_option maxRecDepth 100000 in
theorem layDown_any (h : AtP S0 w0 x b σ w) (ok : Inv K σ) (hK : K ≤ 1099511627776) (lv : Value) (l : List UInt8) (ol : Option Nat) (hL : Sl w 5 1 lv l.length (bys l) ol) (hx : ∀ g, ol = some g → g ∈ x) (hn : l.length ≤ 1000) :
    Calls Tryz.prog 53 #[.pointer (some ⟨b, 0, none⟩), lv] w fun e w' => e = .returned (.tuple #[]) ∧ AtP S0 w0 x b (plains σ l) w' := by
  obtain ⟨la, lcap, rfl, hl1, hl2⟩ := hL.shape
  obtain ⟨S, hR, hS1, hS2, _, hback⟩ := h.rebase
  have holS : ∀ g, ol = some g → g ∉ S := fun g e => hS2 g (hx g e)
  have HB : Hid (∀ σ' w', AtP S w x b σ' w' → AtP S0 w0 x b σ' w') := hback
  have HI : Hid (Inv K σ) := ok
  clear h hback ok hS1 hS2
  go_enter Tryz.func53, Tryz.ntmps53
  go_wp2_with fail
  go_loopg [8] l.length (fun k i wr => ∃ j : Nat, j + k = l.length ∧ i = .int .i64 j ∧ AtP S w x b (plains σ (l.take j)) wr)
  case atStart => exact ⟨0, by omega, rfl, hR⟩
  case round =>
    clear hR
    obtain ⟨j, hj, rfl, hRr⟩ := hrel
    have hLr := hL.kp hRr.kp holS
    by_cases hlt : j < l.length
    · obtain ⟨g, off, cp, he, _⟩ := hLr.addr (by omega)
      cases he
      have kc := (hLr.cells rfl j (u := .int .u8 (l[j].toNat : Int)) (by simp [bys, List.getElem?_eq_getElem hlt])).1
      have HT : Hid (plains σ (l.take (j + 1)) = (plains σ (l.take j)).plain l[j]) := by show plains σ (l.take (j + 1)) = _; rw [List.take_succ_eq_append_getElem hlt, plains_snoc]
      go_wp2_with fail
      refine (enter_any S w x b (plains σ (l.take j)) _ K hRr (HI.out.plains _) hK ⟨l[j], false, false, 0⟩ _ rfl).mono ?_
      rintro e W2 ⟨rfl, hW2⟩
      go_wp2
      go_roundg (gk - 1)
      case measure => omega
      case rel => exact ⟨j + 1, by omega, by go_num, by rw [HT.out]; exact hW2⟩
    · obtain rfl : j = l.length := by omega
      rw [List.take_length] at hRr
      go_wp2
      go_end0
      exact ⟨rfl, HB.out _ _ hRr⟩
/-- Bytes that lie in a new block are laid down. -/
theorem layDown_new (h : AtP S0 w0 x b σ w) (ok : Inv K σ) (hK : K ≤ 1099511627776) (l : List UInt8) (hn : l.length ≤ 1000) (cs : Array Value) (hcs : cs = (bys l).toArray) (n : Nat) (hl : n = l.length) :
    Calls Tryz.prog 53 #[.pointer (some ⟨b, 0, none⟩), .slice (some ⟨w.heap.size, 0, none⟩) n n] (w.alloc (.cells cs 5)) fun e w' => e = .returned (.tuple #[]) ∧ AtP S0 w0 x b (plains σ l) w' := by
  subst hcs hl
  refine (layDown_any S0 w0 (w.heap.size :: x) b σ _ K (h.boxed _) ok hK _ l (some w.heap.size) (Sl.made w (bys l) l.length 5 1 (bys_len l) (by unfold maxLen; omega)) (fun g e => by cases e; simp) hn).mono ?_
  rintro e w' ⟨rfl, h'⟩
  exact ⟨rfl, h'.weaken fun g hg => by simp [hg]⟩

set_option maxHeartbeats 1000000 in
set_option maxRecDepth 100000 in
theorem endLine_any (h : AtP S0 w0 x b σ w) (ok : Inv K σ) (hK : K ≤ 1099511627776) (c : UInt8) (n : Int) (hn : n = (c.toNat : Int)) :
    Calls Tryz.prog 114 #[.pointer (some ⟨b, 0, none⟩), .int .u8 n] w fun e w' => e = .returned (.tuple #[]) ∧ AtP S0 w0 x b (σ.lays ⟨c, true, false, 0⟩) w' := by
  subst hn
  go_enter Tryz.func114, Tryz.ntmps114
  go_wp2_with fail
  refine (enter_any S0 w0 x b σ _ K h ok hK ⟨c, true, false, 0⟩ _ rfl).mono ?_
  rintro e W2 ⟨rfl, hW2⟩
  go_wp2
  go_end0
  exact ⟨rfl, hW2⟩
set_option maxHeartbeats 1000000 in
set_option maxRecDepth 100000 in
theorem endFile_any (h : AtP S0 w0 x b σ w) (ok : Inv K σ) (hK : K ≤ 1099511627776) (n : Int) :
    Calls Tryz.prog 113 #[.pointer (some ⟨b, 0, none⟩), .int .u8 n] w fun e w' => e = .returned (.tuple #[]) ∧ AtP S0 w0 x b (σ.lays ⟨0, true, true, 0⟩) w' := by
  go_enter Tryz.func113, Tryz.ntmps113
  go_wp2_with fail
  refine (enter_any S0 w0 x b σ _ K h ok hK ⟨0, true, true, 0⟩ _ rfl).mono ?_
  rintro e W2 ⟨rfl, hW2⟩
  go_wp2
  go_end0
  exact ⟨rfl, hW2⟩
set_option maxHeartbeats 1000000 in
set_option maxRecDepth 100000 in
theorem layOne_any (h : AtP S0 w0 x b σ w) (ok : Inv K σ) (hK : K ≤ 1099511627776) (c : UInt8) (n : Int) (hn : n = (c.toNat : Int)) :
    Calls Tryz.prog 115 #[.pointer (some ⟨b, 0, none⟩), .int .u8 n] w fun e w' => e = .returned (.tuple #[]) ∧ AtP S0 w0 x b (σ.plain c) w' := by
  subst hn
  go_enter Tryz.func115, Tryz.ntmps115
  go_wp2_with fail
  refine (layDown_new S0 w0 x b σ _ K h ok hK [c] (by simp) _ rfl _ rfl).mono ?_
  rintro e W2 ⟨rfl, hW2⟩
  go_wp2
  go_end0
  exact ⟨rfl, hW2⟩
set_option maxHeartbeats 1000000 in
set_option maxRecDepth 100000 in
theorem layWrong_any (h : AtP S0 w0 x b σ w) (ok : Inv K σ) (hK : K ≤ 1099511627776) (c : UInt8) (n : Int) (hn : n = (c.toNat : Int)) :
    Calls Tryz.prog 56 #[.pointer (some ⟨b, 0, none⟩), .int .u8 n] w fun e w' => e = .returned (.tuple #[]) ∧ AtP S0 w0 x b (layW σ c) w' := by
  subst hn
  have k0 : w.cell? ⟨b, 0, none⟩ = some (.int .i64 σ.i) := by obtain ⟨vi, vu, vo, vs, hV⟩ := h; exact hV.ci
  have a8 := has8 σ.i ok.ok.i0 ok.ok.i1
  have HI : Hid (Inv K σ) := ok
  clear ok
  unfold layW St.I
  cases h8 : bit σ.i 8 with
  | true =>
    rw [h8] at a8
    rw [if_pos rfl]
    go_enter Tryz.func56, Tryz.ntmps56
    go_wp2_with (go_at_call 52; refine (Has_any _ _ _).mono ?_; rintro e w' ⟨rfl, rfl⟩)
    refine (layDown_new S0 w0 x b σ _ K h HI.out hK [255, 0, c] (by simp) _ rfl _ rfl).mono ?_
    rintro e W2 ⟨rfl, hW2⟩
    go_wp2
    go_end0
    exact ⟨rfl, hW2⟩
  | false =>
    rw [h8] at a8
    rw [if_neg (by decide)]
    go_enter Tryz.func56, Tryz.ntmps56
    go_wp2_with (go_at_call 52; refine (Has_any _ _ _).mono ?_; rintro e w' ⟨rfl, rfl⟩)
    refine (layDown_new S0 w0 x b σ _ K h HI.out hK [0] (by simp) _ rfl _ rfl).mono ?_
    rintro e W2 ⟨rfl, hW2⟩
    go_wp2
    go_end0
    exact ⟨rfl, hW2⟩
set_option maxHeartbeats 1000000 in
set_option maxRecDepth 100000 in
theorem wrongCame_any (h : AtP S0 w0 x b σ w) (ok : Inv K σ) (hK : K ≤ 1099511627776) (c : UInt8) :
    Calls Tryz.prog 33 #[.pointer (some ⟨b, 0, none⟩), .int .u8 c.toNat] w fun e w' => e = .returned (.tuple #[]) ∧ AtP S0 w0 x b (σ.wrong c) w' := by
  have k0 : w.cell? ⟨b, 0, none⟩ = some (.int .i64 σ.i) := by obtain ⟨vi, vu, vo, vs, hV⟩ := h; exact hV.ci
  have a4 := has4 σ.i ok.ok.i0 ok.ok.i1
  have HI : Hid (Inv K σ) := ok
  clear ok
  have e0 : σ.wrong c = if σ.I 4 then σ else layW σ c := rfl
  rw [e0]
  clear e0
  cases h4 : bit σ.i 4 with
  | true =>
    rw [h4] at a4
    rw [if_pos (by exact h4)]
    go_enter Tryz.func33, Tryz.ntmps33
    go_wp2_with (go_at_call 52; refine (Has_any _ _ _).mono ?_; rintro e w' ⟨rfl, rfl⟩)
    go_end0
    exact ⟨rfl, h⟩
  | false =>
    rw [h4] at a4
    rw [if_neg (by show ¬ bit σ.i 4 = true; rw [h4]; decide)]
    go_enter Tryz.func33, Tryz.ntmps33
    go_wp2_with (go_at_call 52; refine (Has_any _ _ _).mono ?_; rintro e w' ⟨rfl, rfl⟩)
    refine (layWrong_any S0 w0 x b σ _ K h HI.out hK c _ rfl).mono ?_
    rintro e W2 ⟨rfl, hW2⟩
    go_wp2
    go_end0
    exact ⟨rfl, hW2⟩
set_option maxHeartbeats 1000000 in
set_option maxRecDepth 100000 in
theorem qClear_any (h : AtP S0 w0 x b σ w) :
    Calls Tryz.prog 49 #[.pointer (some ⟨b, 17, none⟩)] w fun e w' => e = .returned (.tuple #[]) ∧ AtP S0 w0 x b { σ with inq := [] } w' := by
  obtain ⟨vi, vu, vo, vs, hV⟩ := h
  have k := hV.c_in
  have f := hV.frozen 17
  go_enter Tryz.func49, Tryz.ntmps49
  go_wp2
  go_end0
  exact ⟨rfl, hV.nil_in.r⟩
set_option maxHeartbeats 1000000 in
set_option maxRecDepth 100000 in
theorem oClear_any (h : AtP S0 w0 x b σ w) :
    Calls Tryz.prog 96 #[.pointer (some ⟨b, 18, none⟩)] w fun e w' => e = .returned (.tuple #[]) ∧ AtP S0 w0 x b { σ with out := [] } w' := by
  obtain ⟨vi, vu, vo, vs, hV⟩ := h
  have k := hV.c_out
  have f := hV.frozen 19
  go_enter Tryz.func96, Tryz.ntmps96
  go_wp2
  go_end0
  exact ⟨rfl, hV.nil_out.r⟩
set_option maxHeartbeats 1000000 in
set_option maxRecDepth 100000 in
theorem SetStopped_any (h : AtP S0 w0 x b σ w) (v : Bool) :
    Calls Tryz.prog 97 #[.pointer (some ⟨b, 18, none⟩), .bool v] w fun e w' => e = .returned (.tuple #[]) ∧ AtP S0 w0 x b { σ with stopped := v } w' := by
  obtain ⟨vi, vu, vo, vs, hV⟩ := h
  have k := hV.c_stopped
  have f := hV.frozen 21
  go_enter Tryz.func97, Tryz.ntmps97
  go_wp2
  go_end0
  exact ⟨rfl, (hV.s_stopped v).r⟩
set_option maxHeartbeats 1000000 in
set_option maxRecDepth 100000 in
theorem goOn_any (h : AtP S0 w0 x b σ w) (n : Int) :
    Calls Tryz.prog 78 #[.pointer (some ⟨b, 0, none⟩), .int .u8 n] w fun e w' => e = .returned (.tuple #[]) ∧ AtP S0 w0 x b { σ with stopped := false } w' := by
  go_enter Tryz.func78, Tryz.ntmps78
  go_wp2_with fail
  refine (SetStopped_any S0 w0 x b σ _ h false).mono ?_
  rintro e W2 ⟨rfl, hW2⟩
  go_wp2
  go_end0
  exact ⟨rfl, hW2⟩
set_option maxHeartbeats 1000000 in
set_option maxRecDepth 100000 in
theorem stop_any (h : AtP S0 w0 x b σ w) (n : Int) :
    Calls Tryz.prog 106 #[.pointer (some ⟨b, 0, none⟩), .int .u8 n] w fun e w' => e = .returned (.tuple #[]) ∧ AtP S0 w0 x b { σ with stopped := true } w' := by
  go_enter Tryz.func106, Tryz.ntmps106
  go_wp2_with fail
  refine (SetStopped_any S0 w0 x b σ _ h true).mono ?_
  rintro e W2 ⟨rfl, hW2⟩
  go_wp2
  go_end0
  exact ⟨rfl, hW2⟩

set_option maxHeartbeats 1000000 in
set_option maxRecDepth 100000 in
theorem emptyBoth_any (h : AtP S0 w0 x b σ w) :
    Calls Tryz.prog 81 #[.pointer (some ⟨b, 0, none⟩)] w fun e w' => e = .returned (.tuple #[]) ∧ AtP S0 w0 x b { σ with inq := [], out := [] } w' := by
  go_enter Tryz.func81, Tryz.ntmps81
  go_wp2_with fail
  refine (qClear_any S0 w0 x b _ _ h).mono ?_
  rintro e W2 ⟨rfl, hW2⟩
  go_wp2_with fail
  refine (oClear_any S0 w0 x b _ _ hW2).mono ?_
  rintro e W3 ⟨rfl, hW3⟩
  go_wp2
  go_end0
  exact ⟨rfl, hW3⟩

set_option maxHeartbeats 1000000 in
set_option maxRecDepth 100000 in
theorem signal_any (h : AtP S0 w0 x b σ w) (ok : Inv K σ) (hK : K ≤ 1099511627776) (n : Int) :
    Calls Tryz.prog 57 #[.pointer (some ⟨b, 0, none⟩), .int .i64 n] w fun e w' => e = .returned (.tuple #[]) ∧ AtP S0 w0 x b (σ.raise n) w' := by
  obtain ⟨i0, hi, hz0, hz1, hz2⟩ := info_parts info_int
  obtain ⟨vi, vu, vo, vs, hV⟩ := h
  have a256 := has256 σ.l ok.ok.l0 ok.ok.l1
  have hu := ok.noted
  have hlt := hV.lt
  have h' := hV.alloc (.cells #[.int .i64 n] 3)
  obtain ⟨oo, hs, hob, _, hput⟩ := h'.lens_sig
  obtain ⟨a, cap, rfl, hl1, hl2⟩ := hs.shape
  have k24 := hV.c_sig
  have f24 := hV.frozen 26
  clear ok
  have HR : Hid (σ.raise n = if bit σ.l 256 then { σ with noted := σ.noted ++ [n] } else { σ with noted := σ.noted ++ [n], inq := [], out := [], quoted := false }) := rfl
  go_enter Tryz.func57, Tryz.ntmps57
  go_wp2_with (at_builtin; refine wpList_append_sl rfl (.tmp 8) (.tmp 10) 55 55 rfl hs rfl i0 (.int .i64 0) 8 Tryz.underlying55 hi hz0 hz1 hz2 rfl (.slice (some ⟨w.heap.size, 0, none⟩) 1 1) 1 [.int .i64 n] rfl ?src ?b1 ?b2 ?next)
  case src => exact (Sl.made w [.int .i64 n] 1 3 1 rfl (by simp [maxLen])).src Tryz.underlying55 (by intro u hu; simp at hu; subst hu; rfl)
  case b1 => unfold maxLen; omega
  case b2 => omega
  case next =>
    intro a' cap' w1 oz hs1 hg1 ho1
    obtain ⟨q2, q3, hW⟩ := hput w1 (.slice a' (σ.noted.length + 1) cap') (σ.noted ++ [n]) oz hg1 (by simpa [i64s_app, i64s] using hs1) (by rcases ho1 with h1 | ⟨h1, _⟩; exact .inr (.inl h1); exact .inr (.inr ⟨_, h1, by simp⟩))
    clear hput hs hs1 hg1 ho1 h' hV k24 f24
    have HW2 : (w1.setCell ⟨b, 26, none⟩ (.slice a' (σ.noted.length + 1) cap')).cell? ⟨b, 2, none⟩ = some (.int .i64 σ.l) := hW.cl
    have hWr := hW.r
    clear hW
    cases hq : bit σ.l 256 with
    | true =>
      have HT : Hid (σ.raise n = { σ with noted := σ.noted ++ [n] }) := by show σ.raise n = _; rw [HR.out, if_pos hq]
      rw [hq] at a256
      clear HR
      go_wp2_with (go_at_call 52; refine (Has_any _ _ _).mono ?_; rintro e w' ⟨rfl, hw⟩; subst hw)
      go_end0
      exact ⟨rfl, by rw [HT.out]; exact hWr⟩
    | false =>
      have HT : Hid (σ.raise n = { σ with noted := σ.noted ++ [n], inq := [], out := [], quoted := false }) := by show σ.raise n = _; rw [HR.out, if_neg (by rw [hq]; decide)]
      rw [hq] at a256
      clear HR
      go_wp2_with (go_at_call 52; refine (Has_any _ _ _).mono ?_; rintro e w' ⟨rfl, hw⟩; subst hw)
      refine (emptyBoth_any S0 w0 x b _ _ hWr).mono ?_
      rintro e W3 ⟨rfl, ⟨vi, vu, vo, vs, hW3⟩⟩
      have k23 := hW3.c_quo
      have f23 := hW3.frozen 28
      have hE := (hW3.s_quo false).r
      go_wp2
      go_end0
      exact ⟨rfl, by rw [HT.out]; exact hE⟩
end
end Go.Proofs.YtfnglkhhmplejaaGreat
