/- Walks: the program: several bytes are laid down; what came in a wrong way; a signal; flow. -/
import Derived.Test.YtfnglkhhmplejaaGreatProg15
import Derived.Deep.QuietTactic
import Derived.Deep.RegionWith
import Derived.Test.YtfnglkhhmplejaaGreatBase2
namespace Go.Clk
open Go
/-- Bytes are laid down, one after the other. -/
def plains (σ : St) (l : List UInt8) : St := l.foldl St.plain σ
/-- What came in a wrong way is laid down. -/
def layW (σ : St) (c : UInt8) : St := if σ.I 8 then ((σ.plain 255).plain 0).plain c else σ.plain 0
theorem plains_snoc (σ : St) (l : List UInt8) (c : UInt8) : plains σ (l ++ [c]) = (plains σ l).plain c := by simp [plains]
theorem Inv.plains {K : Int} {σ : St} (h : Inv K σ) (l : List UInt8) : Inv K (plains σ l) := by
  unfold Go.Clk.plains
  induction l generalizing σ with
  | nil => exact h
  | cons c r ih => exact ih (h.plain c)
end Go.Clk
namespace Go.Proofs.YtfnglkhhmplejaaGreat
open Go Go.RowKit Go.Clk

section
variable (S0 : List Nat) (w0 : World) (x : List Nat) (b : Nat) (σ : St) (w : World) (K : Int)

set_option maxHeartbeats 1000000 in
set_option maxRecDepth 100000 in
theorem layDown_any (h : AtP S0 w0 x b σ w) (ok : Inv K σ) (hK : K ≤ 1099511627776) (lv : Value) (l : List UInt8) (ol : Option Nat) (hL : Sl w 5 1 lv l.length (bys l) ol) (hx : ∀ g, ol = some g → g ∈ x) (hn : l.length ≤ 1000) :
    Calls Tryz.prog 53 #[.pointer (some ⟨b, 0, none⟩), lv] w fun e w' => e = .returned (.tuple #[]) ∧ AtP S0 w0 x b (plains σ l) w' := by
  obtain ⟨la, lcap, rfl, hl1, hl2⟩ := hL.shape
  obtain ⟨S, hR, hS1, hS2, _, hback⟩ := h.rebase
  have holS : ∀ g, ol = some g → g ∉ S := fun g e => hS2 g (hx g e)
  have HB : Hid (∀ σ' w', AtP S w x b σ' w' → AtP S0 w0 x b σ' w') := hback
  have HI : Hid (Inv K σ) := ok
  clear h hback ok hS1 hS2
  go_enter Tryz.func53, Tryz.ntmps53
  go_wp2_with fail
  go_loopg [8] l.length (fun k i wr => ∃ j : Nat, j + k = l.length ∧ i = .int .i64 j ∧ AtP S w x b (plains σ (l.take j)) wr)
  case atStart => exact ⟨0, by omega, rfl, hR⟩
  case round =>
    clear hR
    obtain ⟨j, hj, rfl, hRr⟩ := hrel
    have hLr := hL.kp hRr.kp holS
    by_cases hlt : j < l.length
    · obtain ⟨g, off, cp, he, _⟩ := hLr.addr (by omega)
      cases he
      have kc := (hLr.cells rfl j (u := .int .u8 (l[j].toNat : Int)) (by simp [bys, List.getElem?_eq_getElem hlt])).1
      have HT : Hid (plains σ (l.take (j + 1)) = (plains σ (l.take j)).plain l[j]) := by show plains σ (l.take (j + 1)) = _; rw [List.take_succ_eq_append_getElem hlt, plains_snoc]
      go_wp2_with fail
      refine (enter_any S w x b (plains σ (l.take j)) _ K hRr (HI.out.plains _) hK ⟨l[j], false, false, 0⟩ _ rfl).mono ?_
      rintro e W2 ⟨rfl, hW2⟩
      go_wp2
      go_roundg (gk - 1)
      case measure => omega
      case rel => exact ⟨j + 1, by omega, by go_num, by rw [HT.out]; exact hW2⟩
    · obtain rfl : j = l.length := by omega
      rw [List.take_length] at hRr
      go_wp2
      go_end0
      exact ⟨rfl, HB.out _ _ hRr⟩
/-- Bytes that lie in a new block are laid down. -/
theorem layDown_new (h : AtP S0 w0 x b σ w) (ok : Inv K σ) (hK : K ≤ 1099511627776) (l : List UInt8) (hn : l.length ≤ 1000) (cs : Array Value) (hcs : cs = (bys l).toArray) (n : Nat) (hl : n = l.length) :
    Calls Tryz.prog 53 #[.pointer (some ⟨b, 0, none⟩), .slice (some ⟨w.heap.size, 0, none⟩) n n] (w.alloc (.cells cs 5)) fun e w' => e = .returned (.tuple #[]) ∧ AtP S0 w0 x b (plains σ l) w' := by
  subst hcs hl
  refine (layDown_any S0 w0 (w.heap.size :: x) b σ _ K (h.boxed _) ok hK _ l (some w.heap.size) (Sl.made w (bys l) l.length 5 1 (bys_len l) (by unfold maxLen; omega)) (fun g e => by cases e; simp) hn).mono ?_
  rintro e w' ⟨rfl, h'⟩
  exact ⟨rfl, h'.weaken fun g hg => by simp [hg]⟩

set_option maxHeartbeats 1000000 in
set_option maxRecDepth 100000 in
theorem endLine_any (h : AtP S0 w0 x b σ w) (ok : Inv K σ) (hK : K ≤ 1099511627776) (c : UInt8) (n : Int) (hn : n = (c.toNat : Int)) :
    Calls Tryz.prog 114 #[.pointer (some ⟨b, 0, none⟩), .int .u8 n] w fun e w' => e = .returned (.tuple #[]) ∧ AtP S0 w0 x b (σ.lays ⟨c, true, false, 0⟩) w' := by
  subst hn
  go_enter Tryz.func114, Tryz.ntmps114
  go_wp2_with fail
  refine (enter_any S0 w0 x b σ _ K h ok hK ⟨c, true, false, 0⟩ _ rfl).mono ?_
  rintro e W2 ⟨rfl, hW2⟩
  go_wp2
  go_end0
  exact ⟨rfl, hW2⟩
set_option maxHeartbeats 1000000 in
set_option maxRecDepth 100000 in
theorem endFile_any (h : AtP S0 w0 x b σ w) (ok : Inv K σ) (hK : K ≤ 1099511627776) (n : Int) :
    Calls Tryz.prog 113 #[.pointer (some ⟨b, 0, none⟩), .int .u8 n] w fun e w' => e = .returned (.tuple #[]) ∧ AtP S0 w0 x b (σ.lays ⟨0, true, true, 0⟩) w' := by
  go_enter Tryz.func113, Tryz.ntmps113
  go_wp2_with fail
  refine (enter_any S0 w0 x b σ _ K h ok hK ⟨0, true, true, 0⟩ _ rfl).mono ?_
  rintro e W2 ⟨rfl, hW2⟩
  go_wp2
  go_end0
  exact ⟨rfl, hW2⟩
set_option maxHeartbeats 1000000 in
set_option maxRecDepth 100000 in
theorem layOne_any (h : AtP S0 w0 x b σ w) (ok : Inv K σ) (hK : K ≤ 1099511627776) (c : UInt8) (n : Int) (hn : n = (c.toNat : Int)) :
    Calls Tryz.prog 115 #[.pointer (some ⟨b, 0, none⟩), .int .u8 n] w fun e w' => e = .returned (.tuple #[]) ∧ AtP S0 w0 x b (σ.plain c) w' := by
  subst hn
  go_enter Tryz.func115, Tryz.ntmps115
  go_wp2_with fail
  refine (layDown_new S0 w0 x b σ _ K h ok hK [c] (by simp) _ rfl _ rfl).mono ?_
  rintro e W2 ⟨rfl, hW2⟩
  go_wp2
  go_end0
  exact ⟨rfl, hW2⟩
set_option maxHeartbeats 1000000 in
set_option maxRecDepth 100000 in
theorem layWrong_any (h : AtP S0 w0 x b σ w) (ok : Inv K σ) (hK : K ≤ 1099511627776) (c : UInt8) (n : Int) (hn : n = (c.toNat : Int)) :
    Calls Tryz.prog 56 #[.pointer (some ⟨b, 0, none⟩), .int .u8 n] w fun e w' => e = .returned (.tuple #[]) ∧ AtP S0 w0 x b (layW σ c) w' := by
  subst hn
  have k0 : w.cell? ⟨b, 0, none⟩ = some (.int .i64 σ.i) := by obtain ⟨vi, vu, vo, vs, hV⟩ := h; exact hV.ci
  have a8 := has8 σ.i ok.ok.i0 ok.ok.i1
  have HI : Hid (Inv K σ) := ok
  clear ok
  unfold layW St.I
  cases h8 : bit σ.i 8 with
  | true =>
    rw [h8] at a8
    rw [if_pos rfl]
    go_enter Tryz.func56, Tryz.ntmps56
    go_wp2_with (go_at_call 52; refine (Has_any _ _ _).mono ?_; rintro e w' ⟨rfl, rfl⟩)
    refine (layDown_new S0 w0 x b σ _ K h HI.out hK [255, 0, c] (by simp) _ rfl _ rfl).mono ?_
    rintro e W2 ⟨rfl, hW2⟩
    go_wp2
    go_end0
    exact ⟨rfl, hW2⟩
  | false =>
    rw [h8] at a8
    rw [if_neg (by decide)]
    go_enter Tryz.func56, Tryz.ntmps56
    go_wp2_with (go_at_call 52; refine (Has_any _ _ _).mono ?_; rintro e w' ⟨rfl, rfl⟩)
    refine (layDown_new S0 w0 x b σ _ K h HI.out hK [0] (by simp) _ rfl _ rfl).mono ?_
    rintro e W2 ⟨rfl, hW2⟩
    go_wp2
    go_end0
    exact ⟨rfl, hW2⟩
set_option maxHeartbeats 1000000 in
set_option maxRecDepth 100000 in
theorem wrongCame_any (h : AtP S0 w0 x b σ w) (ok : Inv K σ) (hK : K ≤ 1099511627776) (c : UInt8) :
    Calls Tryz.prog 33 #[.pointer (some ⟨b, 0, none⟩), .int .u8 c.toNat] w fun e w' => e = .returned (.tuple #[]) ∧ AtP S0 w0 x b (σ.wrong c) w' := by
  have k0 : w.cell? ⟨b, 0, none⟩ = some (.int .i64 σ.i) := by obtain ⟨vi, vu, vo, vs, hV⟩ := h; exact hV.ci
  have a4 := has4 σ.i ok.ok.i0 ok.ok.i1
  have HI : Hid (Inv K σ) := ok
  clear ok
  have e0 : σ.wrong c = if σ.I 4 then σ else layW σ c := rfl
  rw [e0]
  clear e0
  cases h4 : bit σ.i 4 with
  | true =>
    rw [h4] at a4
    rw [if_pos (by exact h4)]
    go_enter Tryz.func33, Tryz.ntmps33
    go_wp2_with (go_at_call 52; refine (Has_any _ _ _).mono ?_; rintro e w' ⟨rfl, rfl⟩)
    go_end0
    exact ⟨rfl, h⟩
  | false =>
    rw [h4] at a4
    rw [if_neg (by show ¬ bit σ.i 4 = true; rw [h4]; decide)]
    go_enter Tryz.func33, Tryz.ntmps33
    go_wp2_with (go_at_call 52; refine (Has_any _ _ _).mono ?_; rintro e w' ⟨rfl, rfl⟩)
    refine (layWrong_any S0 w0 x b σ _ K h HI.out hK c _ rfl).mono ?_
    rintro e W2 ⟨rfl, hW2⟩
    go_wp2
    go_end0
    exact ⟨rfl, hW2⟩
set_option maxHeartbeats 1000000 in
set_option maxRecDepth 100000 in
theorem qClear_any (h : AtP S0 w0 x b σ w) :
    Calls Tryz.prog 49 #[.pointer (some ⟨b, 17, none⟩)] w fun e w' => e = .returned (.tuple #[]) ∧ AtP S0 w0 x b { σ with inq := [] } w' := by
  obtain ⟨vi, vu, vo, vs, hV⟩ := h
  have k := hV.c_in
  have f := hV.frozen 17
  go_enter Tryz.func49, Tryz.ntmps49
  go_wp2
  go_end0
  exact ⟨rfl, hV.nil_in.r⟩
set_option maxHeartbeats 1000000 in
set_option maxRecDepth 100000 in
theorem oClear_any (h : AtP S0 w0 x b σ w) :
    Calls Tryz.prog 96 #[.pointer (some ⟨b, 18, none⟩)] w fun e w' => e = .returned (.tuple #[]) ∧ AtP S0 w0 x b { σ with out := [] } w' := by
  obtain ⟨vi, vu, vo, vs, hV⟩ := h
  have k := hV.c_out
  have f := hV.frozen 19
  go_enter Tryz.func96, Tryz.ntmps96
  go_wp2
  go_end0
  exact ⟨rfl, hV.nil_out.r⟩
set_option maxHeartbeats 1000000 in
set_option maxRecDepth 100000 in
theorem SetStopped_any (h : AtP S0 w0 x b σ w) (v : Bool) :
    Calls Tryz.prog 97 #[.pointer (some ⟨b, 18, none⟩), .bool v] w fun e w' => e = .returned (.tuple #[]) ∧ AtP S0 w0 x b { σ with stopped := v } w' := by
  obtain ⟨vi, vu, vo, vs, hV⟩ := h
  have k := hV.c_stopped
  have f := hV.frozen 21
  go_enter Tryz.func97, Tryz.ntmps97
  go_wp2
  go_end0
  exact ⟨rfl, (hV.s_stopped v).r⟩
set_option maxHeartbeats 1000000 in
set_option maxRecDepth 100000 in
theorem goOn_any (h : AtP S0 w0 x b σ w) (n : Int) :
    Calls Tryz.prog 78 #[.pointer (some ⟨b, 0, none⟩), .int .u8 n] w fun e w' => e = .returned (.tuple #[]) ∧ AtP S0 w0 x b { σ with stopped := false } w' := by
  go_enter Tryz.func78, Tryz.ntmps78
  go_wp2_with fail
  refine (SetStopped_any S0 w0 x b σ _ h false).mono ?_
  rintro e W2 ⟨rfl, hW2⟩
  go_wp2
  go_end0
  exact ⟨rfl, hW2⟩
set_option maxHeartbeats 1000000 in
set_option maxRecDepth 100000 in
theorem stop_any (h : AtP S0 w0 x b σ w) (n : Int) :
    Calls Tryz.prog 106 #[.pointer (some ⟨b, 0, none⟩), .int .u8 n] w fun e w' => e = .returned (.tuple #[]) ∧ AtP S0 w0 x b { σ with stopped := true } w' := by
  go_enter Tryz.func106, Tryz.ntmps106
  go_wp2_with fail
  refine (SetStopped_any S0 w0 x b σ _ h true).mono ?_
  rintro e W2 ⟨rfl, hW2⟩
  go_wp2
  go_end0
  exact ⟨rfl, hW2⟩

set_option maxHeartbeats 1000000 in
set_option maxRecDepth 100000 in
theorem emptyBoth_any (h : AtP S0 w0 x b σ w) :
    Calls Tryz.prog 81 #[.pointer (some ⟨b, 0, none⟩)] w fun e w' => e = .returned (.tuple #[]) ∧ AtP S0 w0 x b { σ with inq := [], out := [] } w' := by
  go_enter Tryz.func81, Tryz.ntmps81
  go_wp2_with fail
  refine (qClear_any S0 w0 x b _ _ h).mono ?_
  rintro e W2 ⟨rfl, hW2⟩
  go_wp2_with fail
  refine (oClear_any S0 w0 x b _ _ hW2).mono ?_
  rintro e W3 ⟨rfl, hW3⟩
  go_wp2
  go_end0
  exact ⟨rfl, hW3⟩

set_option maxHeartbeats 1000000 in
set_option maxRecDepth 100000 in
theorem signal_any (h : AtP S0 w0 x b σ w) (ok : Inv K σ) (hK : K ≤ 1099511627776) (n : Int) :
    Calls Tryz.prog 57 #[.pointer (some ⟨b, 0, none⟩), .int .i64 n] w fun e w' => e = .returned (.tuple #[]) ∧ AtP S0 w0 x b (σ.raise n) w' := by
  obtain ⟨i0, hi, hz0, hz1, hz2⟩ := info_parts info_int
  obtain ⟨vi, vu, vo, vs, hV⟩ := h
  have a256 := has256 σ.l ok.ok.l0 ok.ok.l1
  have hu := ok.noted
  have hlt := hV.lt
  have h' := hV.alloc (.cells #[.int .i64 n] 3)
  obtain ⟨oo, hs, hob, _, hput⟩ := h'.lens_sig
  obtain ⟨a, cap, rfl, hl1, hl2⟩ := hs.shape
  have k24 := hV.c_sig
  have f24 := hV.frozen 26
  clear ok
  have HR : Hid (σ.raise n = if bit σ.l 256 then { σ with noted := σ.noted ++ [n] } else { σ with noted := σ.noted ++ [n], inq := [], out := [], quoted := false }) := rfl
  go_enter Tryz.func57, Tryz.ntmps57
  go_wp2_with (at_builtin; refine wpList_append_sl rfl (.tmp 8) (.tmp 10) 55 55 rfl hs rfl i0 (.int .i64 0) 8 Tryz.underlying55 hi hz0 hz1 hz2 rfl (.slice (some ⟨w.heap.size, 0, none⟩) 1 1) 1 [.int .i64 n] rfl ?src ?b1 ?b2 ?next)
  case src => exact (Sl.made w [.int .i64 n] 1 3 1 rfl (by simp [maxLen])).src Tryz.underlying55 (by intro u hu; simp at hu; subst hu; rfl)
  case b1 => unfold maxLen; omega
  case b2 => omega
  case next =>
    intro a' cap' w1 oz hs1 hg1 ho1
    obtain ⟨q2, q3, hW⟩ := hput w1 (.slice a' (σ.noted.length + 1) cap') (σ.noted ++ [n]) oz hg1 (by simpa [i64s_app, i64s] using hs1) (by rcases ho1 with h1 | ⟨h1, _⟩; exact .inr (.inl h1); exact .inr (.inr ⟨_, h1, by simp⟩))
    clear hput hs hs1 hg1 ho1 h' hV k24 f24
    have HW2 : (w1.setCell ⟨b, 26, none⟩ (.slice a' (σ.noted.length + 1) cap')).cell? ⟨b, 2, none⟩ = some (.int .i64 σ.l) := hW.cl
    have hWr := hW.r
    clear hW
    cases hq : bit σ.l 256 with
    | true =>
      have HT : Hid (σ.raise n = { σ with noted := σ.noted ++ [n] }) := by show σ.raise n = _; rw [HR.out, if_pos hq]
      rw [hq] at a256
      clear HR
      go_wp2_with (go_at_call 52; refine (Has_any _ _ _).mono ?_; rintro e w' ⟨rfl, hw⟩; subst hw)
      go_end0
      exact ⟨rfl, by rw [HT.out]; exact hWr⟩
    | false =>
      have HT : Hid (σ.raise n = { σ with noted := σ.noted ++ [n], inq := [], out := [], quoted := false }) := by show σ.raise n = _; rw [HR.out, if_neg (by rw [hq]; decide)]
      rw [hq] at a256
      clear HR
      go_wp2_with (go_at_call 52; refine (Has_any _ _ _).mono ?_; rintro e w' ⟨rfl, hw⟩; subst hw)
      refine (emptyBoth_any S0 w0 x b _ _ hWr).mono ?_
      rintro e W3 ⟨rfl, ⟨vi, vu, vo, vs, hW3⟩⟩
      have k23 := hW3.c_quo
      have f23 := hW3.frozen 28
      have hE := (hW3.s_quo false).r
      go_wp2
      go_end0
      exact ⟨rfl, by rw [HT.out]; exact hE⟩
end
end Go.Proofs.YtfnglkhhmplejaaGreat
namespace Go.Proofs.YtfnglkhhmplejaaGreat
open Go Go.RowKit Go.Clk

section
variable (S0 : List Nat) (w0 : World) (x : List Nat) (b : Nat) (σ : St) (w : World) (K : Int)

set_option maxHeartbeats 1000000 in
set_option maxRecDepth 100000 in
theorem Pending_any (v : Value) (l : List Ent) (o : Option Nat) (hs : Sl w 112 4 v l.length (pents l) o) (hl : l.length ≤ 256) :
    Calls Tryz.prog 138 #[v] w fun e w' => w' = w ∧ ∃ a cap, e = .returned (.slice a (pend l) cap) ∧ Sl w 112 4 (.slice a (pend l) cap) (pend l) (pents (l.drop (l.length - pend l))) o := by
  obtain ⟨t0, hti, htz0, htz1, htz2⟩ := info_parts info_pent
  obtain ⟨ai, ci, rfl, hl1, hl2⟩ := hs.shape
  have hpl := pend_le l
  have HP : Hid (∀ (j q : Nat) (h : q < l.length), j < pend l → q + 1 + j = l.length → l[q].fin = false) := fun j q _ hj hq => pend_in l j q hj hq
  have HQ : Hid (∀ (q : Nat) (h : q < l.length), q + 1 + pend l = l.length → l[q].fin = true) := fun q _ hq => pend_end l q hq
  obtain ⟨p, hp⟩ : ∃ p, pend l = p := ⟨_, rfl⟩
  rw [hp] at hpl HP HQ ⊢
  have HS : Hid (Sl w 112 4 (.slice ai l.length ci) l.length (pents l) o) := hs
  clear hp
  go_enter Tryz.func138, Tryz.ntmps138
  go_wp2_with fail
  go_loopg [3] p (fun k fv wr => ∃ (f j : Nat), f + j = l.length ∧ j + k = p ∧ fv = .int .i64 f ∧ wr = w)
  case atStart => exact ⟨l.length, 0, by omega, by omega, rfl, rfl⟩
  case round =>
    obtain ⟨f, j, hf, hj, rfl, rfl⟩ := hrel
    have fin : ∀ q : Nat, q + p = l.length → ∀ a' cap', Sl wr 112 4 (.slice a' (l.length - q) cap') (l.length - q) ((pents l).drop (q * 4)) o → Sl wr 112 4 (.slice a' p cap') p (pents (l.drop (l.length - p))) o := by
      intro q hq a' cap' h
      have e1 : l.length - q = p := by omega
      have e2 : l.length - p = q := by omega
      rw [e1] at h
      rw [e2, pents_drop]; exact h
    have HFin : Hid (∀ q : Nat, q + p = l.length → ∀ a' cap', Sl wr 112 4 (.slice a' (l.length - q) cap') (l.length - q) ((pents l).drop (q * 4)) o → Sl wr 112 4 (.slice a' p cap') p (pents (l.drop (l.length - p))) o) := fin
    clear fin
    by_cases hz : 0 < f
    · obtain ⟨q, rfl⟩ : ∃ q, f = q + 1 := ⟨f - 1, by omega⟩
      have hql : q < l.length := by omega
      obtain ⟨ug, uoff, uc, he, rfl⟩ := hs.addr (by omega)
      cases he
      have kc := (hs.cells rfl (q * 4 + 2) (u := .bool l[q].fin) (by rw [pents_get l q hql 2 (by omega)]; rfl)).1
      simp only [← Nat.add_assoc] at kc
      by_cases hjp : j < p
      · rw [HP.out j q hql hjp (by omega)] at kc
        clear HP HQ
        go_wp2
        go_roundg (gk - 1)
        case measure => omega
        case rel => exact ⟨q, j + 1, by omega, by omega, by go_num, rfl⟩
      · obtain rfl : j = p := by omega
        rw [HQ.out q hql (by omega)] at kc
        clear HP HQ
        go_wp2_with (refine wpList_cut rfl (.tmp 19) (.tmp 20) 69 rfl t0 Tryz.underlying69 hti htz1 rfl HS.out ((q + 1 : Nat) : Int) (by first | rfl | simp [Act.eval]) (by omega) (by omega) ?_)
        intro a2 cap2 hs2
        have hfin := HFin.out (q + 1) (by omega) a2 cap2 (by simpa using hs2)
        clear hs2 HFin
        go_wp2
        go_ret
        exact ⟨rfl, a2, cap2, by rw [show j = l.length - (q + 1) by omega]; rfl, hfin⟩
    · obtain rfl : f = 0 := by omega
      obtain rfl : j = p := by omega
      clear HP HQ
      go_wp2_with (refine wpList_cut rfl (.tmp 19) (.tmp 20) 69 rfl t0 Tryz.underlying69 hti htz1 rfl HS.out 0 (by first | rfl | simp [Act.eval]) (by omega) (by omega) ?_)
      intro a2 cap2 hs2
      have hfin := HFin.out 0 (by omega) a2 cap2 (by simpa using hs2)
      clear hs2 HFin
      go_wp2
      go_ret
      exact ⟨rfl, a2, cap2, by rw [show j = l.length by omega]; rfl, hfin⟩
end
end Go.Proofs.YtfnglkhhmplejaaGreat
namespace Go.Proofs.YtfnglkhhmplejaaGreat
open Go Go.RowKit Go.Clk

def QV (S0 : List Nat) (w0 : World) (x : List Nat) (b : Nat) (σ : St) (ci vi vu vo vs : Value) (w : World) : Prop :=
  σ.ss.length = 17 ∧ AtO S0 w0 x b 76 (i64s σ.ss ++ ptl σ ci vu vo vs) (pfs σ vi vu vo vs) w
/-- The cell of the input queue holds ci, and its field vi. -/
def AtQ (S0 : List Nat) (w0 : World) (x : List Nat) (b : Nat) (σ : St) (ci vi : Value) (w : World) : Prop := ∃ vu vo vs, QV S0 w0 x b σ ci vi vu vo vs w
section
variable {S0 : List Nat} {w0 w : World} {x : List Nat} {b : Nat} {σ : St} {ci vi vu vo vs : Value}
theorem QV.r (h : QV S0 w0 x b σ ci vi vu vo vs w) : AtQ S0 w0 x b σ ci vi w := ⟨vu, vo, vs, h⟩
theorem QV.co (h : QV S0 w0 x b σ ci vi vu vo vs w) : w.cell? ⟨b, 1, none⟩ = some (.int .i64 σ.o) := cell_head h.2 h.1 1 (by omega)
theorem QV.cl (h : QV S0 w0 x b σ ci vi vu vo vs w) : w.cell? ⟨b, 2, none⟩ = some (.int .i64 σ.l) := cell_head h.2 h.1 2 (by omega)
theorem QV.c_col (h : QV S0 w0 x b σ ci vi vu vo vs w) : w.cell? ⟨b, 20, none⟩ = some (.int .i64 σ.col) := cell_tail h.2 h.1 3 rfl
theorem QV.c_out (h : QV S0 w0 x b σ ci vi vu vo vs w) : w.cell? ⟨b, 19, none⟩ = some vo := cell_tail h.2 h.1 2 rfl
theorem QV.frozen (h : QV S0 w0 x b σ ci vi vu vo vs w) (i : Nat) : w.frozen? ⟨b, i, none⟩ = false := h.2.frozen i
theorem QV.drew (h : QV S0 w0 x b σ ci vi vu vo vs w) : QV S0 w0 x b σ ci vi vu vo vs w.drew := ⟨h.1, h.2.drew⟩
theorem QV.s_col (h : QV S0 w0 x b σ ci vi vu vo vs w) (v : Int) : QV S0 w0 x b { σ with col := v } ci vi vu vo vs (w.setCell ⟨b, 20, none⟩ (.int .i64 v)) := ⟨h.1, set_tail h.2 h.1 3 _⟩
theorem QV.same {w1 : World} (h : QV S0 w0 x b σ ci vi vu vo vs w) (hg : w.grownBy w1 none) : QV S0 w0 x b σ ci vi vu vo vs w1 :=
  ⟨h.1, h.2.same (h.2.kp.grown hg fun k e => by cases e) hg.size fun k hk _ => hg.block k hk (by simp)⟩
theorem QV.lens_out (h : QV S0 w0 x b σ ci vi vu vo vs w) : ∃ o, Sl w 5 1 vo σ.out.length (bys σ.out) o ∧ o ≠ some b ∧ (∀ g, o = some g → g ∉ x) ∧
    ∀ (w1 : World) (v' : Value) (xs : List UInt8) (o' : Option Nat), w.grownBy w1 o → Sl w1 5 1 v' xs.length (bys xs) o' → (o' = none ∨ o' = o ∨ ∃ g, o' = some g ∧ w.heap.size ≤ g) →
      w1.cell? ⟨b, 19, none⟩ = some vo ∧ w1.frozen? ⟨b, 19, none⟩ = false ∧ QV S0 w0 x b { σ with out := xs } ci vi vu v' vs (w1.setCell ⟨b, 19, none⟩ v') := by
  obtain ⟨o, h1, h2, h3, _, h5⟩ := h.2.lens 2 rfl
  refine ⟨o, h1, h2, h3, fun w1 v' xs o' hg hs ho => ?_⟩
  have := h5 w1 ⟨_, 1, v', xs.length, bys xs⟩ o' hg hs ho
  exact ⟨cell_tail this h.1 2 rfl, this.frozen _, h.1, set_tail this h.1 2 v'⟩
theorem AtQ.kp (h : AtQ S0 w0 x b σ ci vi w) : Kp S0 w0 w := by obtain ⟨vu, vo, vs, hl, h⟩ := h; exact h.kp
theorem AtQ.drew (h : AtQ S0 w0 x b σ ci vi w) : AtQ S0 w0 x b σ ci vi w.drew := by obtain ⟨vu, vo, vs, h⟩ := h; exact ⟨vu, vo, vs, h.drew⟩
theorem AtQ.rebase (h : AtQ S0 w0 x b σ ci vi w) : ∃ S, AtQ S w x b σ ci vi w ∧ (∀ k, k ∈ S → k < w.heap.size) ∧ (∀ g, g ∈ x → g ∉ S) ∧ (∀ k, k ∈ S → k ∈ S0 ∨ w0.heap.size ≤ k) ∧ ∀ σ' w', AtQ S w x b σ' ci vi w' → AtQ S0 w0 x b σ' ci vi w' := by
  obtain ⟨vu, vo, vs, hl, h⟩ := h
  obtain ⟨S, h1, h2, h3, h4, h5⟩ := h.rebase
  exact ⟨S, ⟨vu, vo, vs, hl, h1⟩, h2, h3, h4, fun σ' w' ⟨vu', vo', vs', hl', h'⟩ => ⟨vu', vo', vs', hl', h5 _ _ _ h'⟩⟩
theorem AtQ.same {w1 : World} (h : AtQ S0 w0 x b σ ci vi w) (hg : w.grownBy w1 none) : AtQ S0 w0 x b σ ci vi w1 := by obtain ⟨vu, vo, vs, h⟩ := h; exact ⟨vu, vo, vs, h.same hg⟩
/-- The queue is whole again. -/
theorem AtQ.back {o : Option Nat} {l : List Ent} (h : AtQ S0 w0 (o.toList ++ x) b { σ with inq := [] } ci (.slice none 0 0) w) (hs : Sl w 112 4 ci l.length (pents l) o) (ho : ∀ g, o = some g → g ≠ b ∧ g ∉ x ∧ (g ∈ S0 ∨ w0.heap.size ≤ g)) : AtP S0 w0 x b { σ with inq := l } w := by
  obtain ⟨vu, vo, vs, hl, h⟩ := h
  have := h.adopt 0 (by simp [pfs]) ⟨_, 4, ci, l.length, pents l⟩ o x hs (fun g e => ⟨by simp [e], (ho g e).2.2, (ho g e).2.1⟩) (fun z hz => by simp [hz])
  exact ⟨ci, vu, vo, vs, hl, this⟩
end

section
variable (S0 : List Nat) (w0 : World) (x : List Nat) (b : Nat) (σ : St) (w : World) (K : Int)

set_option maxHeartbeats 1000000 in
set_option maxRecDepth 100000 in
theorem RubOut_any (h : AtP S0 w0 x b σ w) (hil : σ.inq.length ≤ 256) (n : Nat) (hn : n ≤ σ.inq.length) (ni : Int) (hni : ni = (n : Int)) :
    Calls Tryz.prog 139 #[.pointer (some ⟨b, 17, none⟩), .int .i64 ni] w fun e w' => ∃ a cap vf o, e = .returned (.slice a n cap) ∧ AtQ S0 w0 (o.toList ++ x) b { σ with inq := [] } vf (.slice none 0 0) w' ∧
      Sl w' 112 4 vf (σ.inq.take (σ.inq.length - n)).length (pents (σ.inq.take (σ.inq.length - n))) o ∧ Sl w' 112 4 (.slice a n cap) n (pents (σ.inq.drop (σ.inq.length - n))) o ∧ (∀ g, o = some g → g ≠ b ∧ g ∉ x ∧ (g ∈ S0 ∨ w0.heap.size ≤ g)) := by
  subst hni
  obtain ⟨t0, hti, htz0, htz1, htz2⟩ := info_parts info_pent
  obtain ⟨vi, vu, vo, vs, hV⟩ := h
  have k := hV.c_in
  have f := hV.frozen 17
  obtain ⟨oi, hs0, hgo, hG⟩ := hV.2.give 0 rfl
  have hs : Sl w 112 4 vi σ.inq.length (pents σ.inq) oi := hs0
  obtain ⟨ai, ci, rfl, hl1, hl2⟩ := hs.shape
  obtain ⟨m, hm⟩ : ∃ m, m + n = σ.inq.length := ⟨σ.inq.length - n, by omega⟩
  have hmi : (σ.inq.length : Int) - (n : Int) = (m : Int) := by omega
  have HS : Hid (Sl w 112 4 (.slice ai σ.inq.length ci) σ.inq.length (pents σ.inq) oi) := hs
  have HQ : Hid (∀ v, AtQ S0 w0 (oi.toList ++ x) b { σ with inq := [] } v (.slice none 0 0) (w.setCell ⟨b, 17, none⟩ v)) := fun v => ⟨vu, vo, vs, hV.1, set_tail hG hV.1 0 v⟩
  clear hs hs0 hV hG
  go_enter Tryz.func139, Tryz.ntmps139
  go_wp2_with (refine wpList_cut rfl (.tmp 15) (.tmp 16) 69 rfl t0 Tryz.underlying69 hti htz1 rfl HS.out (m : Int) (by first | rfl | simp [Act.eval]) (by omega) (by omega) ?_)
  intro a2 cap2 hs2
  go_wp2_with (refine wpList_front rfl (.tmp 21) (.tmp 22) 69 rfl t0 Tryz.underlying69 hti rfl HS.out (m : Int) (by first | rfl | simp [Act.eval]) (by omega) (by omega) ?_)
  intro hs3
  have hq := HQ.out (.slice ai m ci)
  have e1 : σ.inq.length - m = n := by omega
  have e2 : σ.inq.length - n = m := by omega
  have hA : Sl (w.setCell ⟨b, 17, none⟩ (.slice ai m ci)) 112 4 (.slice ai m ci) (σ.inq.take (σ.inq.length - n)).length (pents (σ.inq.take (σ.inq.length - n))) oi := by
    rw [e2, pents_take, List.length_take, Nat.min_eq_left (by omega)]
    exact (by simpa using hs3 : Sl w _ 4 _ m _ oi).set _ _ fun g e => (hgo g e).1
  have hB : Sl (w.setCell ⟨b, 17, none⟩ (.slice ai m ci)) 112 4 (.slice a2 n cap2) n (pents (σ.inq.drop (σ.inq.length - n))) oi := by
    rw [e2, pents_drop]
    have h5 : Sl w 112 4 (.slice a2 (σ.inq.length - m) cap2) (σ.inq.length - m) ((pents σ.inq).drop (m * 4)) oi := by simpa using hs2
    rw [e1] at h5
    exact h5.set _ _ fun g e => (hgo g e).1
  clear hs2 hs3 HQ HS
  go_wp2
  go_ret
  exact ⟨a2, cap2, _, oi, by first | rfl | (rw [e1]; rfl), hq, hA, hB, hgo⟩
end
end Go.Proofs.YtfnglkhhmplejaaGreat
namespace Go.Clk
open Go
theorem gap_beq (e : Ent) : gap e = (((e.b.toNat : Int) == 32) || ((e.b.toNat : Int) == 9)) := rfl
theorem wordW_turn (e : Ent) (l : List Ent) (h : gap e = false) : wordW false (e :: l) = wordW true (e :: l) := by rw [wordW_in _ _ _ h, wordW_in _ _ _ h]
theorem wordW_le (d : Bool) (l : List Ent) : wordW d l ≤ l.length := by
  induction l generalizing d with
  | nil => rw [wordW_nil]; exact Nat.zero_le _
  | cons e l ih =>
    cases hg : gap e with
    | true =>
      cases d with
      | true => rw [wordW_stop _ _ hg]; exact Nat.zero_le _
      | false => rw [wordW_gap _ _ hg]; have := ih false; simp; omega
    | false => rw [wordW_in _ _ _ hg]; have := ih true; simp; omega
theorem grownBy_alloc {w w1 : World} (h : w.grownBy w1 none) (ob : Obj) : w.grownBy (w1.alloc ob) none :=
  grownBy_then h (⟨rfl, rfl, rfl, by simp, fun k hk _ => Go.RowKit.Below.heap_alloc w1 ob k hk⟩ : w1.grownBy (w1.alloc ob) none) (by simp)
end Go.Clk
namespace Go.Proofs.YtfnglkhhmplejaaGreat
open Go Go.RowKit Go.Clk

section
variable (S0 : List Nat) (w0 : World) (x : List Nat) (b : Nat) (σ : St) (w : World) (K : Int)

set_option maxHeartbeats 1000000 in
set_option maxRecDepth 100000 in
theorem IsGap_any (e : Ent) :
    Calls Tryz.prog 156 #[.agg #[.int .u8 e.b.toNat, .bool e.file, .bool e.fin, .int .i64 e.cells]] w fun r w' => r = .returned (.bool (gap e)) ∧ w' = w.alloc (.cells #[.int .u8 e.b.toNat, .bool e.file, .bool e.fin, .int .i64 e.cells] 112) := by
  have HG : Hid (gap e = (((e.b.toNat : Int) == 32) || ((e.b.toNat : Int) == 9))) := rfl
  cases h32 : ((e.b.toNat : Int) == 32) with
  | true =>
    go_enter Tryz.func156, Tryz.ntmps156
    go_wp2
    go_ret
    exact ⟨ret_bool (by rw [HG.out, h32]; rfl), rfl⟩
  | false =>
    go_enter Tryz.func156, Tryz.ntmps156
    go_wp2
    go_ret
    exact ⟨ret_bool (by rw [HG.out, h32]; rfl), rfl⟩

set_option maxHeartbeats 1000000 in
set_option maxRecDepth 100000 in
theorem LastWord_any (v : Value) (l : List Ent) (o : Option Nat) (hs : Sl w 112 4 v l.length (pents l) o) (hl : l.length ≤ 256) :
    Calls Tryz.prog 141 #[v] w fun r w' => r = .returned (.int .i64 (wordR (l.reverse.take (pend l)) : Nat)) ∧ w.grownBy w' none := by
  have hpl := pend_le l
  obtain ⟨rr, hrr⟩ : ∃ rr, l.reverse.take (pend l) = rr := ⟨_, rfl⟩
  have HR : Hid (∀ j q : Nat, j < pend l → ∀ hq : q + 1 + j = pend l, ∃ hh : q < (l.drop (l.length - pend l)).length, rr.drop j = (l.drop (l.length - pend l))[q] :: rr.drop (j + 1)) := fun j q hj hq => by
    refine ⟨by simp; omega, ?_⟩
    rw [← hrr, back_drop l (pend l) j (l.length - pend l + q) hpl hj (by omega)]
    congr 1
    rw [List.getElem_drop]
  have HE : Hid (rr.length = pend l) := by show rr.length = pend l; rw [← hrr]; simp; omega
  rw [hrr]
  clear hrr
  have hC := Pending_any w v l o hs hl
  have hLl : (l.drop (l.length - pend l)).length = pend l := by simp; omega
  generalize l.drop (l.length - pend l) = L at *
  generalize pend l = p at *
  subst hLl
  go_enter Tryz.func141, Tryz.ntmps141
  go_wp2_with (go_at_call 138; refine hC.mono ?_; rintro e w' ⟨hw, a, cap, rfl, hL⟩; have hw := hw.symm; subst hw; clear hC)
  have hg0 := grownBy_refl w none
  clear hs
  go_wp2_with fail
  go_loopg [4] L.length (fun k n wr => ∃ (f j : Nat), f + j = L.length ∧ j + k = L.length ∧ n = .int .i64 f ∧ Hid (Sl wr 112 4 (.slice a L.length cap) L.length (pents L) o) ∧ Hid (w.grownBy wr none) ∧ Hid (wordR rr = j + wordW false (rr.drop j)))
  case atStart => exact ⟨L.length, 0, by omega, by omega, rfl, hL, hg0, by show wordR rr = 0 + wordW false (rr.drop 0); simp [wordW]⟩
  case round =>
    clear hL hg0
    obtain ⟨f, j, hf, hj, rfl, hS, hg, hw⟩ := hrel
    by_cases hz : 0 < f
    · obtain ⟨q, rfl⟩ : ∃ q, f = q + 1 := ⟨f - 1, by omega⟩
      have hql : q < L.length := by omega
      obtain ⟨_, hD⟩ := HR.out j q (by omega) (by omega)
      have HD : Hid (rr.drop j = L[q] :: rr.drop (j + 1)) := hD
      clear hD
      have hS1 := hS.out
      obtain ⟨ug, uoff, uc, he, rfl⟩ := hS1.addr (by omega)
      cases he
      have kc0 := (hS1.cells rfl (q * 4 + 0) (u := .int .u8 L[q].b.toNat) (by rw [pents_get L q hql 0 (by omega)]; rfl)).1
      have kc1 := (hS1.cells rfl (q * 4 + 1) (u := .bool L[q].file) (by rw [pents_get L q hql 1 (by omega)]; rfl)).1
      have kc2 := (hS1.cells rfl (q * 4 + 2) (u := .bool L[q].fin) (by rw [pents_get L q hql 2 (by omega)]; rfl)).1
      have kc3 := (hS1.cells rfl (q * 4 + 3) (u := .int .i64 L[q].cells) (by rw [pents_get L q hql 3 (by omega)]; rfl)).1
      simp only [← Nat.add_assoc, Nat.add_zero] at kc0 kc1 kc2 kc3
      clear hS1
      generalize hLq : L[q] = e at kc0 kc1 kc2 kc3 HD
      clear hLq
      have hC := IsGap_any wr e
      have hS2 : Hid (Sl (wr.alloc (.cells #[.int .u8 e.b.toNat, .bool e.file, .bool e.fin, .int .i64 e.cells] 112)) 112 4 (.slice (some ⟨ug, uoff, none⟩) L.length cap) L.length (pents L) (some ug)) := hS.out.alloc _
      have hg2 : Hid (w.grownBy (wr.alloc (.cells #[.int .u8 e.b.toNat, .bool e.file, .bool e.fin, .int .i64 e.cells] 112)) none) := grownBy_alloc hg.out _
      clear hS hg
      cases hgap : gap e with
      | true =>
        rw [hgap] at hC
        have HW : Hid (wordR rr = j + 1 + wordW false (rr.drop (j + 1))) := by show _ = _; rw [hw.out, HD.out, wordW_gap _ _ hgap]; omega
        clear hw HD hgap
        go_wp2_with (go_at_call 156; refine hC.mono ?_; rintro r w' ⟨rfl, rfl⟩; clear hC)
        go_roundg (gk - 1)
        case measure => omega
        case rel => exact ⟨q, j + 1, by omega, by omega, by go_num, hS2, hg2, HW⟩
      | false =>
        rw [hgap] at hC
        have hw1 : Hid (wordR rr = j + wordW true (rr.drop j)) := by show _ = _; rw [hw.out, HD.out, wordW_turn _ _ hgap]
        clear hw HD hgap
        go_wp2_with (go_at_call 156; refine hC.mono ?_; rintro r w' ⟨rfl, rfl⟩; clear hC)
        go_wp2_with fail
        go_loopg [4] (q + 1) (fun k n wr => ∃ (f j : Nat), f + j = L.length ∧ j + k = L.length ∧ n = .int .i64 f ∧ Hid (Sl wr 112 4 (.slice (some ⟨ug, uoff, none⟩) L.length cap) L.length (pents L) (some ug)) ∧ Hid (w.grownBy wr none) ∧ Hid (wordR rr = j + wordW true (rr.drop j)))
        case atStart => exact ⟨q + 1, j, hf, by omega, by go_num, hS2, hg2, hw1⟩
        case round =>
          clear hS2 hg2 hw1 hj hf hz kc0 kc1 kc2 kc3
          clear hql
          obtain ⟨f, j, hf, hj, rfl, hS, hg, hw⟩ := hrel
          by_cases hz : 0 < f
          · obtain ⟨q, rfl⟩ : ∃ q, f = q + 1 := ⟨f - 1, by omega⟩
            have hql : q < L.length := by omega
            obtain ⟨_, hD⟩ := HR.out j q (by omega) (by omega)
            have HD : Hid (rr.drop j = L[q] :: rr.drop (j + 1)) := hD
            clear hD
            have hS1 := hS.out
            have kc0 := (hS1.cells rfl (q * 4 + 0) (u := .int .u8 L[q].b.toNat) (by rw [pents_get L q hql 0 (by omega)]; rfl)).1
            have kc1 := (hS1.cells rfl (q * 4 + 1) (u := .bool L[q].file) (by rw [pents_get L q hql 1 (by omega)]; rfl)).1
            have kc2 := (hS1.cells rfl (q * 4 + 2) (u := .bool L[q].fin) (by rw [pents_get L q hql 2 (by omega)]; rfl)).1
            have kc3 := (hS1.cells rfl (q * 4 + 3) (u := .int .i64 L[q].cells) (by rw [pents_get L q hql 3 (by omega)]; rfl)).1
            simp only [← Nat.add_assoc, Nat.add_zero] at kc0 kc1 kc2 kc3
            clear hS1 HR
            generalize L[q] = e at *
            have hC := IsGap_any wr e
            have hS2 : Hid (Sl (wr.alloc (.cells #[.int .u8 e.b.toNat, .bool e.file, .bool e.fin, .int .i64 e.cells] 112)) 112 4 (.slice (some ⟨ug, uoff, none⟩) L.length cap) L.length (pents L) (some ug)) := hS.out.alloc _
            have hg2 : Hid (w.grownBy (wr.alloc (.cells #[.int .u8 e.b.toNat, .bool e.file, .bool e.fin, .int .i64 e.cells] 112)) none) := grownBy_alloc hg.out _
            clear hS hg
            cases hgap : gap e with
            | false =>
              rw [hgap] at hC
              have HW : Hid (wordR rr = j + 1 + wordW true (rr.drop (j + 1))) := by show _ = _; rw [hw.out, HD.out, wordW_in _ _ _ hgap]; omega
              clear hw HD hgap
              go_wp2_with (go_at_call 156; refine hC.mono ?_; rintro r w' ⟨rfl, rfl⟩; clear hC)
              go_roundg (gk - 1)
              case measure => omega
              case rel => exact ⟨q, j + 1, by omega, by omega, by go_num, hS2, hg2, HW⟩
            | true =>
              rw [hgap] at hC
              have HW : Hid (wordR rr = j) := by show _ = _; rw [hw.out, HD.out, wordW_stop _ _ hgap]; omega
              clear hw HD hgap
              go_wp2_with (go_at_call 156; refine hC.mono ?_; rintro r w' ⟨rfl, rfl⟩; clear hC)
              go_ret
              exact ⟨ret_int (by rw [HW.out]; omega), hg2.out⟩
          · obtain rfl : f = 0 := by omega
            obtain rfl : j = L.length := by omega
            have HW : Hid (wordR rr = L.length) := by show _ = _; rw [hw.out, List.drop_eq_nil_of_le (by rw [HE.out]; exact Nat.le_refl _), wordW_nil]; rfl
            clear HR hw
            go_wp2
            go_ret
            exact ⟨ret_int (by rw [HW.out]), hg.out⟩
    · obtain rfl : f = 0 := by omega
      obtain rfl : j = L.length := by omega
      have HW : Hid (wordR rr = L.length) := by show _ = _; rw [hw.out, List.drop_eq_nil_of_le (by rw [HE.out]; exact Nat.le_refl _), wordW_nil]; rfl
      clear HR hw
      go_wp2_with fail
      go_loopg [4] 0 (fun k n wr' => n = .int .i64 0 ∧ wr' = wr)
      case atStart => exact ⟨by go_num, rfl⟩
      case round =>
        obtain ⟨rfl, rfl⟩ := hrel
        go_wp2
        go_ret
        exact ⟨ret_int (by rw [HW.out]), hg.out⟩
end
end Go.Proofs.YtfnglkhhmplejaaGreat
