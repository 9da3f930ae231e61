/- Walks: the program: what a read asks. -/
import Derived.Test.YtfnglkhhmplejaaGreatP16
import Derived.Test.YtfnglkhhmplejaaGreatBase2
namespace Go.Proofs.YtfnglkhhmplejaaGreat
open Go Go.RowKit Go.Clk

section
variable (S0 : List Nat) (w0 : World) (x : List Nat) (b : Nat) (σ : St) (w : World) (K : Int)

set_option maxHeartbeats 400000 in
theorem isThere_any (n : Int) (h : w.cell? ⟨b, 22, none⟩ = some (.int .i64 n)) :
    Calls Tryz.prog 48 #[.pointer (some ⟨b, 22, none⟩)] w fun e w' => e = .returned (.bool (decide (0 < n))) ∧ w = w' := by
  go_enter Tryz.func48, Tryz.ntmps48
  go_wp2
  go_ret
  exact ⟨rfl, rfl⟩
set_option maxHeartbeats 400000 in
theorem readsLines_any (h : w.cell? ⟨b, 2, none⟩ = some (.int .i64 σ.l)) (l0 : 0 ≤ σ.l) (l1 : σ.l < 8192) :
    Calls Tryz.prog 83 #[.pointer (some ⟨b, 0, none⟩)] w fun e w' => e = .returned (.bool (σ.L 2)) ∧ w = w' := by
  have a2 := has2 σ.l l0 l1
  go_enter Tryz.func83, Tryz.ntmps83
  go_wp2_with (go_at_call 52; refine (Has_any _ _ _).mono ?_; rintro e w' ⟨rfl, hw⟩; subst hw)
  go_ret
  exact ⟨rfl, rfl⟩
set_option maxHeartbeats 400000 in
theorem ptickr_any (h : AtP S0 w0 x b σ w) (hw0 : 0 ≤ σ.wait) (hw1 : σ.wait ≤ 1099511627776) :
    Calls Tryz.prog 95 #[.pointer (some ⟨b, 22, none⟩)] w fun e w' => e = .returned (.tuple #[]) ∧ AtP S0 w0 x b { σ with wait := min (σ.wait + 1) 255 } w' := by
  obtain ⟨vi, vu, vo, vs, hV⟩ := h
  have k := hV.c_wait
  have f := hV.frozen 23
  have hW := (hV.s_wait (min (σ.wait + 1) 255)).r
  clear hV
  by_cases hc : σ.wait + 1 ≤ 255
  · have e1 : min (σ.wait + 1) 255 = σ.wait + 1 := by omega
    rw [e1] at hW ⊢
    clear e1
    go_enter Tryz.func95, Tryz.ntmps95
    go_wp2
    all_goals first | (exfalso; omega) | go_end0
    all_goals exact ⟨rfl, hW⟩
  · have e1 : min (σ.wait + 1) 255 = 255 := by omega
    rw [e1] at hW ⊢
    clear e1
    go_enter Tryz.func95, Tryz.ntmps95
    go_wp2
    all_goals first | (exfalso; omega) | go_end0
    all_goals exact ⟨rfl, hW⟩
set_option maxHeartbeats 400000 in
theorem firstFin_any (e : Ent) : Calls Tryz.prog 143 #[.agg #[.int .u8 e.b.toNat, .bool e.file, .bool e.fin, .int .i64 e.cells]] w fun r w' => r = .returned (.bool e.fin) ∧ w.grownBy w' none := by
  go_enter Tryz.func143, Tryz.ntmps143
  go_wp2
  go_ret
  exact ⟨rfl, ⟨rfl, rfl, rfl, by simp, fun k hk _ => Below.heap_alloc w _ k hk⟩⟩
set_option maxHeartbeats 1000000 in
set_option maxRecDepth 100000 in
theorem IndexFunc_any (v : Value) (l : List Ent) (o : Option Nat) (hs : Sl w 112 4 v l.length (pents l) o) (hl : l.length ≤ 256) :
    Calls Tryz.prog 142 #[v, .func (.func 143) #[] #[]] w fun e w' => e = .returned (.int .i64 ((fline l : Int) - 1)) ∧ w.grownBy w' none := by
  obtain ⟨ai, ci, rfl, hl1, hl2⟩ := hs.shape
  go_enter Tryz.func142, Tryz.ntmps142
  go_wp2_with fail
  go_loopg [5, 8] l.length (fun k _ jv wr => ∃ (j : Nat), j + k = l.length ∧ jv = .int .i64 j ∧ w.grownBy wr none ∧ Hid (∀ q, (h : q < l.length) → q < j → l[q].fin = false))
  case atStart => exact ⟨0, by omega, rfl, grownBy_refl w none, fun q _ h => by omega⟩
  case round =>
    obtain ⟨j, hj, rfl, hg, hN⟩ := hrel
    by_cases hlt : j < l.length
    · have hs2 : Sl wr 112 4 (.slice ai l.length ci) l.length (pents l) o := hs.same fun g e => hg.block g (hs.lt e) (by simp)
      obtain ⟨ug, uoff, uc, he, rfl⟩ := hs2.addr (by omega)
      cases he
      obtain ⟨en, hen⟩ : ∃ en, l[j] = en := ⟨_, rfl⟩
      have zb := (hs2.cells rfl (j * 4 + 0) (u := .int .u8 (en.b.toNat : Int)) (by rw [pents_get l j hlt 0 (by omega), hen]; rfl)).1
      have zf := (hs2.cells rfl (j * 4 + 1) (u := .bool en.file) (by rw [pents_get l j hlt 1 (by omega), hen]; rfl)).1
      have ze := (hs2.cells rfl (j * 4 + 2) (u := .bool en.fin) (by rw [pents_get l j hlt 2 (by omega), hen]; rfl)).1
      have zc := (hs2.cells rfl (j * 4 + 3) (u := .int .i64 en.cells) (by rw [pents_get l j hlt 3 (by omega), hen]; rfl)).1
      simp only [← Nat.add_assoc, Nat.add_zero] at zb zf ze zc
      clear hs2
      have HE : Hid (l[j] = en) := hen
      clear hen
      cases hfin : en.fin with
      | true =>
        rw [hfin] at ze
        have HF : Hid (fline l = j + 1) := fline_at l j hlt (fun k hk hkj => hN.out k hk hkj) (by rw [HE.out, hfin])
        have HFf : Hid (Calls Tryz.prog 143 #[.agg #[.int .u8 en.b.toNat, .bool en.file, .bool true, .int .i64 en.cells]] wr fun r w' => r = .returned (.bool true) ∧ wr.grownBy w' none) := by
          have := firstFin_any wr en; rw [hfin] at this; exact this
        clear hN HE hfin
        go_wp2_with (go_at_call 143; refine HFf.out.mono ?_; rintro r W ⟨rfl, hgW⟩)
        go_ret
        exact ⟨ret_int (by rw [HF.out]; omega), grownBy_then hg hgW (by simp)⟩
      | false =>
        rw [hfin] at ze
        have HN2 : Hid (∀ q, (h : q < l.length) → q < j + 1 → l[q].fin = false) := fun q hq hqj => by
          by_cases e : q = j
          · subst e; rw [HE.out, hfin]
          · exact hN.out q hq (by omega)
        have HFf : Hid (Calls Tryz.prog 143 #[.agg #[.int .u8 en.b.toNat, .bool en.file, .bool false, .int .i64 en.cells]] wr fun r w' => r = .returned (.bool false) ∧ wr.grownBy w' none) := by
          have := firstFin_any wr en; rw [hfin] at this; exact this
        clear hN HE hfin
        go_wp2_with (go_at_call 143; refine HFf.out.mono ?_; rintro r W ⟨rfl, hgW⟩)
        go_roundg (gk - 1)
        case measure => omega
        case rel => exact ⟨j + 1, by omega, by go_num, grownBy_then hg hgW (by simp), HN2⟩
    · obtain rfl : j = l.length := by omega
      have HF : Hid (fline l = 0) := fline_none l fun k hk => hN.out k hk hk
      clear hN
      go_wp2
      go_ret
      exact ⟨ret_int (by rw [HF.out]; rfl), hg⟩

set_option maxHeartbeats 400000 in
theorem FirstLine_any (v : Value) (l : List Ent) (o : Option Nat) (hs : Sl w 112 4 v l.length (pents l) o) (hl : l.length ≤ 256) :
    Calls Tryz.prog 116 #[v] w fun e w' => e = .returned (.int .i64 (fline l : Int)) ∧ w.grownBy w' none := by
  have hfl := fline_le l
  obtain ⟨ai, ci, rfl, hl1, hl2⟩ := hs.shape
  have HS : Hid (Sl w 112 4 (.slice ai l.length ci) l.length (pents l) o) := hs
  clear hs
  go_enter Tryz.func116, Tryz.ntmps116
  go_wp2_with (go_at_call 142; refine (IndexFunc_any _ _ l o HS.out hl).mono ?_; rintro r W ⟨rfl, hgW⟩)
  go_ret
  exact ⟨ret_int (by omega), hgW⟩
end
end Go.Proofs.YtfnglkhhmplejaaGreat
