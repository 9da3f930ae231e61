/- Walks: the program: what a byte means: does a row fit? -/
import Derived.Test.YtfnglkhhmplejaaGreatP34
import Derived.BigQuiet
import Derived.Deep.QuietTactic
namespace Go.Clk
open Go
/-- Is a byte the character at a place? -/
def atB (σ : St) (c : UInt8) (p : Int) : Bool := if p = 14 then (c.toNat : Int) == 10 else if p = 15 then true else ((c.toNat : Int) != 0) && ((c.toNat : Int) == σ.ch p.toNat)
end Go.Clk
namespace Go.Proofs.YtfnglkhhmplejaaGreat
open Go Go.RowKit Go.Clk
def fitB (σ : St) (c : UInt8) (i l p : Int) : Bool := hasB σ.i i && (hasB σ.l l && atB σ c p)
section
variable (S0 : List Nat) (w0 : World) (x : List Nat) (b : Nat) (σ : St) (w : World) (K : Int)

set_option maxHeartbeats 1000000 in
set_option maxRecDepth 100000 in
theorem isAt_any (c : UInt8) (p : Int) (p0 : 0 ≤ p) (p1 : p ≤ 15) (hc : ∀ k, k < 17 → w.cell? ⟨b, k, none⟩ = some (.int .i64 (gt σ.ss k))) :
    Calls Tryz.prog 135 #[.pointer (some ⟨b, 0, none⟩), .int .u8 c.toNat, .int .i64 p] w fun e w' => e = .returned (.bool (atB σ c p)) ∧ w' = w := by
  by_cases h14 : p = 14
  · subst h14
    have HA : Hid (atB σ c 14 = ((c.toNat : Int) == 10)) := rfl
    go_enter Tryz.func135, Tryz.ntmps135
    go_wp2
    go_ret
    exact ⟨ret_bool (by rw [HA.out]), rfl⟩
  · by_cases h15 : p = 15
    · subst h15
      have HA : Hid (atB σ c 15 = true) := rfl
      go_enter Tryz.func135, Tryz.ntmps135
      go_wp2
      go_ret
      exact ⟨ret_bool (by rw [HA.out]), rfl⟩
    · obtain ⟨k, rfl⟩ : ∃ k : Nat, p = (k : Int) := ⟨p.toNat, by omega⟩
      have hk : k < 14 := by omega
      have HA : Hid (atB σ c (k : Int) = (((c.toNat : Int) != 0) && ((c.toNat : Int) == σ.ch k))) := by show atB σ c (k : Int) = _; unfold atB; rw [if_neg h14, if_neg h15]; simp
      have kc : w.cell? ⟨b, 3 + k, none⟩ = some (.int .i64 (σ.ch k)) := hc (3 + k) (by omega)
      have e14 : ((k : Int) == 14) = false := by simpa using h14
      have e15 : ((k : Int) == 15) = false := by simpa using h15
      have hki : (k : Int) < 14 := by omega
      have hwr : wrap64 ((c.toNat : Nat) : Int) = (c.toNat : Int) := by
        have hlt := c.toNat_lt
        unfold wrap64; omega
      clear hc
      cases hz : ((c.toNat : Int) != 0) with
      | false =>
        go_enter Tryz.func135, Tryz.ntmps135
        go_wp2
        go_ret
        exact ⟨ret_bool (by rw [HA.out, hz]; rfl), rfl⟩
      | true =>
        go_enter Tryz.func135, Tryz.ntmps135
        go_wp2
        go_ret
        exact ⟨ret_bool (by rw [HA.out, hz]; rfl), rfl⟩

set_option maxHeartbeats 1000000 in
set_option maxRecDepth 100000 in
theorem fits_any (c : UInt8) (i l p : Int) (fv : Value) (p0 : 0 ≤ p) (p1 : p ≤ 15) (hb : b < w.heap.size) (hc : ∀ k, k < 17 → w.cell? ⟨b, k, none⟩ = some (.int .i64 (gt σ.ss k))) :
    Calls Tryz.prog 105 #[.pointer (some ⟨b, 0, none⟩), .int .u8 c.toNat, .agg #[.int .i64 i, .int .i64 l, .int .i64 p, fv]] w fun e w' => e = .returned (.bool (fitB σ c i l p)) ∧ w.grownBy w' none := by
  have k0 : w.cell? ⟨b, 0, none⟩ = some (.int .i64 σ.i) := hc 0 (by omega)
  have k2 : w.cell? ⟨b, 2, none⟩ = some (.int .i64 σ.l) := hc 2 (by omega)
  have HFB : Hid (fitB σ c i l p = (hasB σ.i i && (hasB σ.l l && atB σ c p))) := rfl
  have hg : ∀ k, w.grownBy ((w.alloc (.cells #[.int .i64 i, .int .i64 l, .int .i64 p, fv] 127)).drewN k) none := fun k => ⟨rfl, rfl, rfl, by simp [World.drewN], fun j hj _ => Below.heap_alloc w _ j hj⟩
  have HIA : Hid (∀ q (k : Nat), atB σ c p = q → Calls Tryz.prog 135 #[.pointer (some ⟨b, 0, none⟩), .int .u8 c.toNat, .int .i64 p] ((w.alloc (.cells #[.int .i64 i, .int .i64 l, .int .i64 p, fv] 127)).drewN k) fun e w' => e = .returned (.bool q) ∧ w' = ((w.alloc (.cells #[.int .i64 i, .int .i64 l, .int .i64 p, fv] 127)).drewN k)) := by
    rintro q k rfl
    refine isAt_any b σ _ c p p0 p1 fun j hj => ?_
    exact (World.cell?_of_block ((hg k).block b hb (by simp))).trans (hc j hj)
  have hHas : ∀ (a m : Int) (q : Bool) (W : World), hasB a m = q → Calls Tryz.prog 52 #[.int .i64 a, .int .i64 m] W fun e w' => e = .returned (.bool q) ∧ w' = W := fun a m q W e => by subst e; exact Has_any a m W
  clear hc
  cases hI : hasB σ.i i with
  | false =>
    go_enter Tryz.func105, Tryz.ntmps105
    go_wp2_with fail
    go_quiet ((go_at_call 52; refine Calls.quiet_of_same (hHas _ _ _ _ (by assumption))))
    go_wp2
    go_ret
    exact ⟨ret_bool (by rw [HFB.out, hI]; rfl), hg _⟩
  | true =>
    cases hL : hasB σ.l l with
    | false =>
      go_enter Tryz.func105, Tryz.ntmps105
      go_wp2_with fail
      go_quiet ((go_at_call 52; refine Calls.quiet_of_same (hHas _ _ _ _ (by assumption))))
      go_wp2
      go_ret
      exact ⟨ret_bool (by rw [HFB.out, hI, hL]; rfl), hg _⟩
    | true =>
      cases hA : atB σ c p with
      | false =>
        go_enter Tryz.func105, Tryz.ntmps105
        go_wp2_with fail
        go_quiet (first | (go_at_call 52; refine Calls.quiet_of_same (hHas _ _ _ _ (by assumption))) | (go_at_call 135; refine Calls.quiet_of_same (HIA.out false _ hA)))
        go_wp2
        go_ret
        exact ⟨ret_bool (by rw [HFB.out, hI, hL, hA]; rfl), hg _⟩
      | true =>
        go_enter Tryz.func105, Tryz.ntmps105
        go_wp2_with fail
        go_quiet (first | (go_at_call 52; refine Calls.quiet_of_same (hHas _ _ _ _ (by assumption))) | (go_at_call 135; refine Calls.quiet_of_same (HIA.out true _ hA)))
        go_wp2
        go_ret
        exact ⟨ret_bool (by rw [HFB.out, hI, hL, hA]; rfl), hg _⟩
end
end Go.Proofs.YtfnglkhhmplejaaGreat
namespace Go.Proofs.YtfnglkhhmplejaaGreat
open Go Go.RowKit Go.Clk Go.Shelf
/-- A row of a table; what comes of it. -/
structure Row where
  inF : Int
  loc : Int
  place : Int
  fn : Nat
  caps : Array Value
  res : St
def Row.cells (r : Row) : List Value := [.int .i64 r.inF, .int .i64 r.loc, .int .i64 r.place, .func (.func r.fn) #[] r.caps]
def rowsC (l : List Row) : List Value := l.flatMap Row.cells
theorem rowsC_get (l : List Row) (q : Nat) (h : q < l.length) (k : Nat) (hk : k < 4) : (rowsC l)[q * 4 + k]? = (Row.cells l[q])[k]? := by
  unfold rowsC
  induction l generalizing q with
  | nil => simp at h
  | cons a l ih =>
    rw [List.flatMap_cons]
    cases q with
    | zero => rw [List.getElem?_append_left (by simp [Row.cells]; omega)]; simp
    | succ q =>
      rw [List.getElem?_append_right (by simp [Row.cells]; omega)]
      have : (q + 1) * 4 + k - (Row.cells a).length = q * 4 + k := by simp [Row.cells]; omega
      rw [this, ih q (by simpa using h)]
      simp
def Row.fit (σ : St) (c : UInt8) (r : Row) : Bool := fitB σ c r.inF r.loc r.place
def firstRes (σ : St) (c : UInt8) (l : List Row) : St := match l.find? (Row.fit σ c) with
  | none => σ
  | some r => r.res
theorem first_at (σ : St) (c : UInt8) : ∀ (l : List Row) (j : Nat) (h : j < l.length), (∀ k, (hk : k < l.length) → k < j → Row.fit σ c l[k] = false) → Row.fit σ c l[j] = true → firstRes σ c l = l[j].res ∧ l.any (Row.fit σ c) = true := by
  intro l
  induction l with
  | nil => intro j h; simp at h
  | cons a l ih =>
    intro j h h0 h1
    cases j with
    | zero =>
      simp only [List.getElem_cons_zero] at h1
      refine ⟨?_, by simp [h1]⟩
      unfold firstRes; rw [List.find?_cons_of_pos h1]; rfl
    | succ j =>
      have ha : Row.fit σ c a = false := by have := h0 0 (by simp) (by omega); simpa using this
      have := ih j (by simpa using h) (fun k hk hkj => by have := h0 (k + 1) (by simp; omega) (by omega); simpa using this) (by simpa using h1)
      refine ⟨?_, by simp [this.2]⟩
      unfold firstRes at this ⊢
      rw [List.find?_cons_of_neg (by simp [ha])]
      simpa using this.1
theorem first_none (σ : St) (c : UInt8) : ∀ (l : List Row), (∀ k, (hk : k < l.length) → Row.fit σ c l[k] = false) → firstRes σ c l = σ ∧ l.any (Row.fit σ c) = false := by
  intro l h
  have h1 : ∀ r ∈ l, Row.fit σ c r = false := by
    intro r hr
    obtain ⟨k, hk, e⟩ := List.getElem_of_mem hr
    rw [← e]; exact h k hk
  refine ⟨?_, ?_⟩
  · unfold firstRes
    rw [List.find?_eq_none.2 fun r hr => by simp [h1 r hr]]
  · rw [List.any_eq_false]; intro r hr; simp [h1 r hr]
section
variable (S0 : List Nat) (w0 : World) (x : List Nat) (b : Nat) (σ : St) (w : World) (K : Int)

set_option maxHeartbeats 2000000 in
set_option maxRecDepth 100000 in
theorem taken_any (h : AtP S0 w0 x b σ w) (c : UInt8) (rows : List Row) (a : Option Addr) (cap : Nat) (o : Option Nat) (hs : Sl w 127 4 (.slice a rows.length cap) rows.length (rowsC rows) o) (hlen : rows.length ≤ 100) (hp : ∀ r ∈ rows, 0 ≤ r.place ∧ r.place ≤ 15)
    (D : ∀ r ∈ rows, r.fit σ c = true → Enters Tryz.prog r.fn ∧ ∀ W, w.grownBy W none → Calls Tryz.prog r.fn (#[.pointer (some ⟨b, 0, none⟩), .int .u8 c.toNat] ++ r.caps) W fun e w' => e = .returned (.tuple #[]) ∧ AtP S0 w0 x b r.res w') :
    Calls Tryz.prog 76 #[.pointer (some ⟨b, 0, none⟩), .int .u8 c.toNat, .slice a rows.length cap] w fun e w' => e = .returned (.bool (rows.any (Row.fit σ c))) ∧ AtP S0 w0 x b (firstRes σ c rows) w' := by
  obtain ⟨vi, vu, vo, vs, hV⟩ := h
  have HV : Hid (PV S0 w0 x b σ vi vu vo vs w) := hV
  have hbl := hV.lt
  have HD : Hid (∀ r ∈ rows, r.fit σ c = true → Enters Tryz.prog r.fn ∧ ∀ W, w.grownBy W none → Calls Tryz.prog r.fn (#[.pointer (some ⟨b, 0, none⟩), .int .u8 c.toNat] ++ r.caps) W fun e w' => e = .returned (.tuple #[]) ∧ AtP S0 w0 x b r.res w') := D
  clear D hV
  go_enter Tryz.func76, Tryz.ntmps76
  go_wp2_with fail
  go_loopg [8, 11] rows.length (fun k _ jv wr => ∃ (j : Nat), j + k = rows.length ∧ jv = .int .i64 j ∧ w.grownBy wr none ∧ Hid (∀ q, (h : q < rows.length) → q < j → Row.fit σ c rows[q] = false))
  case atStart => exact ⟨0, by omega, rfl, grownBy_refl w none, fun q _ h => by omega⟩
  case round =>
    obtain ⟨j, hj, rfl, hg, hN⟩ := hrel
    by_cases hlt : j < rows.length
    · have hs2 : Sl wr 127 4 (.slice a rows.length cap) rows.length (rowsC rows) o := hs.same fun g e => hg.block g (hs.lt e) (by simp)
      obtain ⟨ug, uoff, uc, he, rfl⟩ := hs2.addr (by omega)
      cases he
      obtain ⟨r, hr⟩ : ∃ r, rows[j] = r := ⟨_, rfl⟩
      have zb := (hs2.cells rfl (j * 4 + 0) (u := .int .i64 r.inF) (by rw [rowsC_get rows j hlt 0 (by omega), hr]; rfl)).1
      have zf := (hs2.cells rfl (j * 4 + 1) (u := .int .i64 r.loc) (by rw [rowsC_get rows j hlt 1 (by omega), hr]; rfl)).1
      have ze := (hs2.cells rfl (j * 4 + 2) (u := .int .i64 r.place) (by rw [rowsC_get rows j hlt 2 (by omega), hr]; rfl)).1
      have zc := (hs2.cells rfl (j * 4 + 3) (u := .func (.func r.fn) #[] r.caps) (by rw [rowsC_get rows j hlt 3 (by omega), hr]; rfl)).1
      simp only [← Nat.add_assoc, Nat.add_zero] at zb zf ze zc
      have HE : Hid (rows[j] = r) := hr
      have hpr := hp r (by rw [← hr]; exact List.getElem_mem hlt)
      clear hs2 hr
      go_wp2_with (refine wpList_store_whole rfl (.tmp 8) (.tmp 14) 127 rfl wr.heap.size rfl [.int .i64 r.inF, .int .i64 r.loc, .int .i64 r.place, .func (.func r.fn) #[] r.caps] rfl 127 [.int .i64 0, .int .i64 0, .int .i64 0, .nilFunc] (Blk.new wr _ _) rfl rfl (by intro u hu; simp at hu; rcases hu with rfl | rfl | rfl | rfl <;> rfl) ?_)
      intro W hbk hgW hsz
      have hg2 : w.grownBy W none := by
        have h1 : w.grownBy (wr.alloc (.cells #[.int .i64 0, .int .i64 0, .int .i64 0, .nilFunc] 127)) none := grownBy_alloc hg _
        exact grownBy_then h1 hgW (by intro g e; cases e; exact hg.size)
      have b0 := hbk.cell 0 rfl
      have b1 := hbk.cell 1 rfl
      have b2 := hbk.cell 2 rfl
      have b3 := hbk.cell 3 rfl
      have hVW := HV.out.same hg2
      have HFT : Hid (∀ q, r.fit σ c = q → Calls Tryz.prog 105 #[.pointer (some ⟨b, 0, none⟩), .int .u8 c.toNat, .agg #[.int .i64 r.inF, .int .i64 r.loc, .int .i64 r.place, .func (.func r.fn) #[] r.caps]] W fun e w' => e = .returned (.bool q) ∧ W.grownBy w' none) := by
        rintro q rfl; exact fits_any b σ W c r.inF r.loc r.place _ hpr.1 hpr.2 hVW.lt fun k hk => hVW.head k hk
      have hlW := hbk.lt
      clear hsz hgW zb zf ze zc hVW
      cases hfit : r.fit σ c with
      | true =>
        obtain ⟨hEn, hDo⟩ := HD.out r (by rw [← HE.out]; exact List.getElem_mem hlt) hfit
        have HF : Hid (firstRes σ c rows = r.res ∧ rows.any (Row.fit σ c) = true) := by
          have := first_at σ c rows j hlt (fun k hk hkj => hN.out k hk hkj) (by rw [HE.out, hfit])
          rw [HE.out] at this; exact this
        have hft := HFT.out true hfit
        have HDo : Hid (∀ W, w.grownBy W none → Calls Tryz.prog r.fn (#[.pointer (some ⟨b, 0, none⟩), .int .u8 c.toNat] ++ r.caps) W fun e w' => e = .returned (.tuple #[]) ∧ AtP S0 w0 x b r.res w') := hDo
        have hen : ∀ args w, (callFunc r.fn args).run Tryz.prog w = .ok (.enter r.fn args) w := hEn
        clear hN HFT hDo hEn hfit HE
        go_wp2_with (go_at_call 105; refine hft.mono ?_; rintro e W2 ⟨rfl, hgW2⟩; have b3' := (World.cell?_of_block (a := ⟨wr.heap.size, 3, none⟩) (hgW2.block _ hlW (by simp))).trans b3)
        refine (HDo.out _ (grownBy_then hg2 hgW2 (by simp))).mono ?_
        rintro e W3 ⟨rfl, hW3⟩
        go_wp2
        go_ret
        exact ⟨ret_bool (by rw [HF.out.2]), by rw [HF.out.1]; exact hW3⟩
      | false =>
        have HN2 : Hid (∀ q, (h : q < rows.length) → q < j + 1 → Row.fit σ c rows[q] = false) := fun q hq hqj => by
          by_cases e : q = j
          · subst e; rw [HE.out, hfit]
          · exact hN.out q hq (by omega)
        have hft := HFT.out false hfit
        clear hN HFT hfit HE
        go_wp2_with (go_at_call 105; refine hft.mono ?_; rintro e W2 ⟨rfl, hgW2⟩)
        go_roundg (gk - 1)
        case measure => omega
        case rel => exact ⟨j + 1, by omega, by go_num, grownBy_then hg2 hgW2 (by simp), HN2⟩
    · obtain rfl : j = rows.length := by omega
      have HF : Hid (firstRes σ c rows = σ ∧ rows.any (Row.fit σ c) = false) := first_none σ c rows fun k hk => hN.out k hk hk
      clear hN
      go_wp2
      go_ret
      exact ⟨ret_bool (by rw [HF.out.2]), by rw [HF.out.1]; exact (HV.out.same hg).r⟩
end
end Go.Proofs.YtfnglkhhmplejaaGreat
