/- The law's world: a list comes out, is written full and kept. -/
import Derived.Test.YtfnglkhhmplejaaGreatL4
import Derived.Test.YtfnglkhhmplejaaGreatR22
import Derived.Test.YtfnglkhhmplejaaGreatBase
import Derived.Deep.RegionLaw
import Derived.Deep.LoopGhost
import Derived.BigQuiet
import Derived.Deep.MidRow
namespace Go.Clk
open Go Go.RowKit
/-- 'append' of one cell onto a slice that owns its block: of its block's cells each is as it was, or is the new one. -/
theorem run_append_one {P : Program} {w : World} {e : TypeId} {size : Nat} {v : Value} {n : Nat} {xs : List Value} {o : Option Nat} (h : Sl w e size v n xs o)
    (t tx ty : TypeId) (i : TypeInfo) (z : Value) (bytes : Nat) (ht : P.underlying t = some (.slice e)) (hi : P.info? e = some i) (hz : i.zero = some z) (hsize : i.size = size) (hby : i.bytes = bytes) (hzs : z.cells.size = size)
    (x u : Value) (hs : Src P size tx x 1 [u] w) (h63 : n + 1 ≤ maxLen) (hbytes : (n + 1) * bytes ≤ 140737488355328) :
    ∃ v' w' o', (Builtin.append_ #[t, tx] ty #[v, x]).run P w = .ok v' w' ∧ Sl w' e size v' (n + 1) (xs ++ [u]) o' ∧ w.grownBy w' o ∧ (o' = o ∨ o' = some w.heap.size ∧ w.heap.size < w'.heap.size) ∧
      ∀ g, o = some g → ∀ k, w'.cell? ⟨g, k, none⟩ = w.cell? ⟨g, k, none⟩ ∨ w'.cell? ⟨g, k, none⟩ = some u := by
  obtain ⟨v', w', o', hr, h1, h2, h3⟩ := run_append_sl h t tx ty i z bytes ht hi hz hsize hby hzs x 1 [u] hs h63 hbytes
  refine ⟨v', w', o', hr, h1, h2, h3, ?_⟩
  subst hsize
  subst hby
  have hsmall : n + 1 ≤ 9223372036854775807 := by simp only [maxLen] at h63; omega
  rcases h.2 with ⟨rfl, rfl, rfl⟩ | ⟨g, off, cap, cur, rfl, rfl, q3, q4, q5, q6, q7⟩
  · intro g hg; cases hg
  · intro g' hg k
    cases hg
    by_cases hroom : n + 1 ≤ cap
    · have hmul : (n + 1) * i.size ≤ cap * i.size := Nat.mul_le_mul_right _ hroom
      rw [Nat.add_mul] at hmul
      have hnl := hs.newsLen
      have hrun := run_append_room_src (P := P) w t tx ty e i ht hi g off n cap x 1 [u] hs hroom
        (fun j hj => by rw [cell_of_row w g _ cur e (0, 0) q3, Array.getElem?_eq_getElem (by omega)]; rfl) (fun j hj => frozen_of_row w g _ cur e q3)
      rw [hr] at hrun
      cases hrun
      have hw : w.setCells g (off + n * i.size) [u] = w.setCell ⟨g, off + n * i.size, none⟩ u := rfl
      rw [hw, cell_of_row _ g k _ e (0, 0) (heap_setCell_same w g _ cur e u q3), cell_of_row w g k cur e (0, 0) q3]
      by_cases hk : k = off + n * i.size
      · subst hk
        right
        rw [Array.getElem?_setIfInBounds, if_pos rfl, if_pos (by simp at hnl; omega)]
      · left
        rw [Array.getElem?_setIfInBounds, if_neg (by omega)]
    · have hrun := run_append_grow_src (P := P) w t tx ty e i z ht hi hz (some ⟨g, off, none⟩) n cap xs (run_firstCells_some w.drew i.size n _ n cap xs h.1 (fun j u hu => by rw [Addr.add_lit]; exact (h.cells rfl j hu).1)) x 1 [u] hs (by omega) (by omega) (growslice_fits (by omega) hbytes)
      rw [hr] at hrun
      cases hrun
      left
      exact World.cell?_of_block (Below.heap_alloc w.drew _ g (Array.getElem?_eq_some_iff.1 q3).1)
theorem wpList_append_one {P : Program} {w : World} {ops : Array Oper} {rest : List Oper} {o : Oper} {a : Act} {Q : Exit → Act → World → Prop} (hgd : o.guard = none) (s x : Operand) (t tx : TypeId)
    (ho : o.op = .call { callee := .builtin .append, args := #[s, x], argTypes := #[t, tx] })
    {e : TypeId} {size : Nat} {v : Value} {n : Nat} {xs : List Value} {own : Option Nat} (h : Sl w e size v n xs own) (hv : a.eval s = v)
    (i : TypeInfo) (z : Value) (bytes : Nat) (ht : P.underlying t = some (.slice e)) (hi : P.info? e = some i) (hz : i.zero = some z) (hsize : i.size = size) (hby : i.bytes = bytes) (hzs : z.cells.size = size)
    (xv u : Value) (hx : a.eval x = xv) (hs : Src P size tx xv 1 [u] w) (h63 : n + 1 ≤ maxLen) (hbytes : (n + 1) * bytes ≤ 140737488355328)
    (hK : ∀ a' cap' w' own', Sl w' e size (.slice a' (n + 1) cap') (n + 1) (xs ++ [u]) own' → w.grownBy w' own → (own' = own ∨ own' = some w.heap.size ∧ w.heap.size < w'.heap.size) → (∀ g, own = some g → ∀ k, w'.cell? ⟨g, k, none⟩ = w.cell? ⟨g, k, none⟩ ∨ w'.cell? ⟨g, k, none⟩ = some u) → wpList P ops Q rest (a.put o.dst (.slice a' (n + 1) cap')) w') :
    wpList P ops Q (o :: rest) a w := by
  refine wpList_plain hgd fun K hK' => ?_
  obtain ⟨v', w', o', hr, h1, h2, h3, h4⟩ := run_append_one h t tx o.type i z bytes ht hi hz hsize hby hzs xv u hs h63 hbytes
  obtain ⟨a', cap', rfl, _⟩ := h1.shape
  unfold Oper.wp
  simp [execOp, ho, resolve, invoke, builtin, hv, hx, hr, Result.andThen]
  exact hK' _ _ (hK a' cap' w' o' h1 h2 h3 h4)
end Go.Clk
namespace Go.Proofs.YtfnglkhhmplejaaGreat
open Go Go.RowKit Go.Clk

/-- New blocks get the colour i; the block o the colour 2. -/
def recol2 (w : World) (c : Nat → Nat) (i : Nat) (o : Option Nat) : Nat → Nat := fun k => if o = some k then 2 else recol w c i k
theorem recol2_at {w : World} {c : Nat → Nat} {i : Nat} {o : Option Nat} {g : Nat} (h : o = some g) : recol2 w c i o g = 2 := if_pos h
theorem recol2_old {w : World} {c : Nat → Nat} {i k : Nat} {o : Option Nat} (h : k < w.heap.size) (hn : o ≠ some k) : recol2 w c i o k = c k := by unfold recol2; rw [if_neg hn]; exact recol_old h

theorem AtO.here2 {S : List Nat} {w0 w : World} {o : Option Nat} {b : Nat} {e : TypeId} {cs : List Value} {fs : List Fld} (h : AtO S w0 (o.toList ++ []) b e cs fs w) {c : Nat → Nat} {i : Nat} (hS : ∀ k, k ∈ S → k < w0.heap.size ∧ c k = i) : OO w (recol2 w0 c i o) i b e cs fs := by
  obtain ⟨T, h1, h2, h3, h4, _⟩ := h.rebase
  obtain ⟨os, p1, p2, p3, p4, p5⟩ := h1
  refine ⟨T, ⟨os, p1, p2, p3, p4, fun g hg => by cases hg⟩, fun k hk => ⟨h2 k hk, ?_⟩⟩
  have hn : o ≠ some k := fun e => h3 k (by rw [e]; simp) hk
  unfold recol2
  rw [if_neg hn]
  rcases h4 k hk with h | h
  · rw [recol_old (hS k h).1]; exact (hS k h).2
  · exact recol_new h
theorem AtO.turned2 {S : List Nat} {w0 w : World} {x : List Nat} {b : Nat} {e : TypeId} {cs : List Value} {fs : List Fld} (h : AtO S w0 x b e cs fs w) {c : Nat → Nat} {i : Nat} (hS : ∀ k, k ∈ S → k < w0.heap.size ∧ c k = i) : Tn c i w0 w := by
  obtain ⟨os, p1, p2, p3, p4, p5⟩ := h
  exact ⟨p2.os, p2.tape, p2.output, p2.size, fun k hk hc => p2.block k hk fun hm => hc (hS k hm).2⟩

theorem AtO.drop {S : List Nat} {w0 w : World} {x : List Nat} {b : Nat} {e : TypeId} {cs : List Value} {fs : List Fld} (h : AtO S w0 x b e cs fs w) : AtO S w0 [] b e cs fs w := by
  obtain ⟨os, p1, p2, p3, p4, p5⟩ := h
  exact ⟨os, p1, p2, p3, p4, fun g hg => by cases hg⟩

section
variable {w : World} {c : Nat → Nat} {i b : Nat} {σ : St}
/-- The program's Signals: the list is nobody's now. -/
theorem OT.signals (h : OT w c i b σ) : Calls Tryz.prog 130 #[.pointer (some ⟨b, 0, none⟩)] w fun e w' => ∃ v o, e = .returned v ∧ Sl w' 3 1 v σ.noted.length (i64s σ.noted) o ∧ (∀ g, o = some g → g < w.heap.size → c g = i) ∧ OT w' (recol2 w c i o) i b σ.signals.1 ∧ Tn c i w w' := by
  obtain ⟨S, h1, hS⟩ := h
  refine (TSignals S w [] b σ w h1).mono ?_
  rintro e w' ⟨v, o, h2, h3, h4, ρ, hsm, vi, vu, vo, vs, hl, h5⟩
  obtain ⟨T, h6, h7⟩ := AtO.here2 h5 hS
  exact ⟨v, o, h2, h3, fun g hg hlt => (hS g ((h4 g hg).2.2.resolve_right (by omega))).2, ⟨T, ⟨ρ, hsm, vi, vu, vo, vs, hl, h6⟩, h7⟩, AtO.turned2 h5 hS⟩
theorem OR.signals (h : OR w c i b σ) : Calls Tryz.prog 131 #[.pointer (some ⟨b, 0, none⟩)] w fun e w' => ∃ v o, e = .returned v ∧ Sl w' 3 1 v σ.noted.length (i64s σ.noted) o ∧ OR w' (recol w c i) i b σ.signals.1 ∧ Tn c i w w' := by
  obtain ⟨S, h1, hS⟩ := h
  refine (Signals_any S w [] b σ w h1).mono ?_
  rintro e w' ⟨v, o, h2, h3, _, vi, vo, vu, vn, vd, hl, h5⟩
  have h6 := AtO.drop h5
  obtain ⟨T, h7, h8⟩ := AtO.here h6 hS
  exact ⟨v, o, h2, h3, ⟨T, ⟨vi, vo, vu, vn, vd, hl, h7⟩, h8⟩, AtO.turned2 h5 hS⟩
end

section
variable {I : St → Prop} {W0 : World} {wb : Nat} {ps : List (Nat × Nat × St)} {m : Int} {ls : List Value} {ms : List Int} {c : Nat → Nat} {w : World}
theorem Wd.new (h : Wd I W0 wb ps m ls ms c w) (g : Nat) (hg : c g ≠ 1) : W0.heap.size ≤ g := by
  rcases Nat.lt_or_ge g W0.heap.size with h1 | h1
  · have := h.old g h1; omega
  · exact h1
/-- Built anew: blocks of the colours 2 and 3 alone have turned. -/
theorem Wd.next (h : Wd I W0 wb ps m ls ms c w) {c' : Nat → Nat} {w' : World} {m' : Int} {ls' : List Value} {ms' : List Int} (hk : Kp [] W0 w') (hs : w.heap.size ≤ w'.heap.size)
    (hb : ∀ k, k < w.heap.size → c k ≠ 2 → c k ≠ 3 → w'.heap[k]? = w.heap[k]?) (hc : ∀ k, k < w.heap.size → c' k = c k)
    (pa : Option Addr) (cap : Nat) (po : Option Nat) (la : Option Addr) (lcap : Nat) (lo : Option Nat) (ma : Option Addr) (mcap : Nat) (mo : Option Nat)
    (h1 : Blk w' wb 57 [.slice pa ps.length cap, .int .i64 m', .slice la ls'.length lcap, .slice ma ms'.length mcap])
    (h2 : Sl w 85 2 (.slice pa ps.length cap) ps.length (pairCells ps) po) (h5 : ∀ g, po = some g → c g = 0)
    (h3 : Sl w' 55 1 (.slice la ls'.length lcap) ls'.length ls' lo) (h4 : Sl w' 3 1 (.slice ma ms'.length mcap) ms'.length (i64s ms') mo)
    (h6 : ∀ g, lo = some g → c' g = 3 ∧ g ≠ wb) (h7 : ∀ g, mo = some g → c' g = 3 ∧ g ≠ wb ∧ lo ≠ some g)
    (hkept : ∀ (k : Nat) (v : Value) (q : Int), ls'[k]? = some v → ms'[k]? = some q → KlAt v q c' w') : Wd I W0 wb ps m' ls' ms' c' w' := by
  refine ⟨hk, fun k hk' => by rw [hc k (Nat.lt_of_lt_of_le hk' h.kp.size)]; exact h.old k hk', ⟨pa, cap, po, la, lcap, lo, ma, mcap, mo, h1, h2.same fun g hg => hb g (h2.lt hg) (by rw [h5 g hg]; omega) (by rw [h5 g hg]; omega), h3, h4, fun g hg => by rw [hc g (h2.lt hg)]; exact h5 g hg, h6, h7⟩, by rw [hc wb h.lt]; exact h.cb, fun i bt br σ hi => ?_, hkept⟩
  obtain ⟨q1, q2, q3⟩ := h.t i bt br σ hi
  exact ⟨q1.stay hs (fun k hk e => hb k hk (by omega) (by omega)) hc, q2.stay hs (fun k hk e => hb k hk (by omega) (by omega)) hc, q3⟩
/-- What a list that is kept leaves as it was. -/
structure Fr (wb : Nat) (c c' : Nat → Nat) (w w' : World) : Prop where
  size : w.heap.size ≤ w'.heap.size
  col : ∀ k, k < w.heap.size → c' k = c k
  block : ∀ k, k < w.heap.size → c k ≠ 2 → c k ≠ 3 → w'.heap[k]? = w.heap[k]?
  head : w'.cell? ⟨wb, 0, none⟩ = w.cell? ⟨wb, 0, none⟩
theorem Fr.refl (wb : Nat) (c : Nat → Nat) (w : World) : Fr wb c c w w := ⟨Nat.le_refl _, fun _ _ => rfl, fun _ _ _ _ => rfl, rfl⟩
theorem Fr.trans {wb : Nat} {c c1 c2 : Nat → Nat} {w w1 w2 : World} (h : Fr wb c c1 w w1) (k : Fr wb c1 c2 w1 w2) : Fr wb c c2 w w2 :=
  ⟨Nat.le_trans h.size k.size, fun j hj => (k.col j (Nat.lt_of_lt_of_le hj h.size)).trans (h.col j hj), fun j hj a b => (k.block j (Nat.lt_of_lt_of_le hj h.size) (by rw [h.col j hj]; exact a) (by rw [h.col j hj]; exact b)).trans (h.block j hj a b), k.head.trans h.head⟩
/-- The mark is counted. -/
theorem Wd.marked (h : Wd I W0 wb ps m ls ms c w) (m' : Int) : Wd I W0 wb ps m' ls ms c (w.setCell ⟨wb, 1, none⟩ (.int .i64 m')) ∧ (∀ k, k < w.heap.size → c k ≠ 3 → (w.setCell ⟨wb, 1, none⟩ (.int .i64 m')).heap[k]? = w.heap[k]?) ∧ Fr wb c c w (w.setCell ⟨wb, 1, none⟩ (.int .i64 m')) := by
  obtain ⟨pa, cap, po, la, lcap, lo, ma, mcap, mo, h1, h2, h3, h4, h5, h6, h7⟩ := h.pv
  have hB : ∀ k, k < w.heap.size → c k ≠ 3 → (w.setCell ⟨wb, 1, none⟩ (.int .i64 m')).heap[k]? = w.heap[k]? := fun k hk h3 => heap_setCell_other _ _ k _ fun e => h3 (by rw [e]; exact h.cb)
  have hbk : Blk (w.setCell ⟨wb, 1, none⟩ (.int .i64 m')) wb 57 [.slice pa ps.length cap, .int .i64 m', .slice la ls.length lcap, .slice ma ms.length mcap] := by simpa using h1.set 1 (.int .i64 m')
  refine ⟨?_, hB, ⟨by simp, fun _ _ => rfl, fun k hk _ h3 => hB k hk h3, (hbk.cell 0 rfl).trans (h1.cell 0 rfl).symm⟩⟩
  refine h.next (h.kp.set _ _ (.inr (h.new wb (by rw [h.cb]; omega)))) (by simp) (fun k hk _ h3 => hB k hk h3) (fun _ _ => rfl) pa cap po la lcap lo ma mcap mo hbk h2 h5 (h3.set _ _ fun g hg => (h6 g hg).2) (h4.set _ _ fun g hg => (h7 g hg).2.1) h6 h7 fun k v q q1 q2 => (h.kept k v q q1 q2).stay (fun j hj hc => heap_setCell_other _ _ j _ fun e => ?_) fun _ _ h => h
  have := h.cb
  have e' : j = wb := e
  rw [e'] at hc
  omega
/-- A list is laid with the others. -/
theorem Wd.addList (h : Wd I W0 wb ps m ls ms c w) (hlen : ms.length ≤ ls.length) (lv : Value) (W : World) (pa : Option Addr) (cap : Nat) (po : Option Nat) (la : Option Addr) (lcap : Nat) (lo : Option Nat) (ma : Option Addr) (mcap : Nat) (mo : Option Nat)
    (h1 : Blk w wb 57 [.slice pa ps.length cap, .int .i64 m, .slice la ls.length lcap, .slice ma ms.length mcap])
    (h2 : Sl w 85 2 (.slice pa ps.length cap) ps.length (pairCells ps) po) (h3 : Sl w 55 1 (.slice la ls.length lcap) ls.length ls lo) (h4 : Sl w 3 1 (.slice ma ms.length mcap) ms.length (i64s ms) mo)
    (h5 : ∀ g, po = some g → c g = 0) (h6 : ∀ g, lo = some g → c g = 3 ∧ g ≠ wb) (h7 : ∀ g, mo = some g → c g = 3 ∧ g ≠ wb ∧ lo ≠ some g)
    (a' : Option Addr) (cap' : Nat) (own' : Option Nat) (hS : Sl W 55 1 (.slice a' (ls.length + 1) cap') (ls.length + 1) (ls ++ [lv]) own') (w1 : World) (hw1 : Kp [] w w1) (hl1 : w.heap.size < w1.heap.size) (hG : w1.grownBy W lo)
    (hO : own' = lo ∨ ∃ g, own' = some g ∧ w1.heap.size ≤ g) :
    Wd I W0 wb ps m (ls ++ [lv]) ms (recol w c 3) (W.setCell ⟨wb, 2, none⟩ (.slice a' (ls.length + 1) cap')) ∧ Blk W wb 57 [.slice pa ps.length cap, .int .i64 m, .slice la ls.length lcap, .slice ma ms.length mcap] ∧
      (∀ k, k < w.heap.size → c k ≠ 3 → (W.setCell ⟨wb, 2, none⟩ (.slice a' (ls.length + 1) cap')).heap[k]? = w.heap[k]?) ∧ Fr wb c (recol w c 3) w (W.setCell ⟨wb, 2, none⟩ (.slice a' (ls.length + 1) cap')) := by
  have lw := h.lt
  have hB : ∀ k, k < w.heap.size → lo ≠ some k → W.heap[k]? = w.heap[k]? := fun k hk hn => by
    rw [hG.block k (by omega) (fun e => hn e.symm)]; exact hw1.block k hk (by simp)
  have hWs : w1.heap.size ≤ W.heap.size := hG.size
  have hbW : Blk W wb 57 [.slice pa ps.length cap, .int .i64 m, .slice la ls.length lcap, .slice ma ms.length mcap] := by
    unfold Blk; rw [hB wb lw (fun e => (h6 wb e).2 rfl)]; exact h1
  have hown : ∀ g, own' = some g → recol w c 3 g = 3 ∧ g ≠ wb ∧ mo ≠ some g := fun g hg => by
    rcases hO with e | ⟨g', e, hl⟩
    · rw [e] at hg
      exact ⟨by rw [recol_old (h3.lt hg)]; exact (h6 g hg).1, (h6 g hg).2, fun em => (h7 g em).2.2 hg⟩
    · rw [e] at hg; cases hg
      exact ⟨recol_new (by omega), by omega, fun em => by have := h4.lt em; omega⟩
  have hS3 : ∀ k, k < w.heap.size → c k ≠ 3 → (W.setCell ⟨wb, 2, none⟩ (.slice a' (ls.length + 1) cap')).heap[k]? = w.heap[k]? := fun k hk c3 => by
    rw [heap_setCell_other _ _ k _ (fun e => c3 (by rw [e]; exact h.cb))]
    exact hB k hk fun e => c3 (h6 k e).1
  have hhd : (W.setCell ⟨wb, 2, none⟩ (.slice a' (ls.length + 1) cap')).cell? ⟨wb, 0, none⟩ = w.cell? ⟨wb, 0, none⟩ := ((hbW.set 2 (.slice a' (ls.length + 1) cap')).cell 0 rfl).trans (h1.cell 0 rfl).symm
  refine ⟨h.next ?_ (by simp; omega) (fun k hk c2 c3 => ?_) (fun k hk => recol_old hk) pa cap po a' cap' own' ma mcap mo ?_ h2 h5 ?_ ?_ (fun g hg => ⟨(hown g hg).1, (hown g hg).2.1⟩) (fun g hg => ?_) fun k v q q1 q2 => ?_, hbW, hS3, ⟨by simp; omega, fun k hk => recol_old hk, fun k hk _ c3 => hS3 k hk c3, hhd⟩⟩
  · exact (((h.kp.trans hw1 (fun _ h => by cases h)).grown hG fun g hg => .inr (h.new g (by rw [(h6 g hg).1]; omega)))).set _ _ (.inr (h.new wb (by rw [h.cb]; omega)))
  · rw [heap_setCell_other _ _ k _ (fun e => c3 (by rw [e]; exact h.cb))]
    exact hB k hk fun e => c3 (h6 k e).1
  · rw [List.length_append]
    simpa using hbW.set 2 (.slice a' (ls.length + 1) cap')
  · rw [List.length_append]
    exact hS.set _ _ fun g hg => (hown g hg).2.1
  · exact (h4.same fun g hg => hB g (h4.lt hg) (h7 g hg).2.2).set _ _ fun g hg => (h7 g hg).2.1
  · refine ⟨by rw [recol_old (h4.lt hg)]; exact (h7 g hg).1, (h7 g hg).2.1, fun e => (hown g e).2.2 hg⟩
  · have hk2 : k < ms.length := (List.getElem?_eq_some_iff.1 q2).1
    rw [List.getElem?_append_left (by omega)] at q1
    refine (h.kept k v q q1 q2).stay (fun j hj c2 => ?_) fun j hj c2 => by rw [recol_old hj]; exact c2
    rw [heap_setCell_other _ _ j _ (fun e => by have e' : j = wb := e; rw [e', h.cb] at c2; omega)]
    exact hB j hj fun e => by rw [(h6 j e).1] at c2; omega
/-- Its mark is laid with the others. -/
theorem Wd.addMark (h : Wd I W0 wb ps m ls ms c w) (q0 : Int) (hnew : ∀ v, ls[ms.length]? = some v → KlAt v q0 c w) (W : World) (pa : Option Addr) (cap : Nat) (po : Option Nat) (la : Option Addr) (lcap : Nat) (lo : Option Nat) (ma : Option Addr) (mcap : Nat) (mo : Option Nat)
    (h1 : Blk w wb 57 [.slice pa ps.length cap, .int .i64 m, .slice la ls.length lcap, .slice ma ms.length mcap])
    (h2 : Sl w 85 2 (.slice pa ps.length cap) ps.length (pairCells ps) po) (h3 : Sl w 55 1 (.slice la ls.length lcap) ls.length ls lo) (h4 : Sl w 3 1 (.slice ma ms.length mcap) ms.length (i64s ms) mo)
    (h5 : ∀ g, po = some g → c g = 0) (h6 : ∀ g, lo = some g → c g = 3 ∧ g ≠ wb) (h7 : ∀ g, mo = some g → c g = 3 ∧ g ≠ wb ∧ lo ≠ some g)
    (a' : Option Addr) (cap' : Nat) (own' : Option Nat) (hS : Sl W 3 1 (.slice a' (ms.length + 1) cap') (ms.length + 1) (i64s ms ++ [.int .i64 q0]) own') (w1 : World) (hw1 : Kp [] w w1) (hl1 : w.heap.size < w1.heap.size) (hG : w1.grownBy W mo)
    (hO : own' = mo ∨ ∃ g, own' = some g ∧ w1.heap.size ≤ g) :
    Wd I W0 wb ps m ls (ms ++ [q0]) (recol w c 3) (W.setCell ⟨wb, 3, none⟩ (.slice a' (ms.length + 1) cap')) ∧ Blk W wb 57 [.slice pa ps.length cap, .int .i64 m, .slice la ls.length lcap, .slice ma ms.length mcap] ∧
      (∀ k, k < w.heap.size → c k ≠ 3 → (W.setCell ⟨wb, 3, none⟩ (.slice a' (ms.length + 1) cap')).heap[k]? = w.heap[k]?) ∧ Fr wb c (recol w c 3) w (W.setCell ⟨wb, 3, none⟩ (.slice a' (ms.length + 1) cap')) := by
  have lw := h.lt
  have hB : ∀ k, k < w.heap.size → mo ≠ some k → W.heap[k]? = w.heap[k]? := fun k hk hn => by
    rw [hG.block k (by omega) (fun e => hn e.symm)]; exact hw1.block k hk (by simp)
  have hWs : w1.heap.size ≤ W.heap.size := hG.size
  have hbW : Blk W wb 57 [.slice pa ps.length cap, .int .i64 m, .slice la ls.length lcap, .slice ma ms.length mcap] := by
    unfold Blk; rw [hB wb lw (fun e => (h7 wb e).2.1 rfl)]; exact h1
  have hown : ∀ g, own' = some g → recol w c 3 g = 3 ∧ g ≠ wb ∧ lo ≠ some g := fun g hg => by
    rcases hO with e | ⟨g', e, hl⟩
    · rw [e] at hg
      exact ⟨by rw [recol_old (h4.lt hg)]; exact (h7 g hg).1, (h7 g hg).2⟩
    · rw [e] at hg; cases hg
      exact ⟨recol_new (by omega), by omega, fun em => by have := h3.lt em; omega⟩
  have hstay : ∀ (v : Value) (q : Int), KlAt v q c w → KlAt v q (recol w c 3) (W.setCell ⟨wb, 3, none⟩ (.slice a' (ms.length + 1) cap')) := fun v q hv => by
    refine hv.stay (fun j hj c2 => ?_) fun j hj c2 => by rw [recol_old hj]; exact c2
    rw [heap_setCell_other _ _ j _ (fun e => by have e' : j = wb := e; rw [e', h.cb] at c2; omega)]
    exact hB j hj fun e => by rw [(h7 j e).1] at c2; omega
  have hlm : (ms ++ [q0]).length = ms.length + 1 := by simp
  have his : i64s (ms ++ [q0]) = i64s ms ++ [.int .i64 q0] := by simp [i64s]
  have hS3 : ∀ k, k < w.heap.size → c k ≠ 3 → (W.setCell ⟨wb, 3, none⟩ (.slice a' (ms.length + 1) cap')).heap[k]? = w.heap[k]? := fun k hk c3 => by
    rw [heap_setCell_other _ _ k _ (fun e => c3 (by rw [e]; exact h.cb))]
    exact hB k hk fun e => c3 (h7 k e).1
  have hhd : (W.setCell ⟨wb, 3, none⟩ (.slice a' (ms.length + 1) cap')).cell? ⟨wb, 0, none⟩ = w.cell? ⟨wb, 0, none⟩ := ((hbW.set 3 (.slice a' (ms.length + 1) cap')).cell 0 rfl).trans (h1.cell 0 rfl).symm
  refine ⟨h.next ?_ (by simp; omega) (fun k hk c2 c3 => ?_) (fun k hk => recol_old hk) pa cap po la lcap lo a' cap' own' ?_ h2 h5 ?_ ?_ (fun g hg => ?_) (fun g hg => hown g hg) fun k v q q1 q2 => ?_, hbW, hS3, ⟨by simp; omega, fun k hk => recol_old hk, fun k hk _ c3 => hS3 k hk c3, hhd⟩⟩
  · exact (((h.kp.trans hw1 (fun _ h => by cases h)).grown hG fun g hg => .inr (h.new g (by rw [(h7 g hg).1]; omega)))).set _ _ (.inr (h.new wb (by rw [h.cb]; omega)))
  · rw [heap_setCell_other _ _ k _ (fun e => c3 (by rw [e]; exact h.cb))]
    exact hB k hk fun e => c3 (h7 k e).1
  · rw [hlm]
    simpa using hbW.set 3 (.slice a' (ms.length + 1) cap')
  · exact (h3.same fun g hg => hB g (h3.lt hg) fun e => (h7 g e).2.2 hg).set _ _ fun g hg => (h6 g hg).2
  · rw [hlm, his]
    exact hS.set _ _ fun g hg => (hown g hg).2.1
  · exact ⟨by rw [recol_old (h3.lt hg)]; exact (h6 g hg).1, (h6 g hg).2⟩
  · rcases Nat.lt_or_ge k ms.length with hk | hk
    · rw [List.getElem?_append_left hk] at q2
      exact hstay v q (h.kept k v q q1 q2)
    · have hkl := (List.getElem?_eq_some_iff.1 q2).1
      rw [hlm] at hkl
      have e : k = ms.length := by omega
      subst e
      simp at q2
      subst q2
      exact hstay v _ (hnew v q1)
/-- One number more behind the list that came out. -/
theorem Wd.addTail (h : Wd I W0 wb ps m ls ms c w) (q0 : Int) (own : Option Nat) (hown : ∀ g, own = some g → g < w.heap.size ∧ c g = 2)
    (hmine : ∀ (g off n cap : Nat) (k : Nat) (q : Int), own = some g → ls[k]? = some (.slice (some ⟨g, off, none⟩) n cap) → ms[k]? = some q → 0 < n → q = q0)
    (w1 W : World) (hw1 : Kp [] w w1) (hG : w1.grownBy W own) (hcell : ∀ g, own = some g → ∀ k, W.cell? ⟨g, k, none⟩ = w1.cell? ⟨g, k, none⟩ ∨ W.cell? ⟨g, k, none⟩ = some (.int .i64 q0)) :
    Wd I W0 wb ps m ls ms (recol w c 2) W ∧ Fr wb c (recol w c 2) w W := by
  obtain ⟨pa, cap, po, la, lcap, lo, ma, mcap, mo, h1, h2, h3, h4, h5, h6, h7⟩ := h.pv
  have lw := h.lt
  have cb := h.cb
  have hs1 := hw1.size
  have hB : ∀ k, k < w.heap.size → own ≠ some k → W.heap[k]? = w.heap[k]? := fun k hk hn => by
    rw [hG.block k (by omega) (fun e => hn e.symm)]; exact hw1.block k hk (by simp)
  have hn3 : ∀ k, c k = 3 → own ≠ some k := fun k hk e => by have := (hown k e).2; omega
  have hbW : Blk W wb 57 [.slice pa ps.length cap, .int .i64 m, .slice la ls.length lcap, .slice ma ms.length mcap] := by unfold Blk; rw [hB wb lw (hn3 wb cb)]; exact h1
  refine ⟨?_, ⟨by have := hG.size; omega, fun k hk => recol_old hk, fun k hk c2 c3 => hB k hk fun e => c2 (hown k e).2, (hbW.cell 0 rfl).trans (h1.cell 0 rfl).symm⟩⟩
  refine h.next ?_ (by have := hG.size; omega) (fun k hk c2 c3 => hB k hk fun e => c2 (hown k e).2) (fun k hk => recol_old hk) pa cap po la lcap lo ma mcap mo ?_ h2 h5 (h3.same fun g hg => hB g (h3.lt hg) (hn3 g (h6 g hg).1)) (h4.same fun g hg => hB g (h4.lt hg) (hn3 g (h7 g hg).1)) (fun g hg => by rw [recol_old (h3.lt hg)]; exact h6 g hg) (fun g hg => by rw [recol_old (h4.lt hg)]; exact h7 g hg) fun k v q q1 q2 => ?_
  · exact (h.kp.trans hw1 (fun _ h => by cases h)).grown hG fun g hg => .inr (h.new g (by rw [(hown g hg).2]; omega))
  · exact hbW
  · obtain ⟨a, n, cp, rfl, hm, hv⟩ := h.kept k v q q1 q2
    refine ⟨a, n, cp, rfl, hm, fun j hj => ?_⟩
    obtain ⟨g, off, rfl, e2, e3⟩ := hv j hj
    have hg : g < w.heap.size := World.block_lt_of_cell? w _ e3
    refine ⟨g, off, rfl, by rw [recol_old hg]; exact e2, ?_⟩
    by_cases ho : own = some g
    · have hq := hmine g off n cp k q ho q1 q2 (by omega)
      rcases hcell g ho (off + j) with h8 | h8
      · rw [h8, hw1.cell hg (by simp)]; exact e3
      · rw [h8, hq]
    · rw [World.cell?_of_block (hB g hg ho)]; exact e3
theorem KlAt.of_sl {a : Option Addr} {n cap : Nat} {q : Int} {own : Option Nat} (hS : Sl w 3 1 (.slice a n cap) n (i64s (List.replicate n q)) own) (hc : ∀ g, own = some g → c g = 2) : KlAt (.slice a n cap) q c w := by
  obtain ⟨a1, cap1, e1, hm1, hm2⟩ := hS.shape
  cases e1
  refine ⟨a, n, cap, rfl, by omega, fun j hj => ?_⟩
  obtain ⟨g, off, cap', hv, ho⟩ := hS.addr (by omega)
  cases hv
  exact ⟨g, off, rfl, hc g ho, (hS.cells rfl j (by simp [i64s, hj])).1⟩
end
end Go.Proofs.YtfnglkhhmplejaaGreat
namespace Go.Proofs.YtfnglkhhmplejaaGreat
open Go Go.RowKit Go.Clk

theorem info_ints : (Tryz.prog.info? 55).map (fun i => (i.zero, i.size, i.bytes)) = some (some (.slice none 0 0), 1, 24) := by kernel_rfl
theorem Wd.drewN {I : St → Prop} {W0 : World} {wb : Nat} {ps : List (Nat × Nat × St)} {m : Int} {ls : List Value} {ms : List Int} {c : Nat → Nat} {w : World} (h : Wd I W0 wb ps m ls ms c w) (n : Nat) : Wd I W0 wb ps m ls ms c (w.drewN n) :=
  h.stay ⟨h.kp.os, h.kp.tape, h.kp.output, h.kp.size, h.kp.block⟩ (Nat.le_refl _) (fun _ _ => rfl) fun _ _ => rfl
theorem fill_next (n j : Nat) (hj : j < n) (q : Int) (xs : List Int) (hx : xs.length = n) : (i64s (List.replicate j q ++ xs.drop j)).set j (.int .i64 q) = i64s (List.replicate (j + 1) q ++ xs.drop (j + 1)) := by
  unfold i64s
  rw [← List.map_set, List.set_append_right _ _ (by simp)]
  congr 1
  rw [List.length_replicate, Nat.sub_self, List.drop_eq_getElem_cons (by omega), List.set_cons_zero, List.replicate_succ', List.append_assoc]
  rfl

section
variable (I : St → Prop) (W0 : World) (wb : Nat) (ps : List (Nat × Nat × St)) (m : Int) (ls : List Value) (ms : List Int) (c : Nat → Nat) (w : World)

set_option maxHeartbeats 4000000 in
set_option maxRecDepth 100000 in
theorem looks_any (hW : Wd I W0 wb ps m ls ms c w) (hll : ls.length = ms.length) (hl4 : ls.length ≤ 1152921504606846976) :
    Calls Tryz.prog 24 #[.pointer (some ⟨wb, 0, none⟩)] w fun e w' => e = .returned (.bool true) ∧ Wd I W0 wb ps m ls ms c w' := by
  have HW : Hid (Wd I W0 wb ps m ls ms c w) := hW
  have HLL : Hid (ls.length = ms.length) := hll
  clear hW hll
  go_enter Tryz.func24, Tryz.ntmps24
  go_wp2_with fail
  go_loopg [3] ls.length (fun r iv wr => ∃ (i : Nat), i + r = ls.length ∧ iv = .int .i64 i ∧ Hid (Wd I W0 wb ps m ls ms c wr))
  case atStart => exact ⟨0, by omega, rfl, HW⟩
  case round =>
    obtain ⟨i, hi, rfl, hW1⟩ := hrel
    obtain ⟨og, hog⟩ : ∃ og, og = gk := ⟨_, rfl⟩
    rw [← hog] at hi
    obtain ⟨pa, cap, po, la, lcap, lo, ma, mcap, mo, h1, h2, h3, h4, h5, h6, h7⟩ := hW1.out.pv
    have k2 := h1.cell 2 (v := .slice la ls.length lcap) rfl
    have k3 := h1.cell 3 (v := .slice ma ms.length mcap) rfl
    clear h2 h5 h6 h7
    by_cases hlt : i < ls.length
    · obtain ⟨v, hv⟩ : ∃ v, ls[i]? = some v := ⟨_, List.getElem?_eq_getElem hlt⟩
      obtain ⟨q, hq⟩ : ∃ q, ms[i]? = some q := ⟨_, List.getElem?_eq_getElem (by have := HLL.out; omega)⟩
      obtain ⟨a, n, vcap, rfl, hnm, hk⟩ := hW1.out.kept i v q hv hq
      unfold maxLen at hnm
      have HQ : Hid (ls[i]? = some (.slice a n vcap) ∧ ms[i]? = some q) := ⟨hv, hq⟩
      clear hk
      clear h1 h3 h4 hv hq
      go_wp2_with fail
      clear k2 k3
      generalize decide (i < ls.length) = d11
      go_loopg [4] n (fun r kv w2 => ∃ (k : Nat), k + r = n ∧ kv = .int .i64 k ∧ Hid (Wd I W0 wb ps m ls ms c w2))
      case atStart => exact ⟨0, by omega, rfl, hW1⟩
      case round =>
        obtain ⟨k, hkr, rfl, hW2⟩ := hrel
        obtain ⟨pa, cap, po, la, lcap, lo, ma, mcap, mo, h1, h2, h3, h4, h5, h6, h7⟩ := hW2.out.pv
        have k2 := h1.cell 2 (v := .slice la ls.length lcap) rfl
        have k3 := h1.cell 3 (v := .slice ma ms.length mcap) rfl
        obtain ⟨lg, loff, lcap', e1, _⟩ := h3.addr (by omega)
        cases e1
        obtain ⟨mg, moff, mcap', e2, _⟩ := h4.addr (by have := HLL.out; omega)
        cases e2
        have x1 := (h3.cells rfl i HQ.out.1).1
        have x2 := (h4.cells rfl i (u := .int .i64 q) (by unfold i64s; rw [List.getElem?_map, HQ.out.2]; rfl)).1
        have hms : i < ms.length := by have := HLL.out; omega
        clear h1 h2 h3 h4 h5 h6 h7
        by_cases hkn : k < n
        · obtain ⟨a', n', vcap', e3, _, hkk⟩ := hW2.out.kept i _ q HQ.out.1 HQ.out.2
          cases e3
          obtain ⟨g, off, rfl, _, x3⟩ := hkk k hkn
          clear hkk
          go_wp2_with fail
          go_quiet (fail)
          have HW3 : Hid (Wd I W0 wb ps m ls ms c (wr.drewN nq)) := hW2.out.drewN nq
          clear hW2
          go_wp2_with fail
          go_roundg (gk - 1)
          case measure => omega
          case rel => exact ⟨k + 1, by omega, by go_num, HW3⟩
        · go_wp2_with fail
          go_roundg (og - 1)
          case measure => omega
          case rel => exact ⟨i + 1, by omega, by go_num, hW2⟩
    · clear h3 h4
      go_wp2_with fail
      go_ret
      exact ⟨rfl, hW1.out⟩
end
end Go.Proofs.YtfnglkhhmplejaaGreat
namespace Go.Proofs.YtfnglkhhmplejaaGreat
open Go Go.RowKit Go.Clk

/-- In the course of keeping a list. -/
structure Kg (I : St → Prop) (W0 : World) (wb : Nat) (ps : List (Nat × Nat × St)) (q : Int) (ls : List Value) (ms : List Int) (L : Nat) (c0 : Nat → Nat) (w0 : World) (a : Option Addr) (n cap : Nat) (own : Option Nat) (c : Nat → Nat) (w : World) : Prop where
  wd : Wd I W0 wb ps q ls ms c w
  sl : Sl w 3 1 (.slice a n cap) n (i64s (List.replicate n (-q))) own
  col : ∀ g, own = some g → c g = 2
  mine : ∀ (g off n' cap' k : Nat) (q' : Int), own = some g → ls[k]? = some (.slice (some ⟨g, off, none⟩) n' cap') → ms[k]? = some q' → 0 < n' → q' = -q
  ll : ls.length = ms.length
  len : ls.length = L
  fr : Fr wb c0 c w0 w

section
variable {I : St → Prop} {W0 : World} {wb : Nat} {ps : List (Nat × Nat × St)} {q : Int} {ls : List Value} {ms : List Int} {L : Nat} {c0 : Nat → Nat} {w0 : World} {a : Option Addr} {n cap : Nat} {own : Option Nat} {c : Nat → Nat} {w : World}
/-- The list and its mark are laid down. -/
structure Kh (I : St → Prop) (W0 : World) (wb : Nat) (ps : List (Nat × Nat × St)) (q : Int) (ls : List Value) (ms : List Int) (L : Nat) (c0 : Nat → Nat) (w0 : World) (a : Option Addr) (n cap : Nat) (own : Option Nat) (c : Nat → Nat) (w : World) : Prop where
  wd : Wd I W0 wb ps q (ls ++ [.slice a n cap]) ms c w
  sl : Sl w 3 1 (.slice a n cap) n (i64s (List.replicate n (-q))) own
  col : ∀ g, own = some g → c g = 2
  mine : ∀ (g off n' cap' k : Nat) (q' : Int), own = some g → ls[k]? = some (.slice (some ⟨g, off, none⟩) n' cap') → ms[k]? = some q' → 0 < n' → q' = -q
  ll : ls.length = ms.length
  len : ls.length = L
  fr : Fr wb c0 c w0 w
theorem Kg.list (h : Kg I W0 wb ps q ls ms L c0 w0 a n cap own c w) (W : World) (pa : Option Addr) (pcap : Nat) (po : Option Nat) (la : Option Addr) (lcap : Nat) (lo : Option Nat) (ma : Option Addr) (mcap : Nat) (mo : Option Nat)
    (h1 : Blk w wb 57 [.slice pa ps.length pcap, .int .i64 q, .slice la ls.length lcap, .slice ma ms.length mcap])
    (h2 : Sl w 85 2 (.slice pa ps.length pcap) ps.length (pairCells ps) po) (h3 : Sl w 55 1 (.slice la ls.length lcap) ls.length ls lo) (h4 : Sl w 3 1 (.slice ma ms.length mcap) ms.length (i64s ms) mo)
    (h5 : ∀ g, po = some g → c g = 0) (h6 : ∀ g, lo = some g → c g = 3 ∧ g ≠ wb) (h7 : ∀ g, mo = some g → c g = 3 ∧ g ≠ wb ∧ lo ≠ some g)
    (a' : Option Addr) (cap' : Nat) (own' : Option Nat) (hS : Sl W 55 1 (.slice a' (ls.length + 1) cap') (ls.length + 1) (ls ++ [.slice a n cap]) own') (w1 : World) (hw1 : Kp [] w w1) (hl1 : w.heap.size < w1.heap.size) (hG : w1.grownBy W lo)
    (hO : own' = lo ∨ ∃ g, own' = some g ∧ w1.heap.size ≤ g) :
    ∃ c', Kh I W0 wb ps q ls ms L c0 w0 a n cap own c' (W.setCell ⟨wb, 2, none⟩ (.slice a' (ls.length + 1) cap')) ∧ Blk W wb 57 [.slice pa ps.length pcap, .int .i64 q, .slice la ls.length lcap, .slice ma ms.length mcap] := by
  obtain ⟨x1, x2, x3, x4⟩ := h.wd.addList (by have := h.ll; omega) (.slice a n cap) W pa pcap po la lcap lo ma mcap mo h1 h2 h3 h4 h5 h6 h7 a' cap' own' hS w1 hw1 hl1 hG hO
  exact ⟨_, ⟨x1, h.sl.same fun g hg => x3 g (h.sl.lt hg) (by rw [h.col g hg]; omega), fun g hg => by rw [recol_old (h.sl.lt hg)]; exact h.col g hg, h.mine, h.ll, h.len, h.fr.trans x4⟩, x2⟩
theorem Kh.mark (h : Kh I W0 wb ps q ls ms L c0 w0 a n cap own c w) (W : World) (pa : Option Addr) (pcap : Nat) (po : Option Nat) (la : Option Addr) (lcap : Nat) (lo : Option Nat) (ma : Option Addr) (mcap : Nat) (mo : Option Nat)
    (h1 : Blk w wb 57 [.slice pa ps.length pcap, .int .i64 q, .slice la (ls ++ [Value.slice a n cap]).length lcap, .slice ma ms.length mcap])
    (h2 : Sl w 85 2 (.slice pa ps.length pcap) ps.length (pairCells ps) po) (h3 : Sl w 55 1 (.slice la (ls ++ [Value.slice a n cap]).length lcap) (ls ++ [Value.slice a n cap]).length (ls ++ [Value.slice a n cap]) lo) (h4 : Sl w 3 1 (.slice ma ms.length mcap) ms.length (i64s ms) mo)
    (h5 : ∀ g, po = some g → c g = 0) (h6 : ∀ g, lo = some g → c g = 3 ∧ g ≠ wb) (h7 : ∀ g, mo = some g → c g = 3 ∧ g ≠ wb ∧ lo ≠ some g)
    (a' : Option Addr) (cap' : Nat) (own' : Option Nat) (hS : Sl W 3 1 (.slice a' (ms.length + 1) cap') (ms.length + 1) (i64s ms ++ [.int .i64 (-q)]) own') (w1 : World) (hw1 : Kp [] w w1) (hl1 : w.heap.size < w1.heap.size) (hG : w1.grownBy W mo)
    (hO : own' = mo ∨ ∃ g, own' = some g ∧ w1.heap.size ≤ g) :
    ∃ c', Kg I W0 wb ps q (ls ++ [.slice a n cap]) (ms ++ [-q]) (L + 1) c0 w0 a n cap own c' (W.setCell ⟨wb, 3, none⟩ (.slice a' (ms.length + 1) cap')) ∧ Blk W wb 57 [.slice pa ps.length pcap, .int .i64 q, .slice la (ls ++ [Value.slice a n cap]).length lcap, .slice ma ms.length mcap] := by
  obtain ⟨x1, x2, x3, x4⟩ := h.wd.addMark (-q) (fun v hv => by
    rw [← h.ll] at hv
    simp at hv
    subst hv
    exact KlAt.of_sl h.sl h.col) W pa pcap po la lcap lo ma mcap mo h1 h2 h3 h4 h5 h6 h7 a' cap' own' hS w1 hw1 hl1 hG hO
  refine ⟨_, ⟨x1, h.sl.same fun g hg => x3 g (h.sl.lt hg) (by rw [h.col g hg]; omega), fun g hg => by rw [recol_old (h.sl.lt hg)]; exact h.col g hg, fun g off n' cap' k q' e1 e2 e3 e4 => ?_, by simp [h.ll], by simp [h.len], h.fr.trans x4⟩, x2⟩
  rcases Nat.lt_or_ge k ms.length with hk | hk
  · rw [List.getElem?_append_left (by have := h.ll; omega)] at e2
    rw [List.getElem?_append_left hk] at e3
    exact h.mine g off n' cap' k q' e1 e2 e3 e4
  · have hkl := (List.getElem?_eq_some_iff.1 e3).1
    simp at hkl
    have e : k = ms.length := by omega
    subst e
    simp at e3
    exact e3.symm
/-- One number more behind it. -/
theorem Kg.tail (h : Kg I W0 wb ps q ls ms L c0 w0 a n cap own c w) (w1 W : World) (hw1 : Kp [] w w1) (hG : w1.grownBy W own) (hcell : ∀ g, own = some g → ∀ k, W.cell? ⟨g, k, none⟩ = w1.cell? ⟨g, k, none⟩ ∨ W.cell? ⟨g, k, none⟩ = some (.int .i64 (-q)))
    (a' : Option Addr) (cap' : Nat) (own' : Option Nat) (hS : Sl W 3 1 (.slice a' (n + 1) cap') (n + 1) (i64s (List.replicate n (-q)) ++ [.int .i64 (-q)]) own') (hO : own' = own ∨ ∃ g, own' = some g ∧ w1.heap.size ≤ g) :
    ∃ c', Kg I W0 wb ps q ls ms L c0 w0 a' (n + 1) cap' own' c' W := by
  obtain ⟨x1, x2⟩ := h.wd.addTail (-q) own (fun g hg => ⟨h.sl.lt hg, h.col g hg⟩) (fun g off n' cap' k q' e1 e2 e3 e4 => h.mine g off n' cap' k q' e1 e2 e3 e4) w1 W hw1 hG hcell
  have hs1 := hw1.size
  refine ⟨_, x1, ?_, fun g hg => ?_, fun g off n' cap' k q' e1 e2 e3 e4 => ?_, h.ll, h.len, h.fr.trans x2⟩
  · have e : i64s (List.replicate (n + 1) (-q)) = i64s (List.replicate n (-q)) ++ [.int .i64 (-q)] := by unfold i64s; rw [List.replicate_succ', List.map_append]; rfl
    rw [e]; exact hS
  · rcases hO with e | ⟨g', e, hl⟩
    · rw [e] at hg; rw [recol_old (h.sl.lt hg)]; exact h.col g hg
    · rw [e] at hg; cases hg; exact recol_new (by omega)
  · rcases hO with e | ⟨g', e, hl⟩
    · rw [e] at e1; exact h.mine g off n' cap' k q' e1 e2 e3 e4
    · rw [e] at e1; cases e1
      obtain ⟨b, n2, c2, e5, _, hk⟩ := h.wd.kept k _ q' e2 e3
      cases e5
      obtain ⟨g2, off2, e6, _, e7⟩ := hk 0 e4
      cases e6
      have := World.block_lt_of_cell? w _ e7
      have : g < w.heap.size := this
      omega
end

section
variable (I : St → Prop) (W0 : World) (wb : Nat) (ps : List (Nat × Nat × St)) (m : Int) (ls : List Value) (ms : List Int) (c : Nat → Nat) (w : World)

set_option maxHeartbeats 8000000 in
set_option maxRecDepth 100000 in
theorem keep_any (hW : Wd I W0 wb ps m ls ms c w) (hll : ls.length = ms.length) (hl4 : ls.length ≤ 4294967296) (hm0 : 0 ≤ m) (hm1 : m ≤ 1099511627776)
    (v : Value) (n : Nat) (xs : List Int) (o : Option Nat) (hS : Sl w 3 1 v n (i64s xs) o) (hn : n ≤ 1099511627776) (ho : ∀ g, o = some g → c g = 2)
    (hmine : ∀ (g off n' cap' k : Nat) (q' : Int), o = some g → ls[k]? = some (.slice (some ⟨g, off, none⟩) n' cap') → ms[k]? = some q' → 0 < n' → q' = -(m + 1)) :
    Calls Tryz.prog 132 #[.pointer (some ⟨wb, 0, none⟩), v] w fun e w' => e = .returned (.tuple #[]) ∧ ∃ ls' ms' c', ls'.length = ms'.length ∧ ls'.length = ls.length + 4 ∧ Wd I W0 wb ps (m + 1) ls' ms' c' w' ∧ Fr wb c c' w w' := by
  obtain ⟨a, cap, rfl, hcap, _⟩ := hS.shape
  have hxl : xs.length = n := by have := hS.1; simpa [i64s] using this
  obtain ⟨i0, hi, hz0, hz1, hz2⟩ := info_parts info_int
  obtain ⟨j0, hj, hy0, hy1, hy2⟩ := info_parts info_ints
  obtain ⟨hW1, hB1, hF1⟩ := hW.marked (m + 1)
  have hS1 := hS.same (w' := w.setCell ⟨wb, 1, none⟩ (.int .i64 (m + 1))) fun g hg => hB1 g (hS.lt hg) (by rw [ho g hg]; omega)
  obtain ⟨k1, f1⟩ : w.cell? ⟨wb, 1, none⟩ = some (.int .i64 m) ∧ w.frozen? ⟨wb, 1, none⟩ = false := by
    obtain ⟨_, _, _, _, _, _, _, _, _, h1, _⟩ := hW.pv
    exact ⟨h1.cell 1 rfl, h1.frozen 1⟩
  have HL : Hid (∀ V c2, Wd I W0 wb ps (m + 1) ls ms c2 V → Fr wb c c2 w V → Sl V 3 1 (.slice a n cap) n (i64s (List.replicate n (-(m + 1)))) o → Kg I W0 wb ps (m + 1) ls ms ls.length c w a n cap o c2 V) := fun V c2 q1 q2 q3 =>
    ⟨q1, q3, fun g hg => by rw [q2.col g (hS.lt hg)]; exact ho g hg, hmine, hll, rfl, q2⟩
  have HO : Hid (∀ g, o = some g → g < w.heap.size ∧ c g = 2) := fun g hg => ⟨hS.lt hg, ho g hg⟩
  have HM : Hid (∀ (g off n' cap' k : Nat) (q' : Int), o = some g → ls[k]? = some (.slice (some ⟨g, off, none⟩) n' cap') → ms[k]? = some q' → 0 < n' → q' = -(m + 1)) := hmine
  have HX : Hid (Wd I W0 wb ps (m + 1) ls ms c (w.setCell ⟨wb, 1, none⟩ (.int .i64 (m + 1))) ∧ Fr wb c c w (w.setCell ⟨wb, 1, none⟩ (.int .i64 (m + 1))) ∧ Sl (w.setCell ⟨wb, 1, none⟩ (.int .i64 (m + 1))) 3 1 (.slice a n cap) n (i64s xs) o) := ⟨hW1, hF1, hS1⟩
  clear hW hW1 hB1 hF1 hS hS1 ho hmine hll
  go_enter Tryz.func132, Tryz.ntmps132
  go_wp2_with fail
  clear k1 f1
  obtain ⟨q, hq⟩ : ∃ q, q = m + 1 := ⟨_, rfl⟩
  rw [← hq] at HX HL HM ⊢
  have hq0 : 1 ≤ q := by omega
  have hq1 : q ≤ 1099511627777 := by omega
  have HQ : Hid (q = m + 1) := hq
  clear hq hm0 hm1
  obtain ⟨W, hWe⟩ : ∃ W, W = w.setCell ⟨wb, 1, none⟩ (.int .i64 q) := ⟨_, rfl⟩
  rw [← hWe] at HX ⊢
  clear hWe
  go_loopg [4] n (fun r iv wr => ∃ (i : Nat) (c2 : Nat → Nat), i + r = n ∧ iv = .int .i64 i ∧ Hid (Wd I W0 wb ps q ls ms c2 wr ∧ Fr wb c c2 w wr ∧ Sl wr 3 1 (.slice a n cap) n (i64s (List.replicate i (-q) ++ xs.drop i)) o))
  case atStart => exact ⟨0, c, by omega, rfl, HX.out.1, HX.out.2.1, by simpa using HX.out.2.2⟩
  case round =>
    clear HX
    obtain ⟨i, c2, hir, rfl, hR⟩ := hrel
    by_cases hlt : i < n
    · obtain ⟨g, off, cap', e1, e2⟩ := hR.out.2.2.addr (by omega)
      cases e1
      obtain ⟨_, _, _, _, _, _, _, _, _, h1, _⟩ := hR.out.1.pv
      have k1 := h1.cell 1 (v := .int .i64 q) rfl
      clear h1
      obtain ⟨x, hx⟩ : ∃ x, xs[i]? = some x := ⟨_, List.getElem?_eq_getElem (by omega)⟩
      obtain ⟨y1, y2⟩ := hR.out.2.2.cells rfl i (u := .int .i64 x) (by
        unfold i64s
        rw [List.getElem?_map, List.getElem?_append_right (by simp), List.length_replicate, Nat.sub_self, List.getElem?_drop, Nat.add_zero, hx]
        rfl)
      have HF : Hid (∃ c3, Wd I W0 wb ps q ls ms c3 (wr.setCell ⟨g, off + i, none⟩ (.int .i64 (-q))) ∧ Fr wb c c3 w (wr.setCell ⟨g, off + i, none⟩ (.int .i64 (-q))) ∧ Sl (wr.setCell ⟨g, off + i, none⟩ (.int .i64 (-q))) 3 1 (.slice (some ⟨g, off, none⟩) n cap) n (i64s (List.replicate (i + 1) (-q) ++ xs.drop (i + 1))) o) := by
        obtain ⟨z1, z2, z3⟩ := hR.out
        obtain ⟨cur, hcur⟩ : ∃ cur, wr.heap[g]? = some (.cells cur 3 (0, 0)) := by
          rcases z3.2 with ⟨h, _⟩ | ⟨g', off', cap', cur, h, _, h3, _⟩
          · cases h
          · cases h; exact ⟨cur, h3⟩
        obtain ⟨x1, x2⟩ := z1.addTail (-q) o (fun g' hg => ⟨Nat.lt_of_lt_of_le (HO.out g' hg).1 z2.size, by rw [z2.col g' (HO.out g' hg).1]; exact (HO.out g' hg).2⟩) (fun g off n cap k q' e1 e2 e3 e4 => HM.out g off n cap k q' e1 e2 e3 e4) wr (wr.setCell ⟨g, off + i, none⟩ (.int .i64 (-q))) (Kp.refl _ _)
          ⟨rfl, rfl, rfl, by simp, fun k hk hne => heap_setCell_other _ _ k _ fun e => hne (by rw [e2, e])⟩ (fun g' hg' k => by
            rw [e2] at hg'; cases hg'
            rw [cell_of_row _ g k _ 3 (0, 0) (heap_setCell_same wr g _ cur 3 _ hcur), cell_of_row wr g k cur 3 (0, 0) hcur]
            by_cases hk : k = off + i
            · subst hk
              by_cases hb : off + i < cur.size
              · right; rw [Array.getElem?_setIfInBounds, if_pos rfl, if_pos hb]
              · left; rw [Array.getElem?_setIfInBounds, if_pos rfl, if_neg hb, Array.getElem?_eq_none (by omega)]
            · left; rw [Array.getElem?_setIfInBounds, if_neg (by omega)])
        exact ⟨_, x1, z2.trans x2, by rw [← fill_next n i hlt (-q) xs hxl]; exact z3.poke i _⟩
      clear hR hx
      go_wp2_with fail
      go_roundg (gk - 1)
      case measure => omega
      case rel => exact ⟨i + 1, HF.out.choose, by omega, by go_num, HF.out.choose_spec⟩
    · obtain rfl : i = n := by omega
      have HG : Hid (Kg I W0 wb ps q ls ms ls.length c w a i cap o c2 wr) := by
        have h3 := hR.out.2.2
        rw [List.drop_eq_nil_of_le (by omega), List.append_nil] at h3
        exact HL.out wr c2 hR.out.1 hR.out.2.1 h3
      clear hR HL HM HO
      go_wp2_with fail
      go_loopg [1, 5] 4 (fun r lv iv w2 => ∃ (j : Nat) (ls2 : List Value) (ms2 : List Int) (a2 : Option Addr) (cap2 : Nat) (o2 : Option Nat) (c3 : Nat → Nat), j + r = 4 ∧ iv = .int .i64 j ∧ lv = .slice a2 (i + j) cap2 ∧ Hid (Kg I W0 wb ps q ls2 ms2 (ls.length + j) c w a2 (i + j) cap2 o2 c3 w2))
      case atStart => exact ⟨0, ls, ms, a, cap, o, c2, by omega, rfl, rfl, HG⟩
      case round =>
        clear HG
        obtain ⟨j, ls2, ms2, a2, cap2, o2, c3, hjr, rfl, rfl, hG⟩ := hrel
        by_cases hj4 : j < 4
        · obtain ⟨pa, pcap, po, la, lcap, lo, ma, mcap, mo, h1, h2, h3, h4, h5, h6, h7⟩ := hG.out.wd.pv
          have k2 := h1.cell 2 (v := .slice la ls2.length lcap) rfl
          have f2 := h1.frozen 2
          have hl2 : ls2.length ≤ 4294967300 := by have := hG.out.len; omega
          have HP : Hid (Blk wr wb 57 [.slice pa ps.length pcap, .int .i64 q, .slice la ls2.length lcap, .slice ma ms2.length mcap] ∧ Sl wr 85 2 (.slice pa ps.length pcap) ps.length (pairCells ps) po ∧ Sl wr 55 1 (.slice la ls2.length lcap) ls2.length ls2 lo ∧ Sl wr 3 1 (.slice ma ms2.length mcap) ms2.length (i64s ms2) mo ∧ (∀ g, po = some g → c3 g = 0) ∧ (∀ g, lo = some g → c3 g = 3 ∧ g ≠ wb) ∧ ∀ g, mo = some g → c3 g = 3 ∧ g ≠ wb ∧ lo ≠ some g) := ⟨h1, h2, h3, h4, h5, h6, h7⟩
          have hs2 := h3.alloc (.cells #[.slice a2 (i + j) cap2] 55)
          clear h1 h2 h3 h4 h5 h6 h7
          go_wp2_with (at_builtin; refine wpList_append_sl rfl (.tmp 36) (.tmp 38) 54 54 rfl hs2 rfl j0 (.slice none 0 0) 24 Tryz.underlying54 hj hy0 hy1 hy2 rfl (.slice (some ⟨wr.heap.size, 0, none⟩) 1 1) 1 [.slice a2 (i + j) cap2] rfl ?src1 ?b11 ?b12 ?next1)
          case src1 => exact (Sl.made wr [.slice a2 (i + j) cap2] 1 55 1 rfl (by simp [maxLen])).src Tryz.underlying54 (by intro u hu; simp at hu; subst hu; rfl)
          case b11 => unfold maxLen; omega
          case b12 => omega
          case next1 =>
            intro a' cap' W5 own' hS5 hG5 hO5
            obtain ⟨h1, h2, h3, h4, h5, h6, h7⟩ := HP.out
            obtain ⟨c4, hK, hb5⟩ := hG.out.list W5 pa pcap po la lcap lo ma mcap mo h1 h2 h3 h4 h5 h6 h7 a' cap' own' hS5 (wr.alloc (.cells #[.slice a2 (i + j) cap2] 55)) ((Kp.refl _ _).alloc _) (by simp) hG5 (by rcases hO5 with e | ⟨e, _⟩; exact .inl e; exact .inr ⟨_, e, by simp⟩)
            have y2 := hb5.cell 2 (v := .slice la ls2.length lcap) rfl
            have z2 := hb5.frozen 2
            have HK : Hid (Kh I W0 wb ps q ls2 ms2 (ls.length + j) c w a2 (i + j) cap2 o2 c4 (W5.setCell ⟨wb, 2, none⟩ (.slice a' (ls2.length + 1) cap'))) := hK
            clear h1 h2 h3 h4 h5 h6 h7 hK hb5 hS5 hG5 hO5 HP hG k2 f2 hs2
            go_wp2_with fail
            clear y2 z2
            obtain ⟨V, hVe⟩ : ∃ V, V = W5.setCell ⟨wb, 2, none⟩ (.slice a' (ls2.length + 1) cap') := ⟨_, rfl⟩
            rw [← hVe] at HK ⊢
            clear hVe
            obtain ⟨pa, pcap, po, la, lcap, lo, ma, mcap, mo, h1, h2, h3, h4, h5, h6, h7⟩ := HK.out.wd.pv
            have k1 := h1.cell 1 (v := .int .i64 q) rfl
            have k3 := h1.cell 3 (v := .slice ma ms2.length mcap) rfl
            have hml : ms2.length ≤ 4294967300 := by have := HK.out.ll; omega
            have HP : Hid (Blk V wb 57 [.slice pa ps.length pcap, .int .i64 q, .slice la (ls2 ++ [Value.slice a2 (i + j) cap2]).length lcap, .slice ma ms2.length mcap] ∧ Sl V 85 2 (.slice pa ps.length pcap) ps.length (pairCells ps) po ∧ Sl V 55 1 (.slice la (ls2 ++ [Value.slice a2 (i + j) cap2]).length lcap) (ls2 ++ [Value.slice a2 (i + j) cap2]).length (ls2 ++ [Value.slice a2 (i + j) cap2]) lo ∧ Sl V 3 1 (.slice ma ms2.length mcap) ms2.length (i64s ms2) mo ∧ (∀ g, po = some g → c4 g = 0) ∧ (∀ g, lo = some g → c4 g = 3 ∧ g ≠ wb) ∧ ∀ g, mo = some g → c4 g = 3 ∧ g ≠ wb ∧ lo ≠ some g) := ⟨h1, h2, h3, h4, h5, h6, h7⟩
            have hs4 := (h4.alloc (.cells #[.int .i64 (-q)] 3)).drew
            have hlb := h1.lt
            have hwp : IntKind.i64.wrap (-q) = -q := by simp [IntKind.wrap, IntKind.bits, IntKind.signed]; omega
            clear h1 h2 h3 h4 h5 h6 h7
            go_region_law (refine step_append_sl rfl (.tmp 46) (.tmp 52) 55 55 rfl hs4 (by simp [Act.eval]) i0 _ 8 Tryz.underlying55 hi hz0 hz1 hz2 rfl (.slice (some ⟨V.heap.size, 0, none⟩) 1 1) 1 [.int .i64 (-q)] (by simp [Act.eval]) (Sl.src Tryz.underlying55 (Sl.made V [.int .i64 (-q)] 1 3 1 rfl (by simp [maxLen])).drew (by intro u hu; simp at hu; subst hu; rfl)) (by unfold maxLen; omega) (by omega) ?_; intro a3 cap3 W6 own3 hS6 hG6 hO6; obtain ⟨h1, h2, h3, h4, h5, h6, h7⟩ := HP.out; obtain ⟨c5, hK6, hb6⟩ := HK.out.mark W6 pa pcap po la lcap lo ma mcap mo h1 h2 h3 h4 h5 h6 h7 a3 cap3 own3 hS6 ((V.alloc (.cells #[.int .i64 (-q)] 3)).drew) ((Kp.refl _ _).alloc _).drew (by simp) hG6 (by rcases hO6 with e | ⟨e, _⟩; exact .inl e; exact .inr ⟨_, e, by simp⟩); have y3 := hb6.cell 3 (v := .slice ma ms2.length mcap) rfl; have z3 := hb6.frozen 3)
            all_goals
              have HK6 : Hid (Kg I W0 wb ps q (ls2 ++ [.slice a2 (i + j) cap2]) (ms2 ++ [-q]) (ls.length + j + 1) c w a2 (i + j) cap2 o2 c5 (W6.setCell ⟨wb, 3, none⟩ (.slice a3 (ms2.length + 1) cap3))) := hK6
              clear hK6 hb6 h1 h2 h3 h4 h5 h6 h7 hS6 hG6 hO6 HP HK k1 k3 hs4 hlb y3 z3
              obtain ⟨V2, hVe⟩ : ∃ V2, V2 = W6.setCell ⟨wb, 3, none⟩ (.slice a3 (ms2.length + 1) cap3) := ⟨_, rfl⟩
              rw [← hVe] at HK6 ⊢
              clear hVe
              have k1 : V2.cell? ⟨wb, 1, none⟩ = some (.int .i64 q) := by
                obtain ⟨_, _, _, _, _, _, _, _, _, h1, _⟩ := HK6.out.wd.pv
                exact h1.cell 1 rfl
              have hsl := HK6.out.sl.alloc (.cells #[.int .i64 (-q)] 3)
              clear hwp
              go_wp2_with (at_builtin; refine wpList_append_one rfl (.tmp 56) (.tmp 62) 55 55 rfl hsl rfl i0 (.int .i64 0) 8 Tryz.underlying55 hi hz0 hz1 hz2 rfl (.slice (some ⟨V2.heap.size, 0, none⟩) 1 1) (.int .i64 (-q)) rfl ((Sl.made V2 [.int .i64 (-q)] 1 3 1 rfl (by simp [maxLen])).src Tryz.underlying55 (by intro u hu; simp at hu; subst hu; rfl)) (by unfold maxLen; omega) (by omega) ?_)
              intro a4 cap4 W7 own4 hS7 hG7 hO7 hC7
              have HK7 : Hid (∃ c6, Kg I W0 wb ps q (ls2 ++ [.slice a2 (i + j) cap2]) (ms2 ++ [-q]) (ls.length + j + 1) c w a4 (i + j + 1) cap4 own4 c6 W7) :=
                HK6.out.tail (V2.alloc (.cells #[.int .i64 (-q)] 3)) W7 ((Kp.refl _ _).alloc _) hG7 hC7 a4 cap4 own4 hS7 (by rcases hO7 with e | ⟨e, _⟩; exact .inl e; exact .inr ⟨_, e, by simp⟩)
              clear hS7 hG7 hO7 hC7 HK6 k1 hsl
              go_wp2_with fail
              go_roundg (gk - 1)
              case measure => omega
              case rel => exact ⟨j + 1, _, _, a4, cap4, own4, HK7.out.choose, by omega, by go_num, rfl, HK7.out.choose_spec⟩
        · obtain rfl : j = 4 := by omega
          have HF : Hid (∃ ls' ms' c', ls'.length = ms'.length ∧ ls'.length = ls.length + 4 ∧ Wd I W0 wb ps q ls' ms' c' wr ∧ Fr wb c c' w wr) := ⟨ls2, ms2, c3, hG.out.ll, hG.out.len, hG.out.wd, hG.out.fr⟩
          clear hG
          go_wp2_with fail
          go_end0
          exact ⟨rfl, by rw [← HQ.out]; exact HF.out⟩
end
end Go.Proofs.YtfnglkhhmplejaaGreat
namespace Go.Proofs.YtfnglkhhmplejaaGreat
open Go Go.RowKit Go.Clk

section
variable (I J : St → Prop) (W0 : World) (wb : Nat) (ps : List (Nat × Nat × St)) (m : Int) (ls : List Value) (ms : List Int) (c : Nat → Nat) (w : World) (i bt br : Nat) (σ : St)

/-- What has come about when both have told their signals. -/
theorem told (hW : Wd I W0 wb ps m ls ms c w) (hIJ : ∀ σ, I σ → J σ) (hi : ps[i]? = some (bt, br, σ)) (hJ : J σ.signals.1) (W1 W2 : World) (v : Value) (o : Option Nat)
    (hS : Sl W1 3 1 v σ.noted.length (i64s σ.noted) o) (ho : ∀ g, o = some g → g < w.heap.size → c g = 2 * i + 4)
    (hT1 : OT W1 (recol2 w c (2 * i + 4) o) (2 * i + 4) bt σ.signals.1) (ht1 : Tn c (2 * i + 4) w W1)
    (hR2 : OR W2 (recol W1 (recol2 w c (2 * i + 4) o) (2 * i + 5)) (2 * i + 5) br σ.signals.1) (ht2 : Tn (recol2 w c (2 * i + 4) o) (2 * i + 5) W1 W2) :
    ∃ c2, Wd J W0 wb (ps.set i (bt, br, σ.signals.1)) m ls ms c2 W2 ∧ Sl W2 3 1 v σ.noted.length (i64s σ.noted) o ∧ (∀ g, o = some g → c2 g = 2) ∧ (∀ k, k < w.heap.size → c k < 4 → c2 k = c k ∧ W2.heap[k]? = w.heap[k]?) ∧ w.heap.size ≤ W2.heap.size ∧
      ∀ (g off n' cap' k : Nat) (q' : Int), o = some g → ls[k]? = some (.slice (some ⟨g, off, none⟩) n' cap') → ms[k]? = some q' → ¬ 0 < n' := by
  have s1 := ht1.size
  have s2 := ht2.size
  have hcol : ∀ k, k < w.heap.size → c k ≠ 2 * i + 4 → recol W1 (recol2 w c (2 * i + 4) o) (2 * i + 5) k = c k := fun k hk hn => by
    rw [recol_old (by omega), recol2_old hk (fun e => hn (ho k e hk))]
  have hS2 : Sl W2 3 1 v σ.noted.length (i64s σ.noted) o := hS.same fun g hg => ht2.block g (hS.lt hg) (by rw [recol2_at hg]; omega)
  have hOT : OT W2 (recol W1 (recol2 w c (2 * i + 4) o) (2 * i + 5)) (2 * i + 4) bt σ.signals.1 := hT1.stayW s2 (fun k hk hc => ht2.block k hk (by omega)) fun k hk hc => by rw [recol_old hk]; exact hc
  have hTw : Tw c (2 * i + 4) (2 * i + 5) w W2 := ⟨ht2.os.trans ht1.os, ht2.tape.trans ht1.tape, ht2.output.trans ht1.output, Nat.le_trans s1 s2, fun k hk h1 h2 => by
    rw [ht2.block k (by omega) (by rw [recol2_old hk (fun e => h1 (ho k e hk))]; exact h2)]
    exact ht1.block k hk h1⟩
  obtain ⟨x1, x2⟩ := hW.turn (J := J) (c' := recol W1 (recol2 w c (2 * i + 4) o) (2 * i + 5)) hIJ hi ⟨hOT, hR2⟩ hTw hcol hJ
  refine ⟨_, x1, hS2, fun g hg => by rw [recol_old (hS.lt hg)]; exact recol2_at hg, fun k hk h4 => ⟨hcol k hk (by omega), x2 k hk h4⟩, Nat.le_trans s1 s2, fun g off n' cap' k q' e1 e2 e3 e4 => ?_⟩
  obtain ⟨b, n2, c2, e5, _, hk⟩ := hW.kept k _ q' e2 e3
  cases e5
  obtain ⟨g2, off2, e6, e7, e8⟩ := hk 0 e4
  cases e6
  have hg : g < w.heap.size := World.block_lt_of_cell? w _ e8
  have := ho g e1 hg
  omega

set_option maxHeartbeats 8000000 in
set_option maxRecDepth 100000 in
theorem lsignals_any (hW : Wd I W0 wb ps m ls ms c w) (hIJ : ∀ σ, I σ → J σ) (hi : ps[i]? = some (bt, br, σ)) (hJ : J σ.signals.1) (hll : ls.length = ms.length) (hl4 : ls.length ≤ 4294967296) (hm0 : 0 ≤ m) (hm1 : m ≤ 1099511627776) (hn : σ.noted.length ≤ 1099511627776) :
    Calls Tryz.prog 101 #[.pointer (some ⟨wb, 0, none⟩), .agg #[.pointer (some ⟨bt, 0, none⟩), .pointer (some ⟨br, 0, none⟩)]] w fun e w' => e = .returned (.bool true) ∧
      ∃ ls' ms' c', ls'.length = ms'.length ∧ ls'.length = ls.length + 4 ∧ Wd J W0 wb (ps.set i (bt, br, σ.signals.1)) (m + 1) ls' ms' c' w' ∧ (∀ k, k < w.heap.size → c k < 2 → w'.heap[k]? = w.heap[k]?) ∧ w'.cell? ⟨wb, 0, none⟩ = w.cell? ⟨wb, 0, none⟩ := by
  have HW : Hid (Wd I W0 wb ps m ls ms c w) := hW
  have HH : Hid ((∀ σ, I σ → J σ) ∧ J σ.signals.1 ∧ ls.length = ms.length ∧ ps[i]? = some (bt, br, σ)) := ⟨hIJ, hJ, hll, hi⟩
  have HWL : Hid (wb < w.heap.size ∧ c wb = 3) := ⟨hW.lt, hW.cb⟩
  clear hW hIJ hJ hll hi
  go_enter Tryz.func101, Tryz.ntmps101
  have hWa := HW.out.alloc (.cells #[.pointer (some ⟨bt, 0, none⟩), .pointer (some ⟨br, 0, none⟩)] 85)
  have hA := Bx.new w c 85 [.pointer (some ⟨bt, 0, none⟩), .pointer (some ⟨br, 0, none⟩)]
  have HC : Hid ((∀ k, k < w.heap.size → recol w c 0 k = c k) ∧ (∀ k, k < w.heap.size → (w.alloc (.cells #[.pointer (some ⟨bt, 0, none⟩), .pointer (some ⟨br, 0, none⟩)] 85)).heap[k]? = w.heap[k]?) ∧ w.heap.size ≤ (w.alloc (.cells #[.pointer (some ⟨bt, 0, none⟩), .pointer (some ⟨br, 0, none⟩)] 85)).heap.size) := ⟨fun k hk => recol_old hk, fun k hk => Below.heap_alloc w _ k hk, by simp⟩
  clear HW
  go_wp2_with fail
  obtain ⟨c1, hc1⟩ : ∃ c1, c1 = recol w c 0 := ⟨_, rfl⟩
  rw [← hc1] at hWa hA HC
  clear hc1
  refine ((hWa.t i bt br σ HH.out.2.2.2).1.signals).mono ?_
  rintro e W1 ⟨v, o, rfl, hS, ho, hT1, ht1⟩
  obtain ⟨va, vcap, rfl, hv1, hv2⟩ := hS.shape
  have hOR : OR W1 (recol2 (w.alloc (.cells #[.pointer (some ⟨bt, 0, none⟩), .pointer (some ⟨br, 0, none⟩)] 85)) c1 (2 * i + 4) o) (2 * i + 5) br σ := (hWa.t i bt br σ HH.out.2.2.2).2.1.stayW ht1.size (fun k hk hc => ht1.block k hk (by omega)) fun k hk hc => by rw [recol2_old hk (fun e => by have := ho k e hk; omega)]; exact hc
  have hA1 : Blk W1 w.heap.size 85 [.pointer (some ⟨bt, 0, none⟩), .pointer (some ⟨br, 0, none⟩)] := by
    unfold Blk; rw [ht1.block w.heap.size hA.1.lt (by rw [hA.2]; omega)]; exact hA.1
  have a1 := hA1.cell 1 (v := .pointer (some ⟨br, 0, none⟩)) rfl
  clear hA hA1
  go_wp2_with fail
  refine (hOR.signals).mono ?_
  rintro e W2 ⟨v2, o2, rfl, hS2, hR2, ht2⟩
  obtain ⟨vb, wcap, rfl, hw1, hw2⟩ := hS2.shape
  obtain ⟨c2, x1, x2, x3, x4, x5, x6⟩ := told I J W0 wb ps m ls ms c1 _ i bt br σ hWa HH.out.1 HH.out.2.2.2 HH.out.2.1 W1 W2 _ o hS ho hT1 ht1 hR2 ht2
  have HX : Hid (Wd J W0 wb (ps.set i (bt, br, σ.signals.1)) m ls ms c2 W2 ∧ Sl W2 3 1 (.slice va σ.noted.length vcap) σ.noted.length (i64s σ.noted) o ∧ (∀ g, o = some g → c2 g = 2) ∧ (∀ (g off n' cap' k : Nat) (q' : Int), o = some g → ls[k]? = some (.slice (some ⟨g, off, none⟩) n' cap') → ms[k]? = some q' → ¬ 0 < n')) := ⟨x1, x2, x3, x6⟩
  have HB : Hid ((∀ k, k < w.heap.size → c k < 4 → c2 k = c k ∧ W2.heap[k]? = w.heap[k]?) ∧ w.heap.size ≤ W2.heap.size) :=
    ⟨fun k hk h4 => by
      have := x4 k (Nat.lt_of_lt_of_le hk HC.out.2.2) (by rw [HC.out.1 k hk]; exact h4)
      exact ⟨this.1.trans (HC.out.1 k hk), this.2.trans (HC.out.2.1 k hk)⟩, Nat.le_trans HC.out.2.2 x5⟩
  have HS2 : Hid (Sl W2 3 1 (.slice vb σ.noted.length wcap) σ.noted.length (i64s σ.noted) o2) := hS2
  clear x1 x2 x3 x4 x5 x6 hS hS2 hR2 ht2 hOR hT1 ht1 ho hWa HC a1
  go_wp2_with fail
  have HC2 : Hid (∀ k, k < w.heap.size → c k < 4 → c2 k = c k) := fun k hk h4 => (HB.out.1 k hk h4).1
  have HMN : Hid (∀ (g off n' cap' k : Nat) (q' : Int), o = some g → ls[k]? = some (.slice (some ⟨g, off, none⟩) n' cap') → ms[k]? = some q' → ¬ 0 < n') := HX.out.2.2.2
  have HCO : Hid (∀ g, o = some g → c2 g = 2) := HX.out.2.2.1
  go_loopg [7, 8] σ.noted.length (fun r sv iv wr => ∃ (j : Nat), j + r = σ.noted.length ∧ iv = .int .i64 j ∧ sv = .bool true ∧ Hid (Wd J W0 wb (ps.set i (bt, br, σ.signals.1)) m ls ms c2 wr ∧ Sl wr 3 1 (.slice va σ.noted.length vcap) σ.noted.length (i64s σ.noted) o ∧ (∀ k, k < w.heap.size → c k < 4 → wr.heap[k]? = w.heap[k]?) ∧ w.heap.size ≤ wr.heap.size ∧ Sl wr 3 1 (.slice vb σ.noted.length wcap) σ.noted.length (i64s σ.noted) o2))
  case atStart => exact ⟨0, by omega, rfl, by simp, HX.out.1, HX.out.2.1, fun k hk h4 => (HB.out.1 k hk h4).2, HB.out.2, HS2.out⟩
  case round =>
    clear HX HB HS2
    obtain ⟨j, hjr, rfl, rfl, hR⟩ := hrel
    by_cases hlt : j < σ.noted.length
    · obtain ⟨g, off, cap', e1, _⟩ := hR.out.2.1.addr (by omega)
      cases e1
      obtain ⟨g2, off2, cap2, e2, _⟩ := hR.out.2.2.2.2.addr (by omega)
      cases e2
      have x1 := (hR.out.2.1.cells rfl j (u := .int .i64 σ.noted[j]) (by simp [i64s, hlt])).1
      have x2 := (hR.out.2.2.2.2.cells rfl j (u := .int .i64 σ.noted[j]) (by simp [i64s, hlt])).1
      generalize σ.noted[j] = y at *
      go_wp2_with fail
      go_quiet (fail)
      have HR2 : Hid (Wd J W0 wb (ps.set i (bt, br, σ.signals.1)) m ls ms c2 (wr.drewN nq) ∧ Sl (wr.drewN nq) 3 1 (.slice (some ⟨g, off, none⟩) σ.noted.length vcap) σ.noted.length (i64s σ.noted) o ∧ (∀ k, k < w.heap.size → c k < 4 → (wr.drewN nq).heap[k]? = w.heap[k]?) ∧ w.heap.size ≤ (wr.drewN nq).heap.size ∧ Sl (wr.drewN nq) 3 1 (.slice (some ⟨g2, off2, none⟩) σ.noted.length wcap) σ.noted.length (i64s σ.noted) o2) :=
        ⟨hR.out.1.drewN nq, hR.out.2.1.same fun _ _ => rfl, hR.out.2.2.1, hR.out.2.2.2.1, hR.out.2.2.2.2.same fun _ _ => rfl⟩
      clear hR
      go_wp2_with fail
      go_roundg (gk - 1)
      case measure => omega
      case rel => exact ⟨j + 1, by omega, by go_num, by simp, HR2⟩
    · go_wp2_with fail
      refine (keep_any J W0 wb (ps.set i (bt, br, σ.signals.1)) m ls ms c2 wr hR.out.1 HH.out.2.2.1 hl4 hm0 hm1 _ σ.noted.length σ.noted o hR.out.2.1 hn HCO.out (fun g off n' cap' k q' e1 e2 e3 e4 => absurd e4 (HMN.out g off n' cap' k q' e1 e2 e3))).mono ?_
      rintro e W3 ⟨rfl, ls', ms', c3, e1, e2, hW3, hF⟩
      have HF : Hid (∃ ls' ms' c', ls'.length = ms'.length ∧ ls'.length = ls.length + 4 ∧ Wd J W0 wb (ps.set i (bt, br, σ.signals.1)) (m + 1) ls' ms' c' W3 ∧ (∀ k, k < w.heap.size → c k < 2 → W3.heap[k]? = w.heap[k]?) ∧ W3.cell? ⟨wb, 0, none⟩ = w.cell? ⟨wb, 0, none⟩) :=
        ⟨ls', ms', c3, e1, e2, hW3, fun k hk h2 => (hF.block k (Nat.lt_of_lt_of_le hk hR.out.2.2.2.1) (by rw [HC2.out k hk (by omega)]; omega) (by rw [HC2.out k hk (by omega)]; omega)).trans (hR.out.2.2.1 k hk (by omega)), hF.head.trans (World.cell?_of_block (hR.out.2.2.1 wb HWL.out.1 (by rw [HWL.out.2]; omega)))⟩
      clear hR hW3 hF e1 e2
      go_wp2_with fail
      go_ret
      exact ⟨rfl, HF.out⟩

set_option maxHeartbeats 2000000 in
set_option maxRecDepth 100000 in
theorem tells_signals (term n : Int) (s : ByteArray) (ss : List Int) (hW : Wd I W0 wb ps m ls ms c w) (hIJ : ∀ σ, I σ → J σ) (hi : ps[i]? = some (bt, br, σ)) (hJ : J σ.signals.1) (hll : ls.length = ms.length) (hl4 : ls.length ≤ 4294967296) (hm0 : 0 ≤ m) (hm1 : m ≤ 1099511627776) (hn : σ.noted.length ≤ 1099511627776) :
    Calls Tryz.prog 71 #[.pointer (some ⟨wb, 0, none⟩), .agg #[.pointer (some ⟨bt, 0, none⟩), .pointer (some ⟨br, 0, none⟩)], .agg (opCells 7 term n s ss).toArray] w fun e w' => e = .returned (.bool true) ∧
      ∃ ls' ms' c', ls'.length = ms'.length ∧ ls'.length = ls.length + 4 ∧ Wd J W0 wb (ps.set i (bt, br, σ.signals.1)) (m + 1) ls' ms' c' w' ∧ (∀ k, k < w.heap.size → c k < 2 → w'.heap[k]? = w.heap[k]?) ∧ w'.cell? ⟨wb, 0, none⟩ = w.cell? ⟨wb, 0, none⟩ := by
  have HW : Hid (Wd I W0 wb ps m ls ms c w) := hW
  have HH : Hid ((∀ σ, I σ → J σ) ∧ J σ.signals.1 ∧ ls.length = ms.length ∧ ps[i]? = some (bt, br, σ)) := ⟨hIJ, hJ, hll, hi⟩
  clear hW hIJ hJ hll hi
  go_enter Tryz.func71, Tryz.ntmps71
  go_wp2_with (first | refine wpList_box rfl (.tmp 2) 60 rfl (opCells 7 term n s ss) rfl ?_)
  intro W B hid
  have HW2 : Hid (∃ c2, Wd I W0 wb ps m ls ms c2 W ∧ (∀ k, k < w.heap.size → c2 k = c k ∧ W.heap[k]? = w.heap[k]?) ∧ w.heap.size ≤ W.heap.size) := by
    rw [hid.out.2]
    refine ⟨_, (HW.out.alloc _).alloc _, fun k hk => ⟨?_, ?_⟩, by simp; omega⟩
    · rw [recol_old (by simp; omega), recol_old hk]
    · rw [Below.heap_alloc _ _ k (by simp; omega), Below.heap_alloc _ _ k hk]
  have hA : Blk W w.heap.size 85 [.pointer (some ⟨bt, 0, none⟩), .pointer (some ⟨br, 0, none⟩)] := by
    rw [hid.out.2]
    unfold Blk
    rw [Below.heap_alloc _ _ _ (by simp)]
    exact Blk.new w [.pointer (some ⟨bt, 0, none⟩), .pointer (some ⟨br, 0, none⟩)] 85
  have hB : Blk W B 60 (opCells 7 term n s ss) := by
    rw [hid.out.1, hid.out.2]
    have := Blk.new (w.alloc (.cells [.pointer (some ⟨bt, 0, none⟩), .pointer (some ⟨br, 0, none⟩)].toArray 85)) (opCells 7 term n s ss) 60
    simpa using this
  have HWL : Hid (wb < w.heap.size) := HW.out.lt
  clear HW hid
  obtain ⟨A, hAe⟩ : ∃ A, A = w.heap.size := ⟨_, rfl⟩
  rw [← hAe] at hA ⊢
  have HAe : Hid (A = w.heap.size) := hAe
  clear hAe
  have a0 := hA.cell 0 (v := .pointer (some ⟨bt, 0, none⟩)) rfl
  have a1 := hA.cell 1 (v := .pointer (some ⟨br, 0, none⟩)) rfl
  have b0 := hB.cell 0 (v := .int .i64 7) rfl
  clear hA hB
  go_wp2_with fail
  obtain ⟨c2, hW2, hc2, hs2⟩ := HW2.out
  refine (lsignals_any I J W0 wb ps m ls ms c2 W i bt br σ hW2 HH.out.1 HH.out.2.2.2 HH.out.2.1 HH.out.2.2.1 hl4 hm0 hm1 hn).mono ?_
  rintro e W3 ⟨rfl, ls', ms', c3, e1, e2, hW3, hF, hF0⟩
  have HF : Hid (∃ ls' ms' c', ls'.length = ms'.length ∧ ls'.length = ls.length + 4 ∧ Wd J W0 wb (ps.set i (bt, br, σ.signals.1)) (m + 1) ls' ms' c' W3 ∧ (∀ k, k < w.heap.size → c k < 2 → W3.heap[k]? = w.heap[k]?) ∧ W3.cell? ⟨wb, 0, none⟩ = w.cell? ⟨wb, 0, none⟩) :=
    ⟨ls', ms', c3, e1, e2, hW3, fun k hk h2 => (hF k (by omega) (by rw [(hc2 k hk).1]; exact h2)).trans (hc2 k hk).2, hF0.trans (World.cell?_of_block (hc2 wb HWL.out).2)⟩
  clear hW3 hF hF0 e1 e2 hW2 hc2 hs2 HW2 a0 a1 b0
  go_wp2_with fail
  go_ret
  exact ⟨rfl, HF.out⟩
end
/-- Signals, as a step. -/
theorem does_signals {I J : St → Prop} (M : Nat) (hM : M ≤ 1000000000) {wb : Nat} {term n : Int} {s : ByteArray} {ss : List Int} (hss : ss.length = 17) (hIJ : ∀ σ, I σ → J σ) (hJ : ∀ σ, I σ → J σ.signals.1 ∧ σ.noted.length ≤ 1099511627776) :
    DoesOk I J M wb 7 term n s ss := by
  intro W0 ps c W i bt br σ hW hi
  obtain ⟨m, ls, ms, h1, h2, h3, h4, h5⟩ := hW
  refine (does_tells bt br wb W 7 term n s ss (fun w' => ∃ ps' c', ps'.length = ps.length ∧ Wl J W0 wb ps' (M + 1) c' w' ∧ (∀ k, k < W.heap.size → c k = 0 → w'.heap[k]? = W.heap[k]?) ∧ w'.cell? ⟨wb, 0, none⟩ = W.cell? ⟨wb, 0, none⟩) hss rfl rfl rfl rfl rfl rfl rfl rfl fun V hV => ?_)
  have hWV : Wd I W0 wb ps m ls ms (recol (W.alloc (.cells [.pointer (some ⟨bt, 0, none⟩), .pointer (some ⟨br, 0, none⟩)].toArray 85)) (recol W c 0) 0) V := by rw [hV]; exact (h5.alloc _).alloc _
  have hb : ∀ k, k < W.heap.size → V.heap[k]? = W.heap[k]? := fun k hk => by rw [hV, Below.heap_alloc _ _ k (by simp; omega), Below.heap_alloc _ _ k hk]
  have hc : ∀ k, k < W.heap.size → recol (W.alloc (.cells [.pointer (some ⟨bt, 0, none⟩), .pointer (some ⟨br, 0, none⟩)].toArray 85)) (recol W c 0) 0 k = c k := fun k hk => by rw [recol_old (by simp; omega), recol_old hk]
  have hsz : W.heap.size ≤ V.heap.size := by rw [hV]; simp; omega
  have hI := (h5.t i bt br σ hi).2.2
  refine (tells_signals I J W0 wb ps m ls ms _ V i bt br σ term n s ss hWV hIJ hi (hJ σ hI).1 h3 (by omega) h1 (by omega) (hJ σ hI).2).mono ?_
  rintro e w' ⟨rfl, ls', ms', c', e1, e2, hW3, hF, hF0⟩
  exact ⟨rfl, _, c', by simp, ⟨m + 1, ls', ms', by omega, by omega, e1, by omega, hW3⟩, fun k hk h0 => (hF k (by omega) (by rw [hc k hk, h0]; omega)).trans (hb k hk), hF0.trans (World.cell?_of_block (hb wb h5.lt))⟩
end Go.Proofs.YtfnglkhhmplejaaGreat
