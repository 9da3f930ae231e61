/- Walks: the program: entries are gone through from the last one on (slices.Backward). -/
import Derived.Test.YtfnglkhhmplejaaGreatProg30
import Derived.RangeFuncNested
import Derived.RangeFuncBound
import Derived.RangeFuncCalls
import Derived.RangeFuncLeaves
import Derived.Shelf.Abstract
import Derived.Shelf.RegionOpen
import Derived.OwnWalkIn
import Derived.TacticsInMore
import Derived.LoopNIn
import Derived.LoopIn
namespace Go.Clk
open Go Go.RowKit
/-- A place, and the entry there. -/
def Rb : Type := { p : Int × Ent // 0 ≤ p.2.cells ∧ p.2.cells ≤ 128 }
def Rb.mk (i : Int) (e : Ent) (h : 0 ≤ e.cells ∧ e.cells ≤ 128) : Rb := ⟨(i, e), h⟩
def Rb.ent (x : Rb) : Ent := x.1.2
def Rb.encs (x : Rb) : Array Value := #[.int .i64 x.1.1, .agg #[.int .u8 x.1.2.b.toNat, .bool x.1.2.file, .bool x.1.2.fin, .int .i64 x.1.2.cells]]
/-- These blocks are as they were. -/
def KpL (L : List Nat) (W W' : World) : Prop := ∀ j, j ∈ L → W'.heap[j]? = W.heap[j]?
theorem KpL.refl (L : List Nat) (W : World) : KpL L W W := fun _ _ => rfl
theorem KpL.trans {L : List Nat} {A B C : World} (h : KpL L A B) (k : KpL L B C) : KpL L A C := fun j hj => (k j hj).trans (h j hj)
theorem Sl.kpl {W W' : World} {L : List Nat} {e : TypeId} {size : Nat} {v : Value} {n : Nat} {xs : List Value} {o : Option Nat} (h : Sl W e size v n xs o) (hk : KpL L W W') (ho : ∀ g, o = some g → g ∈ L) : Sl W' e size v n xs o :=
  h.same fun g e => hk g (ho g e)
end Go.Clk
namespace Go.Proofs.YtfnglkhhmplejaaGreat
open Go Go.RowKit Go.Clk Go.Shelf
attribute [local go_sem] Oper.semAt_some

set_option maxRecDepth 100000 in
set_option maxHeartbeats 2000000 in
theorem back1_in (F : Fence) (n : Nat) (hf : F.fn 161) (hro : F.round = none) (hn : 1 ≤ n) (l Bs : Nat) (L : List Nat) (a : Option Addr) (cap : Nat) (gone : List Ent) (hg256 : gone.length ≤ 256) (hcells : ∀ e ∈ gone, 0 ≤ e.cells ∧ e.cells ≤ 128) (o : Option Nat) (J Jx : List Rb → World → Prop)
    (hY : ∀ pre x W, J pre W → pre.length < gone.length → YieldAt F (n - 1) Tryz.prog l x.encs W fun e W' =>
      (e = .returned (.bool true) ∧ J (pre ++ [x]) W' ∧ KpL L W W') ∨ (e = .returned (.bool false) ∧ Jx (pre ++ [x]) W'))
    (W : World) (hBL : Bs ∈ L) (hoL : ∀ g, o = some g → g ∈ L) (hBs : W.cell? ⟨Bs, 0, none⟩ = some (.slice a gone.length cap)) (hs : Sl W 112 4 (.slice a gone.length cap) gone.length (pents gone) o) (h0 : J [] W) :
    CallsIn F n Tryz.prog 161 #[.func (.yield l) #[] #[], .pointer (some ⟨Bs, 0, none⟩)] W fun e W' => (∃ v, e = .returned v) ∧
      ((∃ ys, ys.map Rb.ent = gone.reverse ∧ J ys W') ∨ (∃ pre, True ∧ Jx pre W')) := by
  refine callsIn_of_wp Tryz.func161 rfl hf ?_ hro
  simp only [Tryz.ntmps161, List.size_toArray, List.length_cons, List.length_nil, Nat.reduceAdd, Nat.reduceSub, Array.replicate_succ, Array.replicate_zero, List.push_toArray, List.append_toArray, List.nil_append, List.cons_append]
  gi_wp2
  gi_loopw [3] (fun i wr => ∃ (k : Nat) (pre : List Rb), k ≤ gone.length ∧ i = .int .i64 ((k : Int) - 1) ∧ pre.map Rb.ent = (gone.drop k).reverse ∧ J pre wr ∧ KpL L W wr)
    (fun i _ => (intOf i + 1).toNat)
  case atStart => exact ⟨gone.length, [], Nat.le_refl _, rfl, by simp, h0, KpL.refl _ _⟩
  case round =>
    obtain ⟨k, pre, hk, rfl, hpre, hJs, hnx⟩ := hrel
    have hbc : wr.cell? ⟨Bs, 0, none⟩ = some (.slice a gone.length cap) := (World.cell?_of_block (hnx Bs hBL)).trans hBs
    have hsw := hs.kpl hnx hoL
    have hpl : pre.length + k = gone.length := by
      have := congrArg List.length hpre
      simp at this; omega
    have HP : Hid (pre.map Rb.ent = (gone.drop k).reverse) := hpre
    clear hpre
    by_cases hlt : 0 < k
    · obtain ⟨q, rfl⟩ : ∃ q, k = q + 1 := ⟨k - 1, by omega⟩
      have hql : q < gone.length := by omega
      obtain ⟨ug, uoff, uc, he, rfl⟩ := hsw.addr (by omega)
      cases he
      obtain ⟨en, hen⟩ : ∃ en, gone[q] = en := ⟨_, rfl⟩
      have zb := (hsw.cells rfl (q * 4 + 0) (u := .int .u8 (en.b.toNat : Int)) (by rw [pents_get gone q hql 0 (by omega), hen]; rfl)).1
      have zf := (hsw.cells rfl (q * 4 + 1) (u := .bool en.file) (by rw [pents_get gone q hql 1 (by omega), hen]; rfl)).1
      have ze := (hsw.cells rfl (q * 4 + 2) (u := .bool en.fin) (by rw [pents_get gone q hql 2 (by omega), hen]; rfl)).1
      have zc := (hsw.cells rfl (q * 4 + 3) (u := .int .i64 en.cells) (by rw [pents_get gone q hql 3 (by omega), hen]; rfl)).1
      simp only [← Nat.add_assoc, Nat.add_zero] at zb zf ze zc
      have hce := hcells en (by rw [← hen]; exact List.getElem_mem hql)
      have HP2 : Hid ((pre ++ [Rb.mk (q : Int) en hce]).map Rb.ent = (gone.drop q).reverse) := by
        show (pre ++ [Rb.mk (q : Int) en hce]).map Rb.ent = _
        rw [List.map_append, HP.out, List.drop_eq_getElem_cons hql, List.reverse_cons, hen]; rfl
      obtain ⟨fn, tmps, assign, body, hy, hR⟩ := hY pre (Rb.mk (q : Int) en hce) wr hJs (by omega)
      dsimp only [Rb.encs, Rb.mk] at hy
      have hki : ((q + 1 : Nat) : Int) - 1 = (q : Int) := by omega
      rw [hki]
      clear hsw hen hs HP hki
      gi_wp2
      refine hR.mono ?_
      rintro e W3 (⟨rfl, hJ3, hk3⟩ | ⟨rfl, hJx3⟩)
      · gi_wp2
        go_roundw
        case rel => exact ⟨q, _, by omega, by simp, HP2.out, hJ3, hnx.trans hk3⟩
        case measure => first | (simp [intOf]; done) | (simp [intOf]; omega)
      · gi_wp2
        refine bodyPost_ret (results_none rfl _ _ _) rfl ?_
        exact ⟨⟨_, rfl⟩, .inr ⟨_, trivial, hJx3⟩⟩
    · obtain rfl : k = 0 := by omega
      have hki : ((0 : Nat) : Int) - 1 = -1 := by omega
      rw [hki]
      clear hsw hs hki
      gi_wp2
      go_end0
      exact ⟨⟨_, rfl⟩, .inl ⟨pre, by rw [HP.out]; simp, hJs⟩⟩

set_option maxHeartbeats 1000000 in
theorem back_in (F : Fence) (n : Nat) (hf : F.fn 154) (hro : F.round = none) (a : Option Addr) (len cap : Nat) (w : World) :
    CallsIn F n Tryz.prog 154 #[.slice a len cap] w fun e w' => e = .returned (.func (.func 161) #[] #[.pointer (some ⟨w.heap.size, 0, none⟩)]) ∧ w' = w.alloc (.cells #[.slice a len cap] 69) := by
  refine callsIn_of_wp Tryz.func154 rfl hf ?_ hro
  simp only [Tryz.ntmps154, List.size_toArray, List.length_cons, List.length_nil, Nat.reduceAdd, Nat.reduceSub, Array.replicate_succ, Array.replicate_zero, List.push_toArray, List.append_toArray, List.nil_append, List.cons_append]
  gi_wp2
  go_ret
  exact ⟨rfl, rfl⟩

/-- All of them come, the last one first. -/
theorem back_stops (F : Fence) (n : Nat) (hf : F.fn 161) (hro : F.round = none) (hn : 1 ≤ n) (Bs : Nat) (L : List Nat) (a : Option Addr) (cap : Nat) (gone : List Ent) (hg256 : gone.length ≤ 256) (hcells : ∀ e ∈ gone, 0 ≤ e.cells ∧ e.cells ≤ 128) (o : Option Nat) (w : World)
    (hBL : Bs ∈ L) (hoL : ∀ g, o = some g → g ∈ L) (hBlt : Bs < w.heap.size) (hc : w.cell? ⟨Bs, 0, none⟩ = some (.slice a gone.length cap)) (hs : Sl w 112 4 (.slice a gone.length cap) gone.length (pents gone) o) :
    SeqStopsK F n Tryz.prog 161 #[.pointer (some ⟨Bs, 0, none⟩)] Rb.encs (KpL L) (fun ys => ys.map Rb.ent = gone.reverse) (fun _ => True) gone.length w := fun l J Jx W hW _ _ hY h0 => by
  have hc' := (hW.cell (p := ⟨Bs, 0, none⟩) hBlt).trans hc
  have hs' : Sl W 112 4 (.slice a gone.length cap) gone.length (pents gone) o := hs.same fun g e => hW.block g (hs.lt e)
  exact back1_in F n hf hro hn l Bs L a cap gone hg256 hcells o J Jx hY W hBL hoL hc' hs' h0
end Go.Proofs.YtfnglkhhmplejaaGreat
