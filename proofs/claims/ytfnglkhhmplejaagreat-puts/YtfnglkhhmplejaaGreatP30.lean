/- Walks: the program: bytes are put out while entries that were rubbed out are still to be read. (Written by mkProg30.py.) -/
import Derived.Test.YtfnglkhhmplejaaGreatP16
import Derived.Test.YtfnglkhhmplejaaGreatP12
import Derived.Test.YtfnglkhhmplejaaGreatBase2
import Derived.RangeFuncNested
import Derived.RangeFuncBound
import Derived.RangeFuncCalls
import Derived.RangeFuncLeaves
import Derived.Shelf.Abstract
import Derived.Shelf.RegionOpen
import Derived.OwnWalkIn
import Derived.TacticsInMore
import Derived.LoopNIn
import Derived.LoopIn
namespace Go.Proofs.YtfnglkhhmplejaaGreat
open Go Go.RowKit Go.Clk

section
variable (S0 : List Nat) (w0 : World) (x : List Nat) (b : Nat) (σ : St) (ci vi : Value) (w : World) (C : Int)

set_option maxHeartbeats 1000000 in
set_option maxRecDepth 100000 in
theorem OPut_q (h : AtQ S0 w0 x b σ ci vi w) (ok : Ok σ C) (hC : C ≤ 1152921504606846976) (hl : σ.out.length ≤ 256) (lv : Value) (l : List UInt8) (ol : Option Nat) (hL : Sl w 5 1 lv l.length (bys l) ol) (hn : l.length ≤ 10000) :
    Calls Tryz.prog 87 #[.pointer (some ⟨b, 18, none⟩), .int .i64 σ.o, lv] w fun e w' => e = .returned (.bool (σ.put l).2) ∧ AtQ S0 w0 x b (σ.put l).1 ci vi w' := by
  obtain ⟨i0, hi, hz0, hz1, hz2⟩ := info_parts info_u8
  obtain ⟨vu, vo, vs, hV⟩ := h
  have o0 := ok.o0; have o1 := ok.o1; have c0 := ok.c0; have c1 := ok.c1
  have k20 := hV.c_col
  obtain ⟨la, lcap, rfl, hl1, hl2⟩ := hL.shape
  have HR := renderL_col σ.o c0 l
  have HP : Hid (σ.put l = if 256 < σ.out.length + (renderL σ.o σ.col l).1.length then (σ, false) else ({ σ with out := σ.out ++ (renderL σ.o σ.col l).1, col := (renderL σ.o σ.col l).2 }, true)) := by
    show σ.put l = _
    unfold St.put
    rw [putAll_render]
    simp
  go_enter Tryz.func87, Tryz.ntmps87
  go_wp2_with fail
  refine (render_any σ.o σ.col _ o0 o1 c0 (by omega) _ l ol hL hn).mono ?_
  rintro e w1 ⟨am, capm, om, rfl, hM, hG, hom⟩
  have hV1 := hV.same hG
  generalize renderL σ.o σ.col l = R at *
  obtain ⟨M, ck⟩ := R
  simp only at HR hM HP ⊢
  clear hV k20 hL
  obtain ⟨oo, hs, hob, _, hput⟩ := hV1.lens_out
  obtain ⟨a, cap, rfl, hl3, hl4⟩ := hs.shape
  have k19 := hV1.c_out
  have f19 := hV1.frozen 19
  by_cases hbig : 256 < σ.out.length + M.length
  · clear hput
    go_wp2
    go_ret
    exact ⟨ret_bool (by rw [HP.out, if_pos hbig]), by rw [HP.out, if_pos hbig]; exact hV1.r⟩
  · have e63 : σ.out.length + M.length ≤ 256 := by omega
    go_wp2_with (at_builtin; refine wpList_append_sl rfl (.tmp 32) (.tmp 33) 70 33 rfl hs rfl i0 (.int .u8 0) 1 Tryz.underlying70 hi hz0 hz1 hz2 rfl (.slice am M.length capm) M.length (bys M) rfl ?src ?b1 ?b2 ?next)
    case src => exact hM.src Tryz.underlying33 (bys_one _)
    case b1 => unfold maxLen; omega
    case b2 => omega
    case next =>
      intro a' cap' w2 oz hs1 hg1 ho1
      have hlen : (σ.out ++ M).length = σ.out.length + M.length := List.length_append
      obtain ⟨q2, q3, hV2⟩ := hput w2 (.slice a' (σ.out.length + M.length) cap') (σ.out ++ M) oz hg1 (by rw [hlen, bys_app]; exact hs1) (by rcases ho1 with h1 | ⟨h1, _⟩; exact .inr (.inl h1); exact .inr (.inr ⟨_, h1, Nat.le_refl _⟩))
      have HE := (hV2.s_col ck).r
      have q20 := hV2.c_col
      have f20 := hV2.frozen 20
      clear hput hs hs1 hg1 ho1 hV1 k19 f19 hM
      go_wp2
      go_ret
      exact ⟨ret_bool (by rw [HP.out, if_neg hbig]), by rw [HP.out, if_neg hbig]; exact HE⟩

set_option maxHeartbeats 1000000 in
set_option maxRecDepth 100000 in
theorem putOut_q (h : AtQ S0 w0 x b σ ci vi w) (ok : Ok σ C) (hC : C ≤ 1152921504606846976) (hl : σ.out.length ≤ 256) (lv : Value) (l : List UInt8) (ol : Option Nat) (hL : Sl w 5 1 lv l.length (bys l) ol) (hn : l.length ≤ 10000) :
    Calls Tryz.prog 60 #[.pointer (some ⟨b, 0, none⟩), lv] w fun e w' => e = .returned (.bool (σ.put l).2) ∧ AtQ S0 w0 x b (σ.put l).1 ci vi w' := by
  have k1 : w.cell? ⟨b, 1, none⟩ = some (.int .i64 σ.o) := by obtain ⟨vu, vo, vs, hV⟩ := h; exact hV.co
  have h' := h.drew
  have hL' := hL.drew
  go_enter Tryz.func60, Tryz.ntmps60
  go_wp2
  go_region_with (go_at_call 87; refine (OPut_q S0 w0 x b σ ci vi _ C h' ok hC hl lv l ol hL' hn).mono ?_; rintro e W ⟨rfl, hW⟩)
  all_goals go_wp2
  all_goals go_ret
  all_goals exact ⟨rfl, by assumption⟩
end
end Go.Proofs.YtfnglkhhmplejaaGreat
namespace Go.Clk
open Go Go.RowKit
/-- A place, and the entry there. -/
def Rb : Type := { p : Int × Ent // 0 ≤ p.2.cells ∧ p.2.cells ≤ 128 }
def Rb.mk (i : Int) (e : Ent) (h : 0 ≤ e.cells ∧ e.cells ≤ 128) : Rb := ⟨(i, e), h⟩
def Rb.ent (x : Rb) : Ent := x.1.2
def Rb.encs (x : Rb) : Array Value := #[.int .i64 x.1.1, .agg #[.int .u8 x.1.2.b.toNat, .bool x.1.2.file, .bool x.1.2.fin, .int .i64 x.1.2.cells]]
/-- These blocks are as they were. -/
def KpL (L : List Nat) (W W' : World) : Prop := ∀ j, j ∈ L → W'.heap[j]? = W.heap[j]?
theorem KpL.refl (L : List Nat) (W : World) : KpL L W W := fun _ _ => rfl
theorem KpL.trans {L : List Nat} {A B C : World} (h : KpL L A B) (k : KpL L B C) : KpL L A C := fun j hj => (k j hj).trans (h j hj)
theorem Sl.kpl {W W' : World} {L : List Nat} {e : TypeId} {size : Nat} {v : Value} {n : Nat} {xs : List Value} {o : Option Nat} (h : Sl W e size v n xs o) (hk : KpL L W W') (ho : ∀ g, o = some g → g ∈ L) : Sl W' e size v n xs o :=
  h.same fun g e => hk g (ho g e)
end Go.Clk
namespace Go.Proofs.YtfnglkhhmplejaaGreat
open Go Go.RowKit Go.Clk Go.Shelf
attribute [local go_sem] Oper.semAt_some

set_option maxRecDepth 100000 in
set_option maxHeartbeats 2000000 in
theorem back1_in (F : Fence) (n : Nat) (hf : F.fn 161) (hro : F.round = none) (hn : 1 ≤ n) (l Bs : Nat) (L : List Nat) (a : Option Addr) (cap : Nat) (gone : List Ent) (hg256 : gone.length ≤ 256) (hcells : ∀ e ∈ gone, 0 ≤ e.cells ∧ e.cells ≤ 128) (o : Option Nat) (J Jx : List Rb → World → Prop)
    (hY : ∀ pre x W, J pre W → pre.length < gone.length → YieldAt F (n - 1) Tryz.prog l x.encs W fun e W' =>
      (e = .returned (.bool true) ∧ J (pre ++ [x]) W' ∧ KpL L W W') ∨ (e = .returned (.bool false) ∧ Jx (pre ++ [x]) W'))
    (W : World) (hBL : Bs ∈ L) (hoL : ∀ g, o = some g → g ∈ L) (hBs : W.cell? ⟨Bs, 0, none⟩ = some (.slice a gone.length cap)) (hs : Sl W 112 4 (.slice a gone.length cap) gone.length (pents gone) o) (h0 : J [] W) :
    CallsIn F n Tryz.prog 161 #[.func (.yield l) #[] #[], .pointer (some ⟨Bs, 0, none⟩)] W fun e W' => (∃ v, e = .returned v) ∧
      ((∃ ys, ys.map Rb.ent = gone.reverse ∧ J ys W') ∨ (∃ pre, True ∧ Jx pre W')) := by
  refine callsIn_of_wp Tryz.func161 rfl hf ?_ hro
  simp only [Tryz.ntmps161, List.size_toArray, List.length_cons, List.length_nil, Nat.reduceAdd, Nat.reduceSub, Array.replicate_succ, Array.replicate_zero, List.push_toArray, List.append_toArray, List.nil_append, List.cons_append]
  gi_wp2
  gi_loopw [3] (fun i wr => ∃ (k : Nat) (pre : List Rb), k ≤ gone.length ∧ i = .int .i64 ((k : Int) - 1) ∧ pre.map Rb.ent = (gone.drop k).reverse ∧ J pre wr ∧ KpL L W wr)
    (fun i _ => (intOf i + 1).toNat)
  case atStart => exact ⟨gone.length, [], Nat.le_refl _, rfl, by simp, h0, KpL.refl _ _⟩
  case round =>
    obtain ⟨k, pre, hk, rfl, hpre, hJs, hnx⟩ := hrel
    have hbc : wr.cell? ⟨Bs, 0, none⟩ = some (.slice a gone.length cap) := (World.cell?_of_block (hnx Bs hBL)).trans hBs
    have hsw := hs.kpl hnx hoL
    have hpl : pre.length + k = gone.length := by
      have := congrArg List.length hpre
      simp at this; omega
    have HP : Hid (pre.map Rb.ent = (gone.drop k).reverse) := hpre
    clear hpre
    by_cases hlt : 0 < k
    · obtain ⟨q, rfl⟩ : ∃ q, k = q + 1 := ⟨k - 1, by omega⟩
      have hql : q < gone.length := by omega
      obtain ⟨ug, uoff, uc, he, rfl⟩ := hsw.addr (by omega)
      cases he
      obtain ⟨en, hen⟩ : ∃ en, gone[q] = en := ⟨_, rfl⟩
      have zb := (hsw.cells rfl (q * 4 + 0) (u := .int .u8 (en.b.toNat : Int)) (by rw [pents_get gone q hql 0 (by omega), hen]; rfl)).1
      have zf := (hsw.cells rfl (q * 4 + 1) (u := .bool en.file) (by rw [pents_get gone q hql 1 (by omega), hen]; rfl)).1
      have ze := (hsw.cells rfl (q * 4 + 2) (u := .bool en.fin) (by rw [pents_get gone q hql 2 (by omega), hen]; rfl)).1
      have zc := (hsw.cells rfl (q * 4 + 3) (u := .int .i64 en.cells) (by rw [pents_get gone q hql 3 (by omega), hen]; rfl)).1
      simp only [← Nat.add_assoc, Nat.add_zero] at zb zf ze zc
      have hce := hcells en (by rw [← hen]; exact List.getElem_mem hql)
      have HP2 : Hid ((pre ++ [Rb.mk (q : Int) en hce]).map Rb.ent = (gone.drop q).reverse) := by
        show (pre ++ [Rb.mk (q : Int) en hce]).map Rb.ent = _
        rw [List.map_append, HP.out, List.drop_eq_getElem_cons hql, List.reverse_cons, hen]; rfl
      obtain ⟨fn, tmps, assign, body, hy, hR⟩ := hY pre (Rb.mk (q : Int) en hce) wr hJs (by omega)
      dsimp only [Rb.encs, Rb.mk] at hy
      have hki : ((q + 1 : Nat) : Int) - 1 = (q : Int) := by omega
      rw [hki]
      clear hsw hen hs HP hki
      gi_wp2
      refine hR.mono ?_
      rintro e W3 (⟨rfl, hJ3, hk3⟩ | ⟨rfl, hJx3⟩)
      · gi_wp2
        go_roundw
        case rel => exact ⟨q, _, by omega, by simp, HP2.out, hJ3, hnx.trans hk3⟩
        case measure => first | (simp [intOf]; done) | (simp [intOf]; omega)
      · gi_wp2
        refine bodyPost_ret (results_none rfl _ _ _) rfl ?_
        exact ⟨⟨_, rfl⟩, .inr ⟨_, trivial, hJx3⟩⟩
    · obtain rfl : k = 0 := by omega
      have hki : ((0 : Nat) : Int) - 1 = -1 := by omega
      rw [hki]
      clear hsw hs hki
      gi_wp2
      go_end0
      exact ⟨⟨_, rfl⟩, .inl ⟨pre, by rw [HP.out]; simp, hJs⟩⟩

set_option maxHeartbeats 1000000 in
theorem back_in (F : Fence) (n : Nat) (hf : F.fn 154) (hro : F.round = none) (a : Option Addr) (len cap : Nat) (w : World) :
    CallsIn F n Tryz.prog 154 #[.slice a len cap] w fun e w' => e = .returned (.func (.func 161) #[] #[.pointer (some ⟨w.heap.size, 0, none⟩)]) ∧ w' = w.alloc (.cells #[.slice a len cap] 69) := by
  refine callsIn_of_wp Tryz.func154 rfl hf ?_ hro
  simp only [Tryz.ntmps154, List.size_toArray, List.length_cons, List.length_nil, Nat.reduceAdd, Nat.reduceSub, Array.replicate_succ, Array.replicate_zero, List.push_toArray, List.append_toArray, List.nil_append, List.cons_append]
  gi_wp2
  go_ret
  exact ⟨rfl, rfl⟩

/-- All of them come, the last one first. -/
theorem back_stops (F : Fence) (n : Nat) (hf : F.fn 161) (hro : F.round = none) (hn : 1 ≤ n) (Bs : Nat) (L : List Nat) (a : Option Addr) (cap : Nat) (gone : List Ent) (hg256 : gone.length ≤ 256) (hcells : ∀ e ∈ gone, 0 ≤ e.cells ∧ e.cells ≤ 128) (o : Option Nat) (w : World)
    (hBL : Bs ∈ L) (hoL : ∀ g, o = some g → g ∈ L) (hBlt : Bs < w.heap.size) (hc : w.cell? ⟨Bs, 0, none⟩ = some (.slice a gone.length cap)) (hs : Sl w 112 4 (.slice a gone.length cap) gone.length (pents gone) o) :
    SeqStopsK F n Tryz.prog 161 #[.pointer (some ⟨Bs, 0, none⟩)] Rb.encs (KpL L) (fun ys => ys.map Rb.ent = gone.reverse) (fun _ => True) gone.length w := fun l J Jx W hW _ _ hY h0 => by
  have hc' := (hW.cell (p := ⟨Bs, 0, none⟩) hBlt).trans hc
  have hs' : Sl W 112 4 (.slice a gone.length cap) gone.length (pents gone) o := hs.same fun g e => hW.block g (hs.lt e)
  exact back1_in F n hf hro hn l Bs L a cap gone hg256 hcells o J Jx hY W hBL hoL hc' hs' h0
end Go.Proofs.YtfnglkhhmplejaaGreat
namespace Go.Clk
open Go Go.RowKit
section
variable {S0 : List Nat} {w0 w : World} {x : List Nat} {b : Nat} {e : TypeId} {cs : List Value} {fs : List Fld}
/-- The frame begun anew here; what may turn holds cells. -/
theorem AtO.rebase2 (h : AtO S0 w0 x b e cs fs w) : ∃ S, AtO S w x b e cs fs w ∧ (∀ k, k ∈ S → ∃ c t, w.heap[k]? = some (.cells c t (0, 0))) ∧ (∀ g, g ∈ x → g ∉ S) ∧
    ∀ cs' fs' w', AtO S w x b e cs' fs' w' → AtO S0 w0 x b e cs' fs' w' := by
  obtain ⟨os, h, hk, hbS, ht, hx⟩ := h
  have mem : ∀ k, k ∈ b :: os.filterMap id → k = b ∨ ∃ j : Nat, os[j]? = some (some k) := by
    intro k hk
    rcases List.mem_cons.1 hk with h1 | h1
    · exact .inl h1
    · obtain ⟨o, ho, h2⟩ := List.mem_filterMap.1 h1
      simp only [id] at h2
      subst h2
      exact .inr (List.mem_iff_getElem?.1 ho)
  refine ⟨b :: os.filterMap id, ⟨os, h, Kp.refl _ _, .inl (by simp), fun k g hj => .inl ?_, hx⟩, ?_, ?_, ?_⟩
  · exact List.mem_cons_of_mem _ (List.mem_filterMap.2 ⟨some g, List.mem_iff_getElem?.2 ⟨k, hj⟩, rfl⟩)
  · intro k hk
    rcases mem k hk with rfl | ⟨j, hj⟩
    · exact ⟨_, _, h.blk⟩
    · have hjl : j < fs.length := by rw [← h.len]; exact (List.getElem?_eq_some_iff.1 hj).1
      have := h.sl j fs[j] (some k) (List.getElem?_eq_getElem hjl) hj
      rcases this.2 with ⟨_, _, h3⟩ | ⟨g, off, cap, cur, _, h3, h4, _⟩
      · cases h3
      · cases h3; exact ⟨_, _, h4⟩
  · intro g e hc
    rcases mem g hc with h1 | ⟨j, hj⟩
    · exact (hx g e).2.1 h1
    · exact (hx g e).2.2 j hj
  · rintro cs' fs' w' ⟨os', h', hk', hbS', ht', hx'⟩
    have sub : ∀ k, k ∈ b :: os.filterMap id → k ∈ S0 ∨ w0.heap.size ≤ k := fun k hk => by
      rcases mem k hk with rfl | ⟨j, hj⟩
      · exact hbS
      · exact ht j k hj
    exact ⟨os', h', hk.trans hk' sub, hbS, fun k g hg => (ht' k g hg).elim (fun c => sub g c) (fun c => .inr (Nat.le_trans hk.size c)), hx'⟩
/-- What is no cells turns. -/
theorem AtO.turned {w1 : World} {row : Option Nat} (h : AtO S0 w0 x b e cs fs w) (hg : w.grownBy w1 row) (hr : ∀ r, row = some r → w0.heap.size ≤ r ∧ ∃ o : Obj, w.heap[r]? = some o ∧ o.isCells = false) : AtO S0 w0 x b e cs fs w1 := by
  obtain ⟨os, h, hk, hbS, ht, hx⟩ := h
  have hne : ∀ (k : Nat) (c : Array Value) (t : TypeId), w.heap[k]? = some (.cells c t (0, 0)) → w1.heap[k]? = w.heap[k]? := by
    intro k c t hc
    refine hg.block k (Array.getElem?_eq_some_iff.1 hc).1 fun e => ?_
    obtain ⟨_, o, ho, hi⟩ := hr k e.symm
    rw [ho] at hc; cases hc; cases hi
  refine ⟨os, ⟨?_, h.len, fun k f o hf ho => ?_, h.notB, h.inj⟩, hk.grown hg fun k e => .inr (hr k e).1, hbS, ht, fun g e => ⟨Nat.lt_of_lt_of_le (hx g e).1 hg.size, (hx g e).2⟩⟩
  · exact (hne b _ _ h.blk).trans h.blk
  · refine (h.sl k f o hf ho).same fun g e => ?_
    rcases (h.sl k f o hf ho).2 with ⟨_, _, h3⟩ | ⟨g', off, cap, cur, _, h3, h4, _⟩
    · rw [e] at h3; cases h3
    · rw [e] at h3; cases h3; exact hne _ _ _ h4
end
/-- The echoes of these are taken off, one after the other. -/
def offEach (σ : St) (l : List Ent) : St := l.foldl (fun τ e => (τ.put (rubOne e)).1) σ
theorem offEach_snoc (σ : St) (l : List Ent) (e : Ent) : offEach σ (l ++ [e]) = ((offEach σ l).put (rubOne e)).1 := by simp [offEach]
theorem Inv.offEach {K : Int} {σ : St} (h : Inv K σ) (l : List Ent) : Inv K (offEach σ l) := by
  unfold Go.Clk.offEach
  induction l generalizing σ with
  | nil => exact h
  | cons e l ih => exact ih (h.put _)
theorem rubOne_len (e : Ent) (h : e.cells ≤ 128) : (rubOne e).length ≤ 384 := by
  unfold rubOne
  have h1 : ∀ (n : Nat) (l : List UInt8), l.length ≤ 3 → (List.replicate n l).flatten.length ≤ 3 * n := by
    intro n l hl
    induction n with
    | zero => simp
    | succ n ih => rw [List.replicate_succ, List.flatten_cons, List.length_append]; omega
  have h2 := h1 e.cells.toNat (if ((e.b.toNat : Int) == 9) then [(8 : UInt8)] else [8, 32, 8]) (by split <;> simp)
  omega
end Go.Clk
namespace Go.Proofs.YtfnglkhhmplejaaGreat
open Go Go.RowKit Go.Clk Go.Shelf
attribute [local go_sem] Oper.semAt_some
theorem offs_eq (e : Ent) : offs e = rubOne e := rfl
section
variable {S0 : List Nat} {w0 w : World} {x : List Nat} {b : Nat} {σ : St} {ci vi : Value}
theorem AtQ.rebase2 (h : AtQ S0 w0 x b σ ci vi w) : ∃ S, AtQ S w x b σ ci vi w ∧ (∀ k, k ∈ S → ∃ c t, w.heap[k]? = some (.cells c t (0, 0))) ∧ (∀ g, g ∈ x → g ∉ S) ∧ ∀ σ' w', AtQ S w x b σ' ci vi w' → AtQ S0 w0 x b σ' ci vi w' := by
  obtain ⟨vu, vo, vs, hl, h⟩ := h
  obtain ⟨S, h1, h2, h3, h5⟩ := h.rebase2
  exact ⟨S, ⟨vu, vo, vs, hl, h1⟩, h2, h3, fun σ' w' ⟨vu', vo', vs', hl', h'⟩ => ⟨vu', vo', vs', hl', h5 _ _ _ h'⟩⟩
theorem AtQ.turned {w1 : World} {row : Option Nat} (h : AtQ S0 w0 x b σ ci vi w) (hg : w.grownBy w1 row) (hr : ∀ r, row = some r → w0.heap.size ≤ r ∧ ∃ o : Obj, w.heap[r]? = some o ∧ o.isCells = false) : AtQ S0 w0 x b σ ci vi w1 := by
  obtain ⟨vu, vo, vs, hl, h⟩ := h; exact ⟨vu, vo, vs, hl, h.turned hg hr⟩
theorem AtQ.weaken {y : List Nat} (h : AtQ S0 w0 x b σ ci vi w) (hy : ∀ g, g ∈ y → g ∈ x) : AtQ S0 w0 y b σ ci vi w := by
  obtain ⟨vu, vo, vs, hl, h⟩ := h; exact ⟨vu, vo, vs, hl, h.weaken hy⟩
theorem AtQ.boxed (h : AtQ S0 w0 x b σ ci vi w) (o : Obj) : AtQ S0 w0 (w.heap.size :: x) b σ ci vi (w.alloc o) := by
  obtain ⟨vu, vo, vs, hl, h⟩ := h
  exact ⟨vu, vo, vs, hl, h.avoid (h.kp.alloc o) (by simp) (fun k hk _ => Below.heap_alloc w o k hk) (Nat.le_refl _) (by simp)⟩
theorem AtQ.lt (h : AtQ S0 w0 x b σ ci vi w) : b < w.heap.size := by obtain ⟨vu, vo, vs, hl, h⟩ := h; exact h.lt
theorem AtQ.below (h : AtQ S0 w0 x b σ ci vi w) {g : Nat} (hg : g ∈ x) : g < w.heap.size := by obtain ⟨vu, vo, vs, hl, h⟩ := h; exact h.below hg
end
end Go.Proofs.YtfnglkhhmplejaaGreat
namespace Go.Proofs.YtfnglkhhmplejaaGreat
open Go Go.RowKit Go.Clk Go.Shelf
attribute [local go_sem] Oper.semAt_some
section
variable (S0 : List Nat) (w0 : World) (y : List Nat) (b : Nat) (σ : St) (ci vi : Value) (w : World) (K : Int)

/-- One round: the echo of an entry is taken off. -/
theorem goneRound {S : List Nat} {w : World} {X L : List Nat} {b : Nat} {τ : St} {ci vi : Value} {W W2 : World} {K : Int} {B0 B1 : Nat} {t : TypeId} {u : Value} (hQ : AtQ S w X b τ ci vi W) (ok : Inv K τ) (hK : K ≤ 1099511627776) (hLX : ∀ g, g ∈ L → g ∈ X) (hB1 : B1 ∈ X) (hbx : Boxed W B1 t u)
    (e : Ent) (hc : e.cells ≤ 128) (v : Value) (g : Nat) (hg : W.grownBy W2 none) (hs : Sl W2 5 1 v (rubOne e).length (bys (rubOne e)) (some g)) :
    Calls Tryz.prog 60 #[.pointer (some ⟨b, 0, none⟩), v] W2 fun r W' => (∃ q, r = .returned (.bool q)) ∧ KeepsFrom B0 W W' ∧ KpL L W W' ∧ AtQ S w X b (τ.put (rubOne e)).1 ci vi W' ∧ Boxed W' B1 t u := by
  have hQ2 := hQ.same hg
  obtain ⟨S2, h2, h3, h4, h5⟩ := hQ2.rebase2
  have hlen := rubOne_len e hc
  refine (putOut_q S2 W2 X b τ ci vi W2 _ h2 ok.ok (by omega) ok.out v (rubOne e) (some g) hs (by omega)).mono ?_
  rintro r W' ⟨rfl, hW⟩
  have hk := hW.kp
  have hX : ∀ j, j ∈ X → W'.heap[j]? = W.heap[j]? := fun j hj => (hk.block j (hQ2.below hj) (h4 j hj)).trans (hg.block j (hQ.below hj) (by simp))
  refine ⟨⟨_, rfl⟩, ⟨Nat.le_trans hg.size hk.size, fun k o _ hko hc => ?_⟩, fun j hj => hX j (hLX j hj), h5 _ _ hW, (hX B1 hB1).trans hbx⟩
  have hlt := (Array.getElem?_eq_some_iff.1 hko).1
  have e2 := hg.block k hlt (by simp)
  refine ((hk.block k (Nat.lt_of_lt_of_le hlt hg.size) fun hc2 => ?_).trans e2).trans hko
  obtain ⟨c, t, h6⟩ := h3 k hc2
  rw [e2, hko] at h6
  cases h6; cases hc

set_option maxRecDepth 100000 in
set_option maxHeartbeats 4000000 in
theorem showGone_any (o : Option Nat) (h : AtQ S0 w0 (o.toList ++ y) b σ ci vi w) (ok : Inv K σ) (hK : K ≤ 1099511627776) (a : Option Addr) (cap : Nat) (gone : List Ent) (hs : Sl w 112 4 (.slice a gone.length cap) gone.length (pents gone) o) (hg256 : gone.length ≤ 256) (hcells : ∀ e ∈ gone, 0 ≤ e.cells ∧ e.cells ≤ 128) :
    Calls Tryz.prog 140 #[.pointer (some ⟨b, 0, none⟩), .slice a gone.length cap] w fun e w' => e = .returned (.tuple #[]) ∧ AtQ S0 w0 (o.toList ++ y) b (offEach σ gone.reverse) ci vi w' ∧ ∀ g, o = some g → w'.heap[g]? = w.heap[g]? := by
  obtain ⟨S, hSR, _, hS2, hback⟩ := h.rebase2
  clear h
  refine (callsIn_wide (n := 6)).1 ?_
  refine callsIn_of_wp_marks Tryz.func140 rfl trivial ?_ rfl
  simp only [Tryz.ntmps140, List.size_toArray, List.length_cons, List.length_nil, Nat.reduceAdd, Nat.reduceSub, Array.replicate_succ, Array.replicate_zero, List.push_toArray, List.append_toArray, List.nil_append, List.cons_append]
  gi_wp2_with (refine ⟨trivial, ?_⟩; gi_at_call 154; refine (back_in Fence.wide _ trivial rfl _ _ _ _).mono ?_; rintro e w' ⟨rfl, rfl⟩)
  have hq0 := (hSR.boxed (.cells #[.pointer (some ⟨b, 0, none⟩)] 25)).boxed (.cells #[.slice a gone.length cap] 69)
  have bT := (Boxed.new w 25 (.pointer (some ⟨b, 0, none⟩))).alloc (.cells #[.slice a gone.length cap] 69)
  have bS := Boxed.new (w.alloc (.cells #[.pointer (some ⟨b, 0, none⟩)] 25)) 69 (.slice a gone.length cap)
  have hs0 := (hs.alloc (.cells #[.pointer (some ⟨b, 0, none⟩)] 25)).alloc (.cells #[.slice a gone.length cap] 69)
  have hsz : ((w.alloc (.cells #[.pointer (some ⟨b, 0, none⟩)] 25)).alloc (.cells #[.slice a gone.length cap] 69)).heap.size = w.heap.size + 2 := by simp
  simp only [World.size_alloc] at bS hq0
  obtain ⟨W0, hW0⟩ : ∃ W0, (w.alloc (.cells #[.pointer (some ⟨b, 0, none⟩)] 25)).alloc (.cells #[.slice a gone.length cap] 69) = W0 := ⟨_, rfl⟩
  rw [hW0] at hq0 bT bS hs0 hsz ⊢
  have hlt := hSR.lt
  have hog : ∀ g, o = some g → g < w.heap.size := fun g e => hs.lt e
  clear hW0 hSR hs
  refine wpIn_rangeFunc_ownH rfl (by omega) (gf := 161) (lb := #[.pointer (some ⟨w.heap.size + 1, 0, none⟩)]) rfl trivial (enters_of Tryz.func161 (by kernel_rfl) rfl)
    (back_stops Fence.wide _ trivial rfl (by omega) (w.heap.size + 1) ((w.heap.size + 1) :: o.toList) a cap gone hg256 hcells o W0 (by simp) (by intro g e; simp [e]) (by omega) bS.cell hs0) (fun h k => h.trans k)
    (fun W l ob o' hl h _ _ => ?kb) (Below.refl _ _) (fun _ => rfl)
    (fun pre W => AtQ S w ((w.heap.size + 1) :: w.heap.size :: (o.toList ++ y)) b (offEach σ (pre.map Rb.ent)) ci vi W ∧ Boxed W w.heap.size 25 (.pointer (some ⟨b, 0, none⟩)))
    (fun _ _ _ => False)
    ?own (fun _ _ _ _ _ hs _ _ => hs) ⟨hq0, bT⟩
    (fun x a' W => ∃ Bx, Blk W Bx 112 [.int .u8 x.1.2.b.toNat, .bool x.1.2.file, .bool x.1.2.fin, .int .i64 x.1.2.cells] ∧ a' = { tmps := #[.pointer (some ⟨b, 0, none⟩), .slice a gone.length cap, .pointer (some ⟨w.heap.size, 0, none⟩), undef, undef, .pointer (some ⟨Bx, 0, none⟩), .slice a gone.length cap, .func (.func 161) #[] #[.pointer (some ⟨w.heap.size + 1, 0, none⟩)], .int .i64 x.1.1, .agg #[.int .u8 x.1.2.b.toNat, .bool x.1.2.file, .bool x.1.2.fin, .int .i64 x.1.2.cells], undef, undef, undef, undef], defers := [] })
    ?ownx ?assign ?body ?done ?stop
  case kb =>
    intro j hj
    have hjl : j < W0.heap.size := by
      rcases List.mem_cons.1 hj with rfl | hj
      · omega
      · exact hq0.below (by simp at hj ⊢; exact .inr (.inr (.inl hj)))
    have := (grownBy_putObj' W l o').block j (by have := (Array.getElem?_eq_some_iff.1 h).1; omega) (fun e => by cases e; omega)
    exact this
  case own =>
    intro s A B row hs hg hr
    have hk := hs.1.kp.size
    exact ⟨hs.1.turned hg fun r e => ⟨by have := (hr r e).1; omega, (hr r e).2⟩, boxed_own w.heap.size 25 (fun (_ : Unit) => Value.pointer (some ⟨b, 0, none⟩)) () A B row hs.2 hg (fun r e => (hr r e).2)⟩
  case ownx =>
    intro x a' s A B row hs hg hr
    obtain ⟨Bx, h2, h3⟩ := hs
    refine ⟨Bx, ?_, h3⟩
    refine (hg.block Bx h2.lt fun e => ?_).trans h2
    obtain ⟨_, ob, ho, hi⟩ := hr Bx e.symm
    have h2' : A.heap[Bx]? = _ := h2
    rw [ho] at h2'; cases h2'; cases hi
  case assign =>
    rintro l pre x W K ⟨hQ, hB⟩ hK
    dsimp only [Rb.encs]
    gi_wp2
    refine hK _ _ ((KeepsOthers.alloc _ _).from _) (fun j hj => Below.heap_alloc W _ j (hQ.below ?_)) ⟨hQ.same ⟨rfl, rfl, rfl, by simp, fun k hk _ => Below.heap_alloc W _ k hk⟩, hB.alloc _⟩ ⟨W.heap.size, Blk.new W _ _, rfl⟩
    rcases List.mem_cons.1 hj with rfl | hj
    · simp
    · simp at hj ⊢; exact .inr (.inr (.inl hj))
  case body =>
    rintro l pre x a' W hl ⟨r, hr⟩ ⟨hQ, hB⟩ ⟨Bx, hblk, rfl⟩ hlt
    have cB := hB.cell
    have b0 := hblk.cell 0 rfl
    have b1 := hblk.cell 1 rfl
    have b2 := hblk.cell 2 rfl
    have b3 := hblk.cell 3 rfl
    have hce := x.2
    have okτ := ok.offEach (pre.map Rb.ent)
    have hmx : Tryz.prog.follows .mixedOrders = true := by kernel_rfl
    have hLX : ∀ g, g ∈ (w.heap.size + 1) :: o.toList → g ∈ (w.heap.size + 1) :: w.heap.size :: (o.toList ++ y) := by
      intro g hj
      rcases List.mem_cons.1 hj with rfl | hj
      · simp
      · simp at hj ⊢; exact .inr (.inr (.inl hj))
    gi_wp2
    gi_region_with_o (first
        | (refine ⟨trivial, ?_⟩; gi_at_call 155; refine (CallsIn.inRound l (callsIn_wide.2 (rubbing_any _ x.1.2 hce.1 hce.2))).mono ?_; rintro r V ⟨v, g, rfl, hSv, hg1, hgV⟩; have hgW : W.grownBy V none := ⟨hgV.os, hgV.tape, hgV.output, hgV.size, hgV.block⟩; have cBV := (hB.kept hgW (by simp)).cell)
        | (refine ⟨trivial, ?_⟩; gi_at_call 60; refine (CallsIn.inRound l (callsIn_wide.2 (goneRound (B0 := W0.heap.size) hQ okτ hK hLX (by simp) hB x.1.2 hce.2 v g hgW hSv))).mono ?_; rintro r W' ⟨⟨q, rfl⟩, hKF, hKL, hQ2, hB2⟩))
    all_goals gi_wp2
    all_goals exact ⟨hKF, hKL, by rw [List.map_append]; show AtQ _ _ _ _ (offEach σ (pre.map Rb.ent ++ [x.1.2])) _ _ _; rw [offEach_snoc]; exact hQ2, hB2⟩
  case done =>
    rintro D ys W hD hS ⟨hQ, hB⟩ hK
    gi_wp2
    refine ⟨by simp, .inl ⟨_, _, rfl, run_takeDeferred hK, ?_⟩⟩
    rw [hS] at hQ
    have hQ2 : AtQ S w (o.toList ++ y) b (offEach σ gone.reverse) ci vi (W.putObj D (.deferred none)) :=
      (hQ.turned (grownBy_putObj' W D (.deferred none)) fun r e => by cases e; exact ⟨by omega, _, hK, rfl⟩).weaken fun g hg => by simp at hg ⊢; exact .inr (.inr hg)
    exact ⟨_, results_none rfl _ _ _, rfl, hback _ _ hQ2, fun g e => hQ2.kp.block g (hog g e) (hS2 g (by simp [e]))⟩
  case stop =>
    rintro D c pre W _ _ h _
    exact h.elim
end
end Go.Proofs.YtfnglkhhmplejaaGreat
