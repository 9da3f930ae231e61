/- Walks: the program: showGone. -/
import Derived.Test.YtfnglkhhmplejaaGreatProg32
namespace Go.Proofs.YtfnglkhhmplejaaGreat
open Go Go.RowKit Go.Clk Go.Shelf
attribute [local go_sem] Oper.semAt_some
section
variable (S0 : List Nat) (w0 : World) (y : List Nat) (b : Nat) (σ : St) (ci vi : Value) (w : World) (K : Int)

/-- One round: the echo of an entry is taken off. -/
theorem goneRound {S : List Nat} {w : World} {X L : List Nat} {b : Nat} {τ : St} {ci vi : Value} {W W2 : World} {K : Int} {B0 B1 : Nat} {t : TypeId} {u : Value} (hQ : AtQ S w X b τ ci vi W) (ok : Inv K τ) (hK : K ≤ 1099511627776) (hLX : ∀ g, g ∈ L → g ∈ X) (hB1 : B1 ∈ X) (hbx : Boxed W B1 t u)
    (e : Ent) (hc : e.cells ≤ 128) (v : Value) (g : Nat) (hg : W.grownBy W2 none) (hs : Sl W2 5 1 v (rubOne e).length (bys (rubOne e)) (some g)) :
    Calls Tryz.prog 60 #[.pointer (some ⟨b, 0, none⟩), v] W2 fun r W' => (∃ q, r = .returned (.bool q)) ∧ KeepsFrom B0 W W' ∧ KpL L W W' ∧ AtQ S w X b (τ.put (rubOne e)).1 ci vi W' ∧ Boxed W' B1 t u := by
  have hQ2 := hQ.same hg
  obtain ⟨S2, h2, h3, h4, h5⟩ := hQ2.rebase2
  have hlen := rubOne_len e hc
  refine (putOut_q S2 W2 X b τ ci vi W2 _ h2 ok.ok (by omega) ok.out v (rubOne e) (some g) hs (by omega)).mono ?_
  rintro r W' ⟨rfl, hW⟩
  have hk := hW.kp
  have hX : ∀ j, j ∈ X → W'.heap[j]? = W.heap[j]? := fun j hj => (hk.block j (hQ2.below hj) (h4 j hj)).trans (hg.block j (hQ.below hj) (by simp))
  refine ⟨⟨_, rfl⟩, ⟨Nat.le_trans hg.size hk.size, fun k o _ hko hc => ?_⟩, fun j hj => hX j (hLX j hj), h5 _ _ hW, (hX B1 hB1).trans hbx⟩
  have hlt := (Array.getElem?_eq_some_iff.1 hko).1
  have e2 := hg.block k hlt (by simp)
  refine ((hk.block k (Nat.lt_of_lt_of_le hlt hg.size) fun hc2 => ?_).trans e2).trans hko
  obtain ⟨c, t, h6⟩ := h3 k hc2
  rw [e2, hko] at h6
  cases h6; cases hc

set_option maxRecDepth 100000 in
set_option maxHeartbeats 4000000 in
theorem showGone_any (o : Option Nat) (h : AtQ S0 w0 (o.toList ++ y) b σ ci vi w) (ok : Inv K σ) (hK : K ≤ 1099511627776) (a : Option Addr) (cap : Nat) (gone : List Ent) (hs : Sl w 112 4 (.slice a gone.length cap) gone.length (pents gone) o) (hg256 : gone.length ≤ 256) (hcells : ∀ e ∈ gone, 0 ≤ e.cells ∧ e.cells ≤ 128) :
    Calls Tryz.prog 140 #[.pointer (some ⟨b, 0, none⟩), .slice a gone.length cap] w fun e w' => e = .returned (.tuple #[]) ∧ AtQ S0 w0 (o.toList ++ y) b (offEach σ gone.reverse) ci vi w' ∧ ∀ g, o = some g → w'.heap[g]? = w.heap[g]? := by
  obtain ⟨S, hSR, _, hS2, hback⟩ := h.rebase2
  clear h
  refine (callsIn_wide (n := 6)).1 ?_
  refine callsIn_of_wp_marks Tryz.func140 rfl trivial ?_ rfl
  simp only [Tryz.ntmps140, List.size_toArray, List.length_cons, List.length_nil, Nat.reduceAdd, Nat.reduceSub, Array.replicate_succ, Array.replicate_zero, List.push_toArray, List.append_toArray, List.nil_append, List.cons_append]
  gi_wp2_with (refine ⟨trivial, ?_⟩; gi_at_call 154; refine (back_in Fence.wide _ trivial rfl _ _ _ _).mono ?_; rintro e w' ⟨rfl, rfl⟩)
  have hq0 := (hSR.boxed (.cells #[.pointer (some ⟨b, 0, none⟩)] 25)).boxed (.cells #[.slice a gone.length cap] 69)
  have bT := (Boxed.new w 25 (.pointer (some ⟨b, 0, none⟩))).alloc (.cells #[.slice a gone.length cap] 69)
  have bS := Boxed.new (w.alloc (.cells #[.pointer (some ⟨b, 0, none⟩)] 25)) 69 (.slice a gone.length cap)
  have hs0 := (hs.alloc (.cells #[.pointer (some ⟨b, 0, none⟩)] 25)).alloc (.cells #[.slice a gone.length cap] 69)
  have hsz : ((w.alloc (.cells #[.pointer (some ⟨b, 0, none⟩)] 25)).alloc (.cells #[.slice a gone.length cap] 69)).heap.size = w.heap.size + 2 := by simp
  simp only [World.size_alloc] at bS hq0
  obtain ⟨W0, hW0⟩ : ∃ W0, (w.alloc (.cells #[.pointer (some ⟨b, 0, none⟩)] 25)).alloc (.cells #[.slice a gone.length cap] 69) = W0 := ⟨_, rfl⟩
  rw [hW0] at hq0 bT bS hs0 hsz ⊢
  have hlt := hSR.lt
  have hog : ∀ g, o = some g → g < w.heap.size := fun g e => hs.lt e
  clear hW0 hSR hs
  refine wpIn_rangeFunc_ownH rfl (by omega) (gf := 161) (lb := #[.pointer (some ⟨w.heap.size + 1, 0, none⟩)]) rfl trivial (enters_of Tryz.func161 (by kernel_rfl) rfl)
    (back_stops Fence.wide _ trivial rfl (by omega) (w.heap.size + 1) ((w.heap.size + 1) :: o.toList) a cap gone hg256 hcells o W0 (by simp) (by intro g e; simp [e]) (by omega) bS.cell hs0) (fun h k => h.trans k)
    (fun W l ob o' hl h _ _ => ?kb) (Below.refl _ _) (fun _ => rfl)
    (fun pre W => AtQ S w ((w.heap.size + 1) :: w.heap.size :: (o.toList ++ y)) b (offEach σ (pre.map Rb.ent)) ci vi W ∧ Boxed W w.heap.size 25 (.pointer (some ⟨b, 0, none⟩)))
    (fun _ _ _ => False)
    ?own (fun _ _ _ _ _ hs _ _ => hs) ⟨hq0, bT⟩
    (fun x a' W => ∃ Bx, Blk W Bx 112 [.int .u8 x.1.2.b.toNat, .bool x.1.2.file, .bool x.1.2.fin, .int .i64 x.1.2.cells] ∧ a' = { tmps := #[.pointer (some ⟨b, 0, none⟩), .slice a gone.length cap, .pointer (some ⟨w.heap.size, 0, none⟩), undef, undef, .pointer (some ⟨Bx, 0, none⟩), .slice a gone.length cap, .func (.func 161) #[] #[.pointer (some ⟨w.heap.size + 1, 0, none⟩)], .int .i64 x.1.1, .agg #[.int .u8 x.1.2.b.toNat, .bool x.1.2.file, .bool x.1.2.fin, .int .i64 x.1.2.cells], undef, undef, undef, undef], defers := [] })
    ?ownx ?assign ?body ?done ?stop
  case kb =>
    intro j hj
    have hjl : j < W0.heap.size := by
      rcases List.mem_cons.1 hj with rfl | hj
      · omega
      · exact hq0.below (by simp at hj ⊢; exact .inr (.inr (.inl hj)))
    have := (grownBy_putObj' W l o').block j (by have := (Array.getElem?_eq_some_iff.1 h).1; omega) (fun e => by cases e; omega)
    exact this
  case own =>
    intro s A B row hs hg hr
    have hk := hs.1.kp.size
    exact ⟨hs.1.turned hg fun r e => ⟨by have := (hr r e).1; omega, (hr r e).2⟩, boxed_own w.heap.size 25 (fun (_ : Unit) => Value.pointer (some ⟨b, 0, none⟩)) () A B row hs.2 hg (fun r e => (hr r e).2)⟩
  case ownx =>
    intro x a' s A B row hs hg hr
    obtain ⟨Bx, h2, h3⟩ := hs
    refine ⟨Bx, ?_, h3⟩
    refine (hg.block Bx h2.lt fun e => ?_).trans h2
    obtain ⟨_, ob, ho, hi⟩ := hr Bx e.symm
    have h2' : A.heap[Bx]? = _ := h2
    rw [ho] at h2'; cases h2'; cases hi
  case assign =>
    rintro l pre x W K ⟨hQ, hB⟩ hK
    dsimp only [Rb.encs]
    gi_wp2
    refine hK _ _ ((KeepsOthers.alloc _ _).from _) (fun j hj => Below.heap_alloc W _ j (hQ.below ?_)) ⟨hQ.same ⟨rfl, rfl, rfl, by simp, fun k hk _ => Below.heap_alloc W _ k hk⟩, hB.alloc _⟩ ⟨W.heap.size, Blk.new W _ _, rfl⟩
    rcases List.mem_cons.1 hj with rfl | hj
    · simp
    · simp at hj ⊢; exact .inr (.inr (.inl hj))
  case body =>
    rintro l pre x a' W hl ⟨r, hr⟩ ⟨hQ, hB⟩ ⟨Bx, hblk, rfl⟩ hlt
    have cB := hB.cell
    have b0 := hblk.cell 0 rfl
    have b1 := hblk.cell 1 rfl
    have b2 := hblk.cell 2 rfl
    have b3 := hblk.cell 3 rfl
    have hce := x.2
    have okτ := ok.offEach (pre.map Rb.ent)
    have hmx : Tryz.prog.follows .mixedOrders = true := by kernel_rfl
    have hLX : ∀ g, g ∈ (w.heap.size + 1) :: o.toList → g ∈ (w.heap.size + 1) :: w.heap.size :: (o.toList ++ y) := by
      intro g hj
      rcases List.mem_cons.1 hj with rfl | hj
      · simp
      · simp at hj ⊢; exact .inr (.inr (.inl hj))
    gi_wp2
    gi_region_with_o (first
        | (refine ⟨trivial, ?_⟩; gi_at_call 155; refine (CallsIn.inRound l (callsIn_wide.2 (rubbing_any _ x.1.2 hce.1 hce.2))).mono ?_; rintro r V ⟨v, g, rfl, hSv, hg1, hgV⟩; have hgW : W.grownBy V none := ⟨hgV.os, hgV.tape, hgV.output, hgV.size, hgV.block⟩; have cBV := (hB.kept hgW (by simp)).cell)
        | (refine ⟨trivial, ?_⟩; gi_at_call 60; refine (CallsIn.inRound l (callsIn_wide.2 (goneRound (B0 := W0.heap.size) hQ okτ hK hLX (by simp) hB x.1.2 hce.2 v g hgW hSv))).mono ?_; rintro r W' ⟨⟨q, rfl⟩, hKF, hKL, hQ2, hB2⟩))
    all_goals gi_wp2
    all_goals exact ⟨hKF, hKL, by rw [List.map_append]; show AtQ _ _ _ _ (offEach σ (pre.map Rb.ent ++ [x.1.2])) _ _ _; rw [offEach_snoc]; exact hQ2, hB2⟩
  case done =>
    rintro D ys W hD hS ⟨hQ, hB⟩ hK
    gi_wp2
    refine ⟨by simp, .inl ⟨_, _, rfl, run_takeDeferred hK, ?_⟩⟩
    rw [hS] at hQ
    have hQ2 : AtQ S w (o.toList ++ y) b (offEach σ gone.reverse) ci vi (W.putObj D (.deferred none)) :=
      (hQ.turned (grownBy_putObj' W D (.deferred none)) fun r e => by cases e; exact ⟨by omega, _, hK, rfl⟩).weaken fun g hg => by simp at hg ⊢; exact .inr (.inr hg)
    exact ⟨_, results_none rfl _ _ _, rfl, hback _ _ hQ2, fun g e => hQ2.kp.block g (hog g e) (hS2 g (by simp [e]))⟩
  case stop =>
    rintro D c pre W _ _ h _
    exact h.elim
end
end Go.Proofs.YtfnglkhhmplejaaGreat
