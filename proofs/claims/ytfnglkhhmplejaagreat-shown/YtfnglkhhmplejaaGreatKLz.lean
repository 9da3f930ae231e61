/- Walks: lines beside other things. -/
import Derived.Test.YtfnglkhhmplejaaGreatKL
import Derived.Test.YtfnglkhhmplejaaGreatKeep
import Derived.Test.YtfnglkhhmplejaaGreatKSx
namespace Go.Clk
open Go
theorem Kq.weaken {x y : List Nat} {w w' : World} (h : Kq x w w') (hy : ∀ g, g ∈ y → g ∈ x) : Kq y w w' := by
  obtain ⟨S, h1, h2⟩ := h; exact ⟨S, h1, fun g hg => h2 g (hy g hg)⟩
end Go.Clk
namespace Go.Proofs.YtfnglkhhmplejaaGreat
open Go Go.RowKit Go.Clk
section
variable {w0 w w' : World} {x y S : List Nat} {b : Nat} {σ : St}
/-- What it keeps clear of turns, and one block may be new. -/
theorem AtT.turn (h : AtT [] w0 x b σ w) (hk : Kp S w w') (hS : ∀ g, g ∈ S → g ∈ x ∧ w0.heap.size ≤ g) (n : Nat) (hy : ∀ g, g ∈ y → g ∈ x ∨ (g = n ∧ w.heap.size ≤ n ∧ n < w'.heap.size)) : AtT [] w0 y b σ w' := by
  obtain ⟨ρ, hs, ⟨vi, vu, vo, vs, h⟩⟩ := h
  have hkp : Kp [] w0 w' := h.2.kp.trans hk fun g hg => .inr (hS g hg).2
  have hb : ∀ k, k < w.heap.size → k ∉ x → w'.heap[k]? = w.heap[k]? := fun k q1 q2 => hk.block k q1 fun hc => q2 (hS k hc).1
  by_cases hn : w.heap.size ≤ n ∧ n < w'.heap.size
  · have h3 := h.2.avoid hkp hk.size hb hn.1 hn.2
    refine ⟨ρ, hs, vi, vu, vo, vs, h.1, h3.weaken fun g hg => ?_⟩
    rcases hy g hg with q | ⟨q, _⟩
    · simp [q]
    · simp [q]
  · have h2 := h.2.same hkp hk.size hb
    refine ⟨ρ, hs, vi, vu, vo, vs, h.1, h2.weaken fun g hg => ?_⟩
    rcases hy g hg with q | ⟨_, q⟩
    · exact q
    · exact absurd q hn
end
/-- A line at L and a list of numbers wv beside it. -/
structure LW (w0 : World) (L : Nat) (o ow : Option Nat) (p : List UInt8) (en fi : Bool) (ns : List Int) (wv : Value) (w : World) : Prop where
  ln : LnAt L o p en fi w
  sl : Sl w 3 1 wv ns.length (i64s ns) ow
  dj : ∀ g, ow = some g → g ≠ L ∧ o ≠ some g
  hL : w0.heap.size ≤ L
  ho : ∀ g, o = some g → w0.heap.size ≤ g
  hw : ∀ g, ow = some g → w0.heap.size ≤ g
abbrev xs3 (L : Nat) (o ow : Option Nat) : List Nat := L :: (o.toList ++ ow.toList)
section
variable {w0 w w' : World} {L : Nat} {o ow o' : Option Nat} {p p' : List UInt8} {en fi en' fi' : Bool} {ns : List Int} {wv : Value} {b : Nat} {σ : St}
theorem LW.kq (h : LW w0 L o ow p en fi ns wv w) (hk : Kq (xs3 L o ow) w w') : LW w0 L o ow p en fi ns wv w' :=
  ⟨h.ln.kq hk (by simp) (fun g e => by simp [e]), hk.sl h.sl (fun g e => by simp [e]), h.dj, h.hL, h.ho, h.hw⟩
theorem LW.drewN (h : LW w0 L o ow p en fi ns wv w) (n : Nat) : LW w0 L o ow p en fi ns wv (w.drewN n) := by
  refine h.kq ⟨[], ⟨rfl, rfl, rfl, Nat.le_refl _, fun _ _ _ => rfl⟩, fun _ _ => by simp⟩
/-- The line turns. -/
theorem LW.line (h : LW w0 L o ow p en fi ns wv w) (hA : AtT [] w0 (xs3 L o ow) b σ w) (hn : LnAt L o' p' en' fi' w') (ht : LnTo L o o' w w') :
    LW w0 L o' ow p' en' fi' ns wv w' ∧ AtT [] w0 (xs3 L o' ow) b σ w' := by
  obtain ⟨hk, ho⟩ := ht
  have hS : ∀ g, g ∈ L :: o.toList → g ∈ xs3 L o ow ∧ w0.heap.size ≤ g := by
    intro g hg
    rcases List.mem_cons.1 hg with rfl | hg
    · exact ⟨by simp, h.hL⟩
    · have : o = some g := by simpa using hg
      exact ⟨by simp [this], h.ho g this⟩
  have hsl := h.sl.kp hk fun g e hc => by
    rcases List.mem_cons.1 hc with q | q
    · exact (h.dj g e).1 q
    · exact (h.dj g e).2 (by simpa using q)
  have hA2 : AtT [] w0 (xs3 L o' ow) b σ w' := by
    rcases ho with rfl | rfl | ⟨n, rfl, n1, n2⟩
    · exact hA.turn hk hS 0 fun g hg => .inl hg
    · exact hA.turn hk hS 0 fun g hg => .inl (by simp at hg; rcases hg with q | q <;> simp [q])
    · refine hA.turn hk hS n fun g hg => ?_
      simp at hg
      rcases hg with q | q | q
      · exact .inl (by simp [q])
      · exact .inr ⟨q.symm ▸ rfl, n1, n2⟩
      · exact .inl (by simp [q])
  refine ⟨⟨hn, hsl, fun g e => ⟨(h.dj g e).1, ?_⟩, h.hL, ?_, h.hw⟩, hA2⟩
  · rcases ho with rfl | rfl | ⟨n, rfl, n1, n2⟩
    · exact (h.dj g e).2
    · simp
    · have := h.sl.lt e
      intro q; cases q; omega
  · rcases ho with rfl | rfl | ⟨n, rfl, n1, n2⟩
    · exact h.ho
    · intro g e; cases e
    · intro g e; cases e; exact Nat.le_trans hA.kp.size n1
/-- A new line. -/
theorem LW.fresh (h : LW w0 L o ow p en fi ns wv w) (hA : AtT [] w0 (xs3 L o ow) b σ w) (W : World) (B : Nat) (hid : B = w.heap.size ∧ W = w.alloc (.cells [Value.slice none 0 0, Value.bool false, Value.bool false].toArray 38)) :
    LW w0 B none ow [] false false ns wv W ∧ AtT [] w0 (xs3 B none ow) b σ W := by
  obtain ⟨rfl, rfl⟩ := hid
  refine ⟨⟨⟨⟨_, Blk.new w _ _, Sl.nil _ _ _⟩, fun g e => by cases e⟩, h.sl.alloc _, (fun g e => ⟨Nat.ne_of_lt (h.sl.lt e), by simp⟩), hA.kp.size, (fun g e => by cases e), h.hw⟩, (hA.boxed _).weaken fun g hg => ?_⟩
  simp at hg
  rcases hg with q | q <;> simp [q]
/-- The list of numbers turns. -/
theorem LW.note (h : LW w0 L o ow p en fi ns wv w) (hA : AtT [] w0 (xs3 L o ow) b σ w) (n : Int) {a' : Option Addr} {cap' : Nat} {w1 : World} {oz : Option Nat} (h1 : Sl w1 3 1 (.slice a' (ns.length + 1) cap') (ns.length + 1) (i64s ns ++ [.int .i64 n]) oz)
    (h2 : (w.alloc (.cells #[.int .i64 n] 3)).grownBy w1 ow) (h3 : oz = ow ∨ oz = some (w.heap.size + 1) ∧ w.heap.size + 1 < w1.heap.size) :
    LW w0 L o oz p en fi (ns ++ [n]) (.slice a' (ns.length + 1) cap') w1 ∧ AtT [] w0 (xs3 L o oz) b σ w1 := by
  have hk0 : Kp ow.toList w (w.alloc (.cells #[.int .i64 n] 3)) := (Kp.refl _ w).alloc _
  have hk1 : Kp ow.toList w w1 := hk0.grown h2 fun k e => .inl (by simp [e])
  have hS : ∀ g, g ∈ ow.toList → g ∈ xs3 L o ow ∧ w0.heap.size ≤ g := fun g hg => by
    have : ow = some g := by simpa using hg
    exact ⟨by simp [this], h.hw g this⟩
  have hln : LnAt L o p en fi w1 := by
    obtain ⟨⟨v, hb, hs⟩, hn⟩ := h.ln
    refine ⟨⟨v, hk1.blk hb fun hc => (h.dj L (by simpa using hc)).1 rfl, hs.kp hk1 fun g e hc => (h.dj g (by simpa using hc)).2 e⟩, hn⟩
  have hLlt := h.ln.lt
  have holt : ∀ g, o = some g → g < w.heap.size := fun g e => by obtain ⟨⟨v, hb, hs⟩, hn⟩ := h.ln; exact hs.lt e
  have hA2 : AtT [] w0 (xs3 L o oz) b σ w1 := by
    rcases h3 with rfl | ⟨rfl, h5⟩
    · exact hA.turn hk1 hS 0 fun g hg => .inl hg
    · refine hA.turn hk1 hS (w.heap.size + 1) fun g hg => ?_
      simp at hg
      rcases hg with q | q | q
      · exact .inl (by simp [q])
      · exact .inl (by simp [q])
      · exact .inr ⟨q.symm ▸ rfl, by omega, h5⟩
  refine ⟨⟨hln, ?_, ?_, h.hL, h.ho, ?_⟩, hA2⟩
  · have e1 : i64s (ns ++ [n]) = i64s ns ++ [.int .i64 n] := by rw [i64s_app]; rfl
    rw [List.length_append, e1]; exact h1
  · intro g e
    rcases h3 with rfl | ⟨rfl, h5⟩
    · exact h.dj g e
    · cases e; exact ⟨by omega, fun q => by have := holt _ q; omega⟩
  · intro g e
    rcases h3 with rfl | ⟨rfl, h5⟩
    · exact h.hw g e
    · cases e; have := hA.kp.size; omega
end
/-- A byte is put behind a line, by hand. -/
theorem LnAt.push {L : Nat} {o : Option Nat} {p : List UInt8} {w : World} (h : LnAt L o p false false w) (c : UInt8) : ∃ a cap, w.cell? ⟨L, 0, none⟩ = some (.slice a p.length cap) ∧ Sl (w.alloc (.cells #[.int .u8 c.toNat] 5)) 5 1 (.slice a p.length cap) p.length (bys p) o ∧
    ∀ a' cap' w1 oz, Sl w1 5 1 (.slice a' (p.length + 1) cap') (p.length + 1) (bys p ++ [.int .u8 c.toNat]) oz → (w.alloc (.cells #[.int .u8 c.toNat] 5)).grownBy w1 o → (oz = o ∨ oz = some (w.heap.size + 1) ∧ w.heap.size + 1 < w1.heap.size) →
      (w1.cell? ⟨L, 0, none⟩ = some (.slice a p.length cap) ∧ w1.frozen? ⟨L, 0, none⟩ = false) ∧ ∃ o', LnAt L o' (p ++ [c]) false false (w1.setCell ⟨L, 0, none⟩ (.slice a' (p.length + 1) cap')) ∧ LnTo L o o' w (w1.setCell ⟨L, 0, none⟩ (.slice a' (p.length + 1) cap')) := by
  obtain ⟨⟨v, hb, hs⟩, hn⟩ := h
  obtain ⟨a, cap, rfl, hl1, hl2⟩ := hs.shape
  have hs' := hs.alloc (.cells #[.int .u8 c.toNat] 5)
  have hb' := hb.alloc (.cells #[.int .u8 c.toNat] 5)
  refine ⟨a, cap, hb.cell 0 rfl, hs', fun a' cap' w1 oz h1 h2 h3 => ?_⟩
  have hk0 : Kp (L :: o.toList) w (w.alloc (.cells #[.int .u8 c.toNat] 5)) := (Kp.refl _ w).alloc _
  have hk1 : Kp (L :: o.toList) w w1 := hk0.grown h2 fun k e => .inl (by simp [e])
  have hL : L < (w.alloc (.cells #[.int .u8 c.toNat] 5)).heap.size := hb'.lt
  have hbl : Blk w1 L 38 [.slice a p.length cap, .bool false, .bool false] := by
    unfold Blk
    rw [h2.block L hL fun e => hn L e.symm rfl]; exact hb'
  have hzn : ∀ g, oz = some g → g ≠ L := by
    intro g e
    rcases h3 with h | ⟨h, _⟩
    · exact hn g (by rw [← h, e])
    · rw [h] at e; cases e; have : L < w.heap.size := hb.lt; omega
  refine ⟨⟨hbl.cell 0 rfl, hbl.frozen 0⟩, oz, ⟨⟨_, hbl.set 0 _, ?_⟩, hzn⟩, hk1.set _ _ (.inl (by simp)), ?_⟩
  · have e1 : bys (p ++ [c]) = bys p ++ [.int .u8 c.toNat] := by rw [bys_app]; rfl
    rw [List.length_append, e1]
    exact h1.set _ _ hzn
  · rcases h3 with h | ⟨h, h5⟩
    · exact .inl h
    · refine .inr (.inr ⟨_, h, by omega, ?_⟩)
      simpa using h5
end Go.Proofs.YtfnglkhhmplejaaGreat
namespace Go.Clk
open Go
theorem shows_row (s : Scr) (l : List UInt8) : ∀ j, (s.shows (l.take j)).row.length ≤ max s.row.length (s.at_ + j) := by
  intro j
  induction j with
  | zero => simp [Scr.shows]; omega
  | succ j ih =>
    by_cases h : j < l.length
    · rw [shows_next s l j h]
      have h1 := show1_bound (s.shows (l.take j)) l[j]
      have h2 := (shows_bound s l j).1
      omega
    · have e : l.take (j + 1) = l.take j := by rw [List.take_of_length_le (by omega), List.take_of_length_le (by omega)]
      rw [e]; omega
theorem shows_row' (s : Scr) (l : List UInt8) : (s.shows l).row.length ≤ max s.row.length (s.at_ + l.length) := by
  have := shows_row s l l.length
  rwa [List.take_length] at this
section
variable {f : Int} {p : List UInt8} {σ : St}
theorem Sh.inv_step (h : Sh f p σ) {C K : Int} (ok : InvC C K σ) (hk : 0 ≤ K) (c : UInt8) (hu : (σ.good c).look.urg = []) : InvC C K (σ.good c).look := by
  have h1 : InvC C K (σ.good c) := by rw [h.good]; exact ok.line _
  have h2 := h1.look
  obtain ⟨i, d, e, hh, u, q⟩ := look_frame (σ.good c)
  exact h2.tight C K (by rw [q]; exact h1.c1) (by rw [hu]; simpa using hk) (by rw [q]; exact h1.noted) (by rw [q]; exact h1.w1)
theorem Sh.tighten (h : Sh f p σ) {C K : Int} (ok : InvC C K σ) (hp : p.length ≤ 30) (hw : σ.wait ≤ 2) : InvC 300 2 σ :=
  ok.tight 300 2 (by rw [h.col]; have := rendF_len p 0; have e : (rend p).length ≤ 240 := by unfold rend; omega
                     omega) (by rw [h.urg]; simp) (by rw [h.noted]; simp) hw
theorem Sh.begin (f : Int) (h0 : 0 ≤ f) (h1 : f < 128) : Sh f [] (newS.change (shSet f)).look ∧ InvC 300 2 (newS.change (shSet f)).look := by
  have hn : normS (shSet f) = shSet f := by
    unfold normS shSet
    simp only [List.range, List.range.loop, List.map, gt, lim]
    simp
    omega
  have e1 : newS.change (shSet f) = { newS with ss := shSet f, inq := [], quoted := false } := by
    unfold St.change
    rw [hn]
    have h5 : (if newS.L 2 = bit (gt (shSet f) 2 % 1024) 2 then newS.inq else St.forget newS.inq) = [] := by split <;> rfl
    have h6 : (bit (gt (shSet f) 2 % 1024) 2 && newS.quoted) = false := by simp [newS]
    rw [h5, h6]
  have e2 : ({ newS with ss := shSet f, inq := [], quoted := false } : St).look = { newS with ss := shSet f, inq := [], quoted := false } :=
    look_idle _ rfl rfl (by show bit 128 2048 = false; decide)
  have hI : InvC 0 0 (newS.change (shSet f)) := InvC.new.change _
  rw [e1] at hI ⊢
  rw [e2]
  exact ⟨⟨rfl, rfl, rfl, rfl, rfl, rfl, rfl, rfl, rfl, rfl⟩, hI.mono (by omega) (by omega)⟩
end
end Go.Clk
namespace Go.Proofs.YtfnglkhhmplejaaGreat
open Go Go.RowKit Go.Clk
/-- A line at L and a screen at Sc. -/
structure LS (w0 : World) (L : Nat) (o : Option Nat) (p : List UInt8) (en fi : Bool) (Sc : Nat) (oS : Option Nat) (s : Scr) (w : World) : Prop where
  ln : LnAt L o p en fi w
  sc : ScAt Sc oS s w
  d1 : L ≠ Sc
  d2 : ∀ g, o = some g → g ≠ Sc ∧ oS ≠ some g
  d3 : ∀ g, oS = some g → g ≠ L
  hL : w0.heap.size ≤ L
  hS : w0.heap.size ≤ Sc
  ho : ∀ g, o = some g → w0.heap.size ≤ g
  hoS : ∀ g, oS = some g → w0.heap.size ≤ g
abbrev xs4 (L : Nat) (o : Option Nat) (Sc : Nat) (oS : Option Nat) : List Nat := L :: Sc :: (o.toList ++ oS.toList)
section
variable {w0 w w' : World} {L Sc : Nat} {o oS o' : Option Nat} {p p' : List UInt8} {en fi en' fi' : Bool} {s s' : Scr} {b : Nat} {σ : St}
theorem LS.kq (h : LS w0 L o p en fi Sc oS s w) (hk : Kq (xs4 L o Sc oS) w w') : LS w0 L o p en fi Sc oS s w' :=
  ⟨h.ln.kq hk (by simp) (fun g e => by simp [e]), h.sc.kq hk (by simp) (fun g e => by simp [e]), h.d1, h.d2, h.d3, h.hL, h.hS, h.ho, h.hoS⟩
theorem LS.grown (h : LS w0 L o p en fi Sc oS s w) (hg : w.grownBy w' none) : LS w0 L o p en fi Sc oS s w' :=
  h.kq ⟨[], (Kp.refl [] w).grown hg (fun k e => by cases e), fun _ _ => by simp⟩
theorem LS.line (h : LS w0 L o p en fi Sc oS s w) (hA : AtT [] w0 (xs4 L o Sc oS) b σ w) (hn : LnAt L o' p' en' fi' w') (ht : LnTo L o o' w w') :
    LS w0 L o' p' en' fi' Sc oS s w' ∧ AtT [] w0 (xs4 L o' Sc oS) b σ w' := by
  obtain ⟨hk, ho⟩ := ht
  have hS : ∀ g, g ∈ L :: o.toList → g ∈ xs4 L o Sc oS ∧ w0.heap.size ≤ g := by
    intro g hg
    rcases List.mem_cons.1 hg with rfl | hg
    · exact ⟨by simp, h.hL⟩
    · have : o = some g := by simpa using hg
      exact ⟨by simp [this], h.ho g this⟩
  have hout : ∀ g, (g = Sc ∨ oS = some g) → g ∉ L :: o.toList := by
    intro g hg hc
    rcases List.mem_cons.1 hc with q | q
    · rcases hg with r | r
      · exact h.d1 (by rw [← q, r])
      · exact h.d3 g r q
    · have q : o = some g := by simpa using q
      rcases hg with r | r
      · exact (h.d2 g q).1 r
      · exact (h.d2 g q).2 r
  have hsc : ScAt Sc oS s w' := by
    obtain ⟨⟨v, hb, hs⟩, hn⟩ := h.sc
    exact ⟨⟨v, hk.blk hb (hout Sc (.inl rfl)), hs.kp hk fun g e => hout g (.inr e)⟩, hn⟩
  have hScl : Sc < w.heap.size := by obtain ⟨⟨v, hb, hs⟩, hn⟩ := h.sc; exact hb.lt
  have hoSl : ∀ g, oS = some g → g < w.heap.size := fun g e => by obtain ⟨⟨v, hb, hs⟩, hn⟩ := h.sc; exact hs.lt e
  have hA2 : AtT [] w0 (xs4 L o' Sc oS) b σ w' := by
    rcases ho with rfl | rfl | ⟨n, rfl, n1, n2⟩
    · exact hA.turn hk hS 0 fun g hg => .inl hg
    · refine hA.turn hk hS 0 fun g hg => .inl ?_
      simp at hg
      rcases hg with q | q | q <;> simp [q]
    · refine hA.turn hk hS n fun g hg => ?_
      simp at hg
      rcases hg with q | q | q | q
      · exact .inl (by simp [q])
      · exact .inl (by simp [q])
      · exact .inr ⟨q.symm ▸ rfl, n1, n2⟩
      · exact .inl (by simp [q])
  refine ⟨⟨hn, hsc, h.d1, ?_, h.d3, h.hL, h.hS, ?_, h.hoS⟩, hA2⟩
  · intro g e
    rcases ho with rfl | rfl | ⟨n, rfl, n1, n2⟩
    · exact h.d2 g e
    · cases e
    · cases e; exact ⟨by omega, fun q => by have := hoSl _ q; omega⟩
  · intro g e
    rcases ho with rfl | rfl | ⟨n, rfl, n1, n2⟩
    · exact h.ho g e
    · cases e
    · cases e; exact Nat.le_trans hA.kp.size n1
theorem LS.scr (h : LS w0 L o p en fi Sc oS s w) (hA : AtT [] w0 (xs4 L o Sc oS) b σ w) (hn : ScAt Sc o' s' w') (ht : LnTo Sc oS o' w w') :
    LS w0 L o p en fi Sc o' s' w' ∧ AtT [] w0 (xs4 L o Sc o') b σ w' := by
  obtain ⟨hk, ho⟩ := ht
  have hS : ∀ g, g ∈ Sc :: oS.toList → g ∈ xs4 L o Sc oS ∧ w0.heap.size ≤ g := by
    intro g hg
    rcases List.mem_cons.1 hg with rfl | hg
    · exact ⟨by simp, h.hS⟩
    · have : oS = some g := by simpa using hg
      exact ⟨by simp [this], h.hoS g this⟩
  have hout : ∀ g, (g = L ∨ o = some g) → g ∉ Sc :: oS.toList := by
    intro g hg hc
    rcases List.mem_cons.1 hc with q | q
    · rcases hg with r | r
      · exact h.d1 (by rw [← q, r])
      · exact (h.d2 g r).1 q
    · have q : oS = some g := by simpa using q
      rcases hg with r | r
      · exact h.d3 g q r
      · exact (h.d2 g r).2 q
  have hln : LnAt L o p en fi w' := by
    obtain ⟨⟨v, hb, hs⟩, hn⟩ := h.ln
    exact ⟨⟨v, hk.blk hb (hout L (.inl rfl)), hs.kp hk fun g e => hout g (.inr e)⟩, hn⟩
  have hLl := h.ln.lt
  have hol : ∀ g, o = some g → g < w.heap.size := fun g e => by obtain ⟨⟨v, hb, hs⟩, hn⟩ := h.ln; exact hs.lt e
  have hA2 : AtT [] w0 (xs4 L o Sc o') b σ w' := by
    rcases ho with rfl | rfl | ⟨n, rfl, n1, n2⟩
    · exact hA.turn hk hS 0 fun g hg => .inl hg
    · refine hA.turn hk hS 0 fun g hg => .inl ?_
      simp at hg
      rcases hg with q | q | q <;> simp [q]
    · refine hA.turn hk hS n fun g hg => ?_
      simp at hg
      rcases hg with q | q | q | q
      · exact .inl (by simp [q])
      · exact .inl (by simp [q])
      · exact .inl (by simp [q])
      · exact .inr ⟨q.symm ▸ rfl, n1, n2⟩
  refine ⟨⟨hln, hn, h.d1, ?_, ?_, h.hL, h.hS, h.ho, ?_⟩, hA2⟩
  · intro g e
    refine ⟨(h.d2 g e).1, ?_⟩
    rcases ho with rfl | rfl | ⟨n, rfl, n1, n2⟩
    · exact (h.d2 g e).2
    · simp
    · intro q; cases q; have := hol _ e; omega
  · intro g e
    rcases ho with rfl | rfl | ⟨n, rfl, n1, n2⟩
    · exact h.d3 g e
    · cases e
    · cases e; omega
  · intro g e
    rcases ho with rfl | rfl | ⟨n, rfl, n1, n2⟩
    · exact h.hoS g e
    · cases e
    · cases e; exact Nat.le_trans hA.kp.size n1
theorem LS.fresh (h : LS w0 L o p en fi Sc oS s w) (hA : AtT [] w0 (xs4 L o Sc oS) b σ w) (W : World) (B : Nat) (hid : B = w.heap.size ∧ W = w.alloc (.cells [Value.slice none 0 0, Value.bool false, Value.bool false].toArray 38)) :
    LS w0 B none [] false false Sc oS s W ∧ AtT [] w0 (xs4 B none Sc oS) b σ W := by
  obtain ⟨rfl, rfl⟩ := hid
  have hScl : Sc < w.heap.size := by obtain ⟨⟨v, hb, hs⟩, hn⟩ := h.sc; exact hb.lt
  have hoSl : ∀ g, oS = some g → g < w.heap.size := fun g e => by obtain ⟨⟨v, hb, hs⟩, hn⟩ := h.sc; exact hs.lt e
  refine ⟨⟨⟨⟨_, Blk.new w _ _, Sl.nil _ _ _⟩, fun g e => by cases e⟩, h.sc.grown ⟨rfl, rfl, rfl, by simp, fun k hk _ => Below.heap_alloc w _ k hk⟩, by omega, (fun g e => by cases e), (fun g e => by have := hoSl g e; omega), hA.kp.size, h.hS, (fun g e => by cases e), h.hoS⟩, (hA.boxed _).weaken fun g hg => ?_⟩
  simp at hg
  rcases hg with q | q | q <;> simp [q]
end
end Go.Proofs.YtfnglkhhmplejaaGreat
