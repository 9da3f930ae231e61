/- The program's terminal while entries that were rubbed out are still to be read. (Written by mkProg18.py.) -/
import Derived.Test.YtfnglkhhmplejaaGreatProg17
import Derived.Deep.QuietTactic
import Derived.Deep.RegionWith
namespace Go.Proofs.YtfnglkhhmplejaaGreat
open Go Go.RowKit Go.Clk

def QV (S0 : List Nat) (w0 : World) (x : List Nat) (b : Nat) (σ : St) (ci vi vu vo vs : Value) (w : World) : Prop :=
  σ.ss.length = 17 ∧ AtO S0 w0 x b 76 (i64s σ.ss ++ ptl σ ci vu vo vs) (pfs σ vi vu vo vs) w
/-- The cell of the input queue holds ci, and its field vi. -/
def AtQ (S0 : List Nat) (w0 : World) (x : List Nat) (b : Nat) (σ : St) (ci vi : Value) (w : World) : Prop := ∃ vu vo vs, QV S0 w0 x b σ ci vi vu vo vs w
section
variable {S0 : List Nat} {w0 w : World} {x : List Nat} {b : Nat} {σ : St} {ci vi vu vo vs : Value}
theorem QV.r (h : QV S0 w0 x b σ ci vi vu vo vs w) : AtQ S0 w0 x b σ ci vi w := ⟨vu, vo, vs, h⟩
theorem QV.co (h : QV S0 w0 x b σ ci vi vu vo vs w) : w.cell? ⟨b, 1, none⟩ = some (.int .i64 σ.o) := cell_head h.2 h.1 1 (by omega)
theorem QV.cl (h : QV S0 w0 x b σ ci vi vu vo vs w) : w.cell? ⟨b, 2, none⟩ = some (.int .i64 σ.l) := cell_head h.2 h.1 2 (by omega)
theorem QV.c_col (h : QV S0 w0 x b σ ci vi vu vo vs w) : w.cell? ⟨b, 20, none⟩ = some (.int .i64 σ.col) := cell_tail h.2 h.1 3 rfl
theorem QV.c_out (h : QV S0 w0 x b σ ci vi vu vo vs w) : w.cell? ⟨b, 19, none⟩ = some vo := cell_tail h.2 h.1 2 rfl
theorem QV.frozen (h : QV S0 w0 x b σ ci vi vu vo vs w) (i : Nat) : w.frozen? ⟨b, i, none⟩ = false := h.2.frozen i
theorem QV.drew (h : QV S0 w0 x b σ ci vi vu vo vs w) : QV S0 w0 x b σ ci vi vu vo vs w.drew := ⟨h.1, h.2.drew⟩
theorem QV.s_col (h : QV S0 w0 x b σ ci vi vu vo vs w) (v : Int) : QV S0 w0 x b { σ with col := v } ci vi vu vo vs (w.setCell ⟨b, 20, none⟩ (.int .i64 v)) := ⟨h.1, set_tail h.2 h.1 3 _⟩
theorem QV.same {w1 : World} (h : QV S0 w0 x b σ ci vi vu vo vs w) (hg : w.grownBy w1 none) : QV S0 w0 x b σ ci vi vu vo vs w1 :=
  ⟨h.1, h.2.same (h.2.kp.grown hg fun k e => by cases e) hg.size fun k hk _ => hg.block k hk (by simp)⟩
theorem QV.lens_out (h : QV S0 w0 x b σ ci vi vu vo vs w) : ∃ o, Sl w 5 1 vo σ.out.length (bys σ.out) o ∧ o ≠ some b ∧ (∀ g, o = some g → g ∉ x) ∧
    ∀ (w1 : World) (v' : Value) (xs : List UInt8) (o' : Option Nat), w.grownBy w1 o → Sl w1 5 1 v' xs.length (bys xs) o' → (o' = none ∨ o' = o ∨ ∃ g, o' = some g ∧ w.heap.size ≤ g) →
      w1.cell? ⟨b, 19, none⟩ = some vo ∧ w1.frozen? ⟨b, 19, none⟩ = false ∧ QV S0 w0 x b { σ with out := xs } ci vi vu v' vs (w1.setCell ⟨b, 19, none⟩ v') := by
  obtain ⟨o, h1, h2, h3, _, h5⟩ := h.2.lens 2 rfl
  refine ⟨o, h1, h2, h3, fun w1 v' xs o' hg hs ho => ?_⟩
  have := h5 w1 ⟨_, 1, v', xs.length, bys xs⟩ o' hg hs ho
  exact ⟨cell_tail this h.1 2 rfl, this.frozen _, h.1, set_tail this h.1 2 v'⟩
theorem AtQ.kp (h : AtQ S0 w0 x b σ ci vi w) : Kp S0 w0 w := by obtain ⟨vu, vo, vs, hl, h⟩ := h; exact h.kp
theorem AtQ.drew (h : AtQ S0 w0 x b σ ci vi w) : AtQ S0 w0 x b σ ci vi w.drew := by obtain ⟨vu, vo, vs, h⟩ := h; exact ⟨vu, vo, vs, h.drew⟩
theorem AtQ.rebase (h : AtQ S0 w0 x b σ ci vi w) : ∃ S, AtQ S w x b σ ci vi w ∧ (∀ k, k ∈ S → k < w.heap.size) ∧ (∀ g, g ∈ x → g ∉ S) ∧ (∀ k, k ∈ S → k ∈ S0 ∨ w0.heap.size ≤ k) ∧ ∀ σ' w', AtQ S w x b σ' ci vi w' → AtQ S0 w0 x b σ' ci vi w' := by
  obtain ⟨vu, vo, vs, hl, h⟩ := h
  obtain ⟨S, h1, h2, h3, h4, h5⟩ := h.rebase
  exact ⟨S, ⟨vu, vo, vs, hl, h1⟩, h2, h3, h4, fun σ' w' ⟨vu', vo', vs', hl', h'⟩ => ⟨vu', vo', vs', hl', h5 _ _ _ h'⟩⟩
theorem AtQ.same {w1 : World} (h : AtQ S0 w0 x b σ ci vi w) (hg : w.grownBy w1 none) : AtQ S0 w0 x b σ ci vi w1 := by obtain ⟨vu, vo, vs, h⟩ := h; exact ⟨vu, vo, vs, h.same hg⟩
/-- The queue is whole again. -/
theorem AtQ.back {o : Option Nat} {l : List Ent} (h : AtQ S0 w0 (o.toList ++ x) b { σ with inq := [] } ci (.slice none 0 0) w) (hs : Sl w 112 4 ci l.length (pents l) o) (ho : ∀ g, o = some g → g ≠ b ∧ g ∉ x ∧ (g ∈ S0 ∨ w0.heap.size ≤ g)) : AtP S0 w0 x b { σ with inq := l } w := by
  obtain ⟨vu, vo, vs, hl, h⟩ := h
  have := h.adopt 0 (by simp [pfs]) ⟨_, 4, ci, l.length, pents l⟩ o x hs (fun g e => ⟨by simp [e], (ho g e).2.2, (ho g e).2.1⟩) (fun z hz => by simp [hz])
  exact ⟨ci, vu, vo, vs, hl, this⟩
end

section
variable (S0 : List Nat) (w0 : World) (x : List Nat) (b : Nat) (σ : St) (w : World) (K : Int)

set_option maxHeartbeats 1000000 in
set_option maxRecDepth 100000 in
theorem RubOut_any (h : AtP S0 w0 x b σ w) (hil : σ.inq.length ≤ 256) (n : Nat) (hn : n ≤ σ.inq.length) (ni : Int) (hni : ni = (n : Int)) :
    Calls Tryz.prog 139 #[.pointer (some ⟨b, 17, none⟩), .int .i64 ni] w fun e w' => ∃ a cap vf o, e = .returned (.slice a n cap) ∧ AtQ S0 w0 (o.toList ++ x) b { σ with inq := [] } vf (.slice none 0 0) w' ∧
      Sl w' 112 4 vf (σ.inq.take (σ.inq.length - n)).length (pents (σ.inq.take (σ.inq.length - n))) o ∧ Sl w' 112 4 (.slice a n cap) n (pents (σ.inq.drop (σ.inq.length - n))) o ∧ (∀ g, o = some g → g ≠ b ∧ g ∉ x ∧ (g ∈ S0 ∨ w0.heap.size ≤ g)) := by
  subst hni
  obtain ⟨t0, hti, htz0, htz1, htz2⟩ := info_parts info_pent
  obtain ⟨vi, vu, vo, vs, hV⟩ := h
  have k := hV.c_in
  have f := hV.frozen 17
  obtain ⟨oi, hs0, hgo, hG⟩ := hV.2.give 0 rfl
  have hs : Sl w 112 4 vi σ.inq.length (pents σ.inq) oi := hs0
  obtain ⟨ai, ci, rfl, hl1, hl2⟩ := hs.shape
  obtain ⟨m, hm⟩ : ∃ m, m + n = σ.inq.length := ⟨σ.inq.length - n, by omega⟩
  have hmi : (σ.inq.length : Int) - (n : Int) = (m : Int) := by omega
  have HS : Hid (Sl w 112 4 (.slice ai σ.inq.length ci) σ.inq.length (pents σ.inq) oi) := hs
  have HQ : Hid (∀ v, AtQ S0 w0 (oi.toList ++ x) b { σ with inq := [] } v (.slice none 0 0) (w.setCell ⟨b, 17, none⟩ v)) := fun v => ⟨vu, vo, vs, hV.1, set_tail hG hV.1 0 v⟩
  clear hs hs0 hV hG
  go_enter Tryz.func139, Tryz.ntmps139
  go_wp2_with (refine wpList_cut rfl (.tmp 15) (.tmp 16) 69 rfl t0 Tryz.underlying69 hti htz1 rfl HS.out (m : Int) (by first | rfl | simp [Act.eval]) (by omega) (by omega) ?_)
  intro a2 cap2 hs2
  go_wp2_with (refine wpList_front rfl (.tmp 21) (.tmp 22) 69 rfl t0 Tryz.underlying69 hti rfl HS.out (m : Int) (by first | rfl | simp [Act.eval]) (by omega) (by omega) ?_)
  intro hs3
  have hq := HQ.out (.slice ai m ci)
  have e1 : σ.inq.length - m = n := by omega
  have e2 : σ.inq.length - n = m := by omega
  have hA : Sl (w.setCell ⟨b, 17, none⟩ (.slice ai m ci)) 112 4 (.slice ai m ci) (σ.inq.take (σ.inq.length - n)).length (pents (σ.inq.take (σ.inq.length - n))) oi := by
    rw [e2, pents_take, List.length_take, Nat.min_eq_left (by omega)]
    exact (by simpa using hs3 : Sl w _ 4 _ m _ oi).set _ _ fun g e => (hgo g e).1
  have hB : Sl (w.setCell ⟨b, 17, none⟩ (.slice ai m ci)) 112 4 (.slice a2 n cap2) n (pents (σ.inq.drop (σ.inq.length - n))) oi := by
    rw [e2, pents_drop]
    have h5 : Sl w 112 4 (.slice a2 (σ.inq.length - m) cap2) (σ.inq.length - m) ((pents σ.inq).drop (m * 4)) oi := by simpa using hs2
    rw [e1] at h5
    exact h5.set _ _ fun g e => (hgo g e).1
  clear hs2 hs3 HQ HS
  go_wp2
  go_ret
  exact ⟨a2, cap2, _, oi, by first | rfl | (rw [e1]; rfl), hq, hA, hB, hgo⟩
end
end Go.Proofs.YtfnglkhhmplejaaGreat
