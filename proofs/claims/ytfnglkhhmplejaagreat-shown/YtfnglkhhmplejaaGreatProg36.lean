/- Walks: the program: a byte is echoed while entries of the queue are held; the line is shown anew. (Written by mkProg36.py.) -/
import Derived.Test.YtfnglkhhmplejaaGreatProg35
namespace Go.Clk
open Go
theorem echo1_inq (σ : St) (l : List Ent) (c : UInt8) : ({ σ with inq := l } : St).echo1 c = { σ.echo1 c with inq := l } := by
  unfold St.echo1
  rw [show ({ σ with inq := l } : St).echoes c = σ.echoes c from rfl, show ({ σ with inq := l } : St).shows c = σ.shows c from rfl, put_inq]
  split <;> rfl
theorem cells_inq (σ : St) (l : List Ent) (c : UInt8) : ({ σ with inq := l } : St).cellsOf c = σ.cellsOf c := by
  unfold St.cellsOf; rw [echo1_inq]
end Go.Clk
namespace Go.Proofs.YtfnglkhhmplejaaGreat
open Go Go.RowKit Go.Clk
section
variable (S0 : List Nat) (w0 : World) (x : List Nat) (b : Nat) (σ : St) (ci vi : Value) (w : World) (K : Int)

theorem putOut_qnew (h : AtQ S0 w0 x b σ ci vi w) (ok : Inv K σ) (hK : K ≤ 1099511627776) (l : List UInt8) (hn : l.length ≤ 10000) (cs : Array Value) (hcs : cs = (bys l).toArray) (n : Nat) (hl : n = l.length) :
    Calls Tryz.prog 60 #[.pointer (some ⟨b, 0, none⟩), .slice (some ⟨w.heap.size, 0, none⟩) n n] (w.alloc (.cells cs 5)) fun e w' => e = .returned (.bool (σ.put l).2) ∧ AtQ S0 w0 x b (σ.put l).1 ci vi w' := by
  subst hcs hl
  refine (putOut_q S0 w0 (w.heap.size :: x) b σ ci vi _ _ (h.boxed _) ok.ok (by omega) ok.out _ l (some w.heap.size) (Sl.made w (bys l) l.length 5 1 (bys_len l) (by unfold maxLen; omega)) hn).mono ?_
  rintro e w' ⟨rfl, h'⟩
  exact ⟨rfl, h'.weaken fun g hg => by simp [hg]⟩
set_option maxHeartbeats 1000000 in
set_option maxRecDepth 100000 in
theorem echo_q (h : AtQ S0 w0 x b σ ci vi w) (ok : Inv K σ) (hK : K ≤ 1099511627776) (c : UInt8) (n : Int) (hn : n = (c.toNat : Int)) :
    Calls Tryz.prog 103 #[.pointer (some ⟨b, 0, none⟩), .int .u8 n] w fun e w' => e = .returned (.int .i64 (σ.cellsOf c)) ∧ AtQ S0 w0 x b (σ.echo1 c) ci vi w' := by
  subst hn
  have hR := h
  obtain ⟨vu, vo, vs, hV⟩ := h
  have l0 := ok.ok.l0; have l1 := ok.ok.l1
  have k2 := hV.cl
  have kcol := hV.c_col
  have q0 := ok.c0; have q1 := ok.c1; have q2 := ok.out
  have HI : Hid (Inv K σ) := ok
  have HX := u8_xor c
  have hlt := hR.lt
  clear ok hV
  have HC : Hid (σ.cellsOf c = if σ.col < (σ.echo1 c).col then (σ.echo1 c).col - σ.col else 0) := rfl
  cases he : σ.echoes c with
  | false =>
    have h1 : σ.echo1 c = σ := by unfold St.echo1; rw [he]; rfl
    have h2 : σ.cellsOf c = 0 := by rw [HC.out, h1]; simp
    rw [h1, h2]
    clear HC h1 h2
    go_enter Tryz.func103, Tryz.ntmps103
    go_wp2_with (go_at_call 133; refine (echoes_any b σ _ k2 l0 l1 c).mono ?_; rw [he]; rintro e w' ⟨rfl, rfl⟩)
    go_ret
    exact ⟨rfl, hR⟩
  | true =>
    have HE : Hid (σ.echo1 c = (σ.put (σ.shows c)).1) := by show σ.echo1 c = _; unfold St.echo1; rw [if_pos he]
    have HK : Hid (Inv K (σ.echo1 c)) := HI.out.echo1 c
    have hq0 := HK.out.c0; have hq1 := HK.out.c1; have hq2 := HK.out.out
    cases ht : σ.two c with
    | true =>
      have HS : Hid (σ.shows c = [94, c ^^^ 64]) := by show σ.shows c = _; unfold St.shows; rw [if_pos ht]
      go_enter Tryz.func103, Tryz.ntmps103
      go_wp2_with (first | (go_at_call 133; refine (echoes_any b σ _ k2 l0 l1 c).mono ?_; rw [he]; rintro e w' ⟨rfl, rfl⟩) | (go_at_call 38; refine (Column_any b _ σ.col kcol).mono ?_; rintro e w' ⟨rfl, rfl⟩) | (go_at_call 134; refine (two_any b σ _ k2 l0 l1 c).mono ?_; rw [ht]; rintro e w' ⟨rfl, rfl⟩))
      refine (putOut_qnew S0 w0 x b σ ci vi _ K hR HI.out hK [94, c ^^^ 64] (by simp) _ (pcells_two c _ (by rfl)) 2 rfl).mono ?_
      rintro e W ⟨rfl, hW⟩
      rw [← HS.out, ← HE.out] at hW
      have hW' := hW
      obtain ⟨vu, vo, vs, hV⟩ := hW'
      have pcol := hV.c_col
      clear hV HS HE k2 kcol HX
      obtain ⟨τ, hτ⟩ : ∃ τ, σ.echo1 c = τ := ⟨_, rfl⟩
      rw [hτ] at hW pcol hq0 hq1 hq2 HC
      have HG : Hid (σ.echo1 c = τ) := hτ
      clear hτ HK
      go_wp2_with (go_at_call 38; refine (Column_any b _ τ.col pcol).mono ?_; rintro e w' ⟨rfl, rfl⟩)
      all_goals go_ret
      all_goals exact ⟨ret_int (by rw [HC.out]; split <;> omega), by rw [HG.out]; exact hW⟩
    | false =>
      have HS : Hid (σ.shows c = [c]) := by show σ.shows c = _; unfold St.shows; rw [if_neg (by rw [ht]; decide)]
      go_enter Tryz.func103, Tryz.ntmps103
      go_wp2_with (first | (go_at_call 133; refine (echoes_any b σ _ k2 l0 l1 c).mono ?_; rw [he]; rintro e w' ⟨rfl, rfl⟩) | (go_at_call 38; refine (Column_any b _ σ.col kcol).mono ?_; rintro e w' ⟨rfl, rfl⟩) | (go_at_call 134; refine (two_any b σ _ k2 l0 l1 c).mono ?_; rw [ht]; rintro e w' ⟨rfl, rfl⟩))
      refine (putOut_qnew S0 w0 x b σ ci vi _ K hR HI.out hK [c] (by simp) _ rfl 1 rfl).mono ?_
      rintro e W ⟨rfl, hW⟩
      rw [← HS.out, ← HE.out] at hW
      have hW' := hW
      obtain ⟨vu, vo, vs, hV⟩ := hW'
      have pcol := hV.c_col
      clear hV HS HE k2 kcol HX
      obtain ⟨τ, hτ⟩ : ∃ τ, σ.echo1 c = τ := ⟨_, rfl⟩
      rw [hτ] at hW pcol hq0 hq1 hq2 HC
      have HG : Hid (σ.echo1 c = τ) := hτ
      clear hτ HK
      go_wp2_with (go_at_call 38; refine (Column_any b _ τ.col pcol).mono ?_; rintro e w' ⟨rfl, rfl⟩)
      all_goals go_ret
      all_goals exact ⟨ret_int (by rw [HC.out]; split <;> omega), by rw [HG.out]; exact hW⟩

end
/-- The queue's entries are held apart. -/
theorem AtP.held {S0 : List Nat} {w0 w : World} {x : List Nat} {b : Nat} {σ : St} (h : AtP S0 w0 x b σ w) : ∃ vi o, w.cell? ⟨b, 17, none⟩ = some vi ∧ Sl w 112 4 vi σ.inq.length (pents σ.inq) o ∧ (∀ g, o = some g → g ≠ b ∧ g ∉ x ∧ (g ∈ S0 ∨ w0.heap.size ≤ g)) ∧ AtQ S0 w0 (o.toList ++ x) b { σ with inq := [] } vi (.slice none 0 0) w := by
  obtain ⟨vi, vu, vo, vs, hV⟩ := h
  have k := hV.c_in
  obtain ⟨oi, hs0, hgo, hG⟩ := hV.2.give 0 rfl
  exact ⟨vi, oi, k, hs0, hgo, vu, vo, vs, hV.1, hG⟩
theorem AtQ.poke {S0 : List Nat} {w0 w : World} {x : List Nat} {b : Nat} {σ : St} {ci vi : Value} (h : AtQ S0 w0 x b σ ci vi w) {g : Nat} (hg : g ∈ x) (h0 : g ∈ S0 ∨ w0.heap.size ≤ g) (k : Nat) (v : Value) : AtQ S0 w0 x b σ ci vi (w.setCell ⟨g, k, none⟩ v) := by
  obtain ⟨vu, vo, vs, hl, h⟩ := h
  exact ⟨vu, vo, vs, hl, h.same (h.kp.set ⟨g, k, none⟩ v h0) (by simp) fun j _ hx => heap_setCell_other w ⟨g, k, none⟩ j v fun e => hx (by rw [e]; exact hg)⟩
end Go.Proofs.YtfnglkhhmplejaaGreat
