/- Of the terminal alone: lines that are edited: what bounds it. -/
import Derived.Test.YtfnglkhhmplejaaKeep
namespace Go.Clk
open Go
theorem typed_len (x f : Bool) (p : List UInt8) (c : UInt8) : (typed x f p c).1.length ≤ p.length + 1 := by
  unfold typed
  repeat' split
  all_goals simp
  all_goals omega
theorem typed_file (x f : Bool) (p : List UInt8) (c : UInt8) (h : (typed x f p c).2.1 = false) : (typed x f p c).2.2 = false := by
  unfold typed at h ⊢
  repeat' split
  all_goals first | rfl | skip
  rename_i a1 a2 a3 a4
  rw [if_neg a1, if_neg a2, if_neg a3, if_pos a4] at h; cases h
theorem InvC.drained {C K : Int} {σ : St} (h : InvC C K σ) (m : Nat) : InvC (C + 2048) K (σ.drain m).1 := by
  have h1 := h.drain m
  have hu : ((σ.drain m).1.urg.length : Int) ≤ σ.urg.length := by
    unfold St.drain; dsimp only
    split <;> (dsimp only; simp only [List.length_drop]; omega)
  obtain ⟨u, o, e⟩ := drain_frame σ m
  have q1 := h.urg; have q2 := h.noted; have q3 := h.w1
  refine h1.tight _ _ h1.c1 (by omega) ?_ ?_
  · rw [e]; exact q2
  · rw [e]; exact q3
theorem read_wait (σ : St) (n : Int) : (σ.read n).1.wait = σ.wait ∨ (σ.read n).1.wait = 0 := by
  unfold St.read
  repeat' split
  · exact .inl rfl
  · exact .inl rfl
  · obtain ⟨i, d, e, h, u, q⟩ := look_frame ({ σ with reads := true, ended := false, n := n, wait := 0 } : St)
    right
    show (St.look _).wait = 0
    rw [q]
theorem take_wait (σ : St) : σ.take.1.wait = σ.wait := by
  obtain ⟨r, e, q⟩ := take_frame σ
  rw [q]
section
variable {l : Int} {p : List UInt8} {q : Bool} {ns : List Int} {σ : St}
theorem Ed.begin (l : Int) (h0 : 0 ≤ l) (h1 : l < 1024) (b1 : bit l 1 = true) (b2 : bit l 2 = true) (b512 : bit l 512 = true) : Ed l [] false [] (newS.change (edSet l)).look ∧ InvC 0 2 (newS.change (edSet l)).look := by
  have hn : normS (edSet l) = edSet l := by
    unfold normS edSet
    simp only [List.range, List.range.loop, List.map, gt, lim]
    simp
    omega
  have e1 : newS.change (edSet l) = { newS with ss := edSet l, inq := [], quoted := false } := by
    unfold St.change
    rw [hn]
    have h5 : (if newS.L 2 = bit (gt (edSet l) 2 % 1024) 2 then newS.inq else St.forget newS.inq) = [] := by split <;> rfl
    have h6 : (bit (gt (edSet l) 2 % 1024) 2 && newS.quoted) = false := by simp [newS]
    rw [h5, h6]
  have e2 : ({ newS with ss := edSet l, inq := [], quoted := false } : St).look = { newS with ss := edSet l, inq := [], quoted := false } :=
    look_idle _ rfl rfl (by show bit 640 2048 = false; decide)
  have hI : InvC 0 0 (newS.change (edSet l)) := InvC.new.change _
  rw [e1] at hI ⊢
  rw [e2]
  exact ⟨⟨rfl, b1, b2, b512, Typing.nil, rfl, rfl, rfl, rfl, rfl, rfl⟩, hI.mono (by omega) (by omega)⟩
/-- A byte that means no signal, no flow and no quote. -/
theorem Ed.inv_good (h : Ed l p false ns σ) (c : UInt8) (hp : p.length < 255) (hc : c.toNat ≠ 3 ∧ c.toNat ≠ 28 ∧ c.toNat ≠ 26 ∧ c.toNat ≠ 17 ∧ c.toNat ≠ 19) (hd : c.toNat ≠ 22 ∧ c.toNat ≠ 18) {C K : Int} (ok : InvC C K σ) : InvC C K (σ.good c).look := by
  rw [h.good c hc]
  have h13 : (if c.toNat = 13 then (10 : UInt8) else c).toNat = if c.toNat = 13 then 10 else c.toNat := line_cr c
  obtain ⟨i, h1, _⟩ := h.line (if c.toNat = 13 then 10 else c) hp ⟨by rw [h13]; split <;> omega, by rw [h13]; split <;> omega, by rw [h13]; split <;> omega⟩
  have hl := ok.line (if c.toNat = 13 then 10 else c)
  generalize σ.line (if c.toNat = 13 then 10 else c) = τ at h1 hl ⊢
  have e1 : τ.look = τ := h.idle (by obtain ⟨o, k, e⟩ := h1; rw [e]) (by obtain ⟨o, k, e⟩ := h1; rw [e]; exact h.reads) (by obtain ⟨o, k, e⟩ := h1; rw [e]; exact h.held)
  rw [e1]; exact hl
theorem Ed.drained (h : Ed l p q ns σ) {C K : Int} (ok : InvC C K σ) : (σ.drain 1099511627776).1 = { σ with out := [] } := by
  rw [drain_all σ _ h.urg h.stopped (by have := ok.out; omega)]
/-- A byte that ends no line, and all that is to be sent is sent. -/
theorem Ed.typed_on (h : Ed l p false [] σ) (c : UInt8) (hp : p.length < 255) (hc : c.toNat ≠ 3 ∧ c.toNat ≠ 28 ∧ c.toNat ≠ 26 ∧ c.toNat ≠ 17 ∧ c.toNat ≠ 19) (hd : c.toNat ≠ 22 ∧ c.toNat ≠ 18) (hn : (typed true true p c).2.1 = false) {C : Int} (ok : InvC C 2 σ) :
    Ed l (typed true true p c).1 false [] ((σ.good c).look.drain 1099511627776).1 ∧ InvC (C + 2048) 2 ((σ.good c).look.drain 1099511627776).1 := by
  have h1 := h.step c hp hc hd hn
  have h2 := h.inv_good c hp hc hd ok
  refine ⟨?_, h2.drained _⟩
  rw [h1.1.drained h2]; exact h1.2
/-- A byte that ends a line; it is read. -/
theorem Ed.typed_end (h : Ed l p false [] σ) (c : UInt8) (hp : p.length < 255) (hc : c.toNat ≠ 3 ∧ c.toNat ≠ 28 ∧ c.toNat ≠ 26 ∧ c.toNat ≠ 17 ∧ c.toNat ≠ 19) (hd : c.toNat ≠ 22 ∧ c.toNat ≠ 18) (hn : (typed true true p c).2.1 = true) {C : Int} (ok : InvC C 2 σ) :
    InvC (C + 2048) 2 ((σ.good c).look.drain 1099511627776).1 ∧ (((σ.good c).look.drain 1099511627776).1.read 256).2 = 0 ∧
    (((σ.good c).look.drain 1099511627776).1.read 256).1.take.2 = ((typed true true p c).1 ++ (if (typed true true p c).2.2 then [] else [10]), true, 0) ∧
    Ed l [] false [] (((σ.good c).look.drain 1099511627776).1.read 256).1.take.1 ∧ InvC (C + 2049) 2 (((σ.good c).look.drain 1099511627776).1.read 256).1.take.1 := by
  have h1 := h.fin c hp hc hd hn
  have h2 := h.inv_good c hp hc hd ok
  have e1 : ((σ.good c).look.drain 1099511627776).1 = { (σ.good c).look with out := [] } := by
    rw [drain_all _ _ h1.1 h1.2.1 (by have := h2.out; omega)]
  have h3 := h2.drained 1099511627776
  have h4 := (h3.read 256).take
  have hw : (((σ.good c).look.drain 1099511627776).1.read 256).1.take.1.wait ≤ 2 := by
    rw [take_wait]
    have := h3.w1
    rcases read_wait ((σ.good c).look.drain 1099511627776).1 256 with e | e <;> omega
  rw [e1] at h3 h4 hw ⊢
  refine ⟨h3, h1.2.2.1, h1.2.2.2.1, h1.2.2.2.2, ?_⟩
  have h5 := h1.2.2.2.2
  have e3 : C + 2048 + 1 = C + 2049 := by omega
  rw [e3] at h4
  exact h4.tight _ _ h4.c1 (by rw [h5.urg]; simp) (by rw [h5.noted]; simp) hw
end
end Go.Clk
