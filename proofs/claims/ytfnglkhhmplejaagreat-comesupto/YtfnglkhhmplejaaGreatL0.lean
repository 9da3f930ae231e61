/- The law's world: terminals side by side, each with blocks of a colour of its own (over the document's state). -/
import Derived.Test.YtfnglkhhmplejaaGreatP43
import Derived.Test.YtfnglkhhmplejaaGreatR3
namespace Go.Proofs.YtfnglkhhmplejaaGreat
open Go Go.RowKit Go.Clk

/-- From w to w' only blocks of the colour i have turned. -/
structure Tn (c : Nat → Nat) (i : Nat) (w w' : World) : Prop where
  os : w'.os = w.os
  tape : w'.tape = w.tape
  output : w'.output = w.output
  size : w.heap.size ≤ w'.heap.size
  block : ∀ k, k < w.heap.size → c k ≠ i → w'.heap[k]? = w.heap[k]?

/-- New blocks get the colour i. -/
def recol (w : World) (c : Nat → Nat) (i : Nat) : Nat → Nat := fun k => if k < w.heap.size then c k else i
theorem recol_old {w : World} {c : Nat → Nat} {i k : Nat} (h : k < w.heap.size) : recol w c i k = c k := if_pos h
theorem recol_new {w : World} {c : Nat → Nat} {i k : Nat} (h : w.heap.size ≤ k) : recol w c i k = i := if_neg (by omega)

/-- An object with blocks of the colour i alone. -/
def OO (w : World) (c : Nat → Nat) (i b : Nat) (e : TypeId) (cs : List Value) (fs : List Fld) : Prop := ∃ S, AtO S w [] b e cs fs w ∧ ∀ k, k ∈ S → k < w.heap.size ∧ c k = i

theorem AtO.here {S : List Nat} {w0 w : World} {b : Nat} {e : TypeId} {cs : List Value} {fs : List Fld} (h : AtO S w0 [] b e cs fs w) {c : Nat → Nat} {i : Nat} (hS : ∀ k, k ∈ S → k < w0.heap.size ∧ c k = i) : OO w (recol w0 c i) i b e cs fs := by
  obtain ⟨T, h1, h2, _, h4, _⟩ := h.rebase
  refine ⟨T, h1, fun k hk => ⟨h2 k hk, ?_⟩⟩
  rcases h4 k hk with h | h
  · rw [recol_old (hS k h).1]; exact (hS k h).2
  · exact recol_new h
theorem AtO.turned {S : List Nat} {w0 w : World} {b : Nat} {e : TypeId} {cs : List Value} {fs : List Fld} (h : AtO S w0 [] b e cs fs w) {c : Nat → Nat} {i : Nat} (hS : ∀ k, k ∈ S → k < w0.heap.size ∧ c k = i) : Tn c i w0 w :=
  ⟨h.kp.os, h.kp.tape, h.kp.output, h.kp.size, fun k hk hc => h.kp.block k hk fun hm => hc (hS k hm).2⟩
/-- It stays where another colour turns. -/
theorem OO.stayW {w w' : World} {c c' : Nat → Nat} {i b : Nat} {e : TypeId} {cs : List Value} {fs : List Fld} (h : OO w c i b e cs fs) (hs : w.heap.size ≤ w'.heap.size) (hb : ∀ k, k < w.heap.size → c k = i → w'.heap[k]? = w.heap[k]?) (hc : ∀ k, k < w.heap.size → c k = i → c' k = i) : OO w' c' i b e cs fs := by
  obtain ⟨S, ⟨os, h1, _, hbS, ht, _⟩, hS⟩ := h
  have lt : ∀ j g, os[j]? = some (some g) → g < w.heap.size := fun j g hj => by
    have hjl : j < fs.length := by rw [← h1.len]; exact (List.getElem?_eq_some_iff.1 hj).1
    exact (h1.sl j fs[j] (some g) (List.getElem?_eq_getElem hjl) hj).lt rfl
  have inS : ∀ j g, os[j]? = some (some g) → g ∈ S := fun j g hj => (ht j g hj).resolve_right (by have := lt j g hj; omega)
  have bS : b ∈ S := hbS.resolve_right (by have := h1.blk.lt; omega)
  refine ⟨S, ⟨os, ⟨?_, h1.len, fun k f o hf ho => (h1.sl k f o hf ho).same fun g e => ?_, h1.notB, h1.inj⟩, Kp.refl _ _, .inl bS, fun k g hg => .inl (inS k g hg), fun g hg => by cases hg⟩, fun k hk => ⟨Nat.lt_of_lt_of_le (hS k hk).1 hs, hc k (hS k hk).1 (hS k hk).2⟩⟩
  · unfold Blk; rw [hb b h1.blk.lt (hS b bS).2]; exact h1.blk
  · have hg : os[k]? = some (some g) := by rw [ho, e]
    exact hb g (lt k g hg) (hS g (inS k g hg)).2

theorem OO.stay {w w' : World} {c c' : Nat → Nat} {i b : Nat} {e : TypeId} {cs : List Value} {fs : List Fld} (h : OO w c i b e cs fs) (hs : w.heap.size ≤ w'.heap.size) (hb : ∀ k, k < w.heap.size → c k = i → w'.heap[k]? = w.heap[k]?) (hc : ∀ k, k < w.heap.size → c' k = c k) : OO w' c' i b e cs fs :=
  h.stayW hs hb fun k hk h => (hc k hk).trans h

/-- The program's terminal, in the colour i; the reference's. -/
def OT (w : World) (c : Nat → Nat) (i b : Nat) (σ : St) : Prop := ∃ S, AtT S w [] b σ w ∧ ∀ k, k ∈ S → k < w.heap.size ∧ c k = i
def OR (w : World) (c : Nat → Nat) (i b : Nat) (σ : St) : Prop := ∃ S, AtR S w [] b σ w ∧ ∀ k, k ∈ S → k < w.heap.size ∧ c k = i

section
variable {w w' : World} {c c' : Nat → Nat} {i b : Nat} {σ σ' : St}
theorem OT.stayW (h : OT w c i b σ) (hs : w.heap.size ≤ w'.heap.size) (hb : ∀ k, k < w.heap.size → c k = i → w'.heap[k]? = w.heap[k]?) (hc : ∀ k, k < w.heap.size → c k = i → c' k = i) : OT w' c' i b σ := by
  obtain ⟨S, ⟨ρ, hsm, vi, vu, vo, vs, hl, h⟩, hS⟩ := h
  obtain ⟨T, h1, h2⟩ := OO.stayW ⟨S, h, hS⟩ hs hb hc
  exact ⟨T, ⟨ρ, hsm, vi, vu, vo, vs, hl, h1⟩, h2⟩
theorem OR.stayW (h : OR w c i b σ) (hs : w.heap.size ≤ w'.heap.size) (hb : ∀ k, k < w.heap.size → c k = i → w'.heap[k]? = w.heap[k]?) (hc : ∀ k, k < w.heap.size → c k = i → c' k = i) : OR w' c' i b σ := by
  obtain ⟨S, ⟨vi, vo, vu, vn, vd, hl, h⟩, hS⟩ := h
  obtain ⟨T, h1, h2⟩ := OO.stayW ⟨S, h, hS⟩ hs hb hc
  exact ⟨T, ⟨vi, vo, vu, vn, vd, hl, h1⟩, h2⟩
theorem OT.stay (h : OT w c i b σ) (hs : w.heap.size ≤ w'.heap.size) (hb : ∀ k, k < w.heap.size → c k = i → w'.heap[k]? = w.heap[k]?) (hc : ∀ k, k < w.heap.size → c' k = c k) : OT w' c' i b σ := h.stayW hs hb fun k hk h => (hc k hk).trans h
theorem OR.stay (h : OR w c i b σ) (hs : w.heap.size ≤ w'.heap.size) (hb : ∀ k, k < w.heap.size → c k = i → w'.heap[k]? = w.heap[k]?) (hc : ∀ k, k < w.heap.size → c' k = c k) : OR w' c' i b σ := h.stayW hs hb fun k hk h => (hc k hk).trans h
/-- What a call does to it, by a contract that holds whatever the frame. -/
theorem OT.call {P : Program} {f : FuncId} {args : Array Value} {R : Ending → St → Prop} (h : OT w c i b σ) (hf : ∀ S0 w0, AtT S0 w0 [] b σ w → Calls P f args w fun e w' => ∃ σ', R e σ' ∧ AtT S0 w0 [] b σ' w') :
    Calls P f args w fun e w' => ∃ σ', R e σ' ∧ OT w' (recol w c i) i b σ' ∧ Tn c i w w' := by
  obtain ⟨S, h1, hS⟩ := h
  refine (hf S w h1).mono ?_
  rintro e w' ⟨σ', hR, ρ, hsm, vi, vu, vo, vs, hl, h2⟩
  obtain ⟨T, h3, h4⟩ := AtO.here h2 hS
  exact ⟨σ', hR, ⟨T, ⟨ρ, hsm, vi, vu, vo, vs, hl, h3⟩, h4⟩, AtO.turned h2 hS⟩
theorem OR.call {P : Program} {f : FuncId} {args : Array Value} {R : Ending → St → Prop} (h : OR w c i b σ) (hf : ∀ S0 w0, AtR S0 w0 [] b σ w → Calls P f args w fun e w' => ∃ σ', R e σ' ∧ AtR S0 w0 [] b σ' w') :
    Calls P f args w fun e w' => ∃ σ', R e σ' ∧ OR w' (recol w c i) i b σ' ∧ Tn c i w w' := by
  obtain ⟨S, h1, hS⟩ := h
  refine (hf S w h1).mono ?_
  rintro e w' ⟨σ', hR, vi, vo, vu, vn, vd, hl, h2⟩
  obtain ⟨T, h3, h4⟩ := AtO.here h2 hS
  exact ⟨σ', hR, ⟨T, ⟨vi, vo, vu, vn, vd, hl, h3⟩, h4⟩, AtO.turned h2 hS⟩
end
end Go.Proofs.YtfnglkhhmplejaaGreat
namespace Go.Proofs.YtfnglkhhmplejaaGreat
open Go Go.RowKit Go.Clk

/-- A pair: the program's terminal, the reference's. -/
def Pr (w : World) (c : Nat → Nat) (i j bt br : Nat) (σ τ : St) : Prop := OT w c i bt σ ∧ OR w c j br τ
/-- A box of the call's own. -/
def Bx (w : World) (c : Nat → Nat) (B : Nat) (e : TypeId) (cs : List Value) : Prop := Blk w B e cs ∧ c B = 0
/-- Only blocks of the colours i and j have turned. -/
structure Tw (c : Nat → Nat) (i j : Nat) (w w' : World) : Prop where
  os : w'.os = w.os
  tape : w'.tape = w.tape
  output : w'.output = w.output
  size : w.heap.size ≤ w'.heap.size
  block : ∀ k, k < w.heap.size → c k ≠ i → c k ≠ j → w'.heap[k]? = w.heap[k]?

section
variable {w w' w'' : World} {c : Nat → Nat} {i j bt br B : Nat} {σ τ : St} {e : TypeId} {cs : List Value}
theorem Pr.alloc (h : Pr w c i j bt br σ τ) (o : Obj) : Pr (w.alloc o) (recol w c 0) i j bt br σ τ :=
  ⟨h.1.stay (by simp) (fun k hk _ => Below.heap_alloc w o k hk) fun k hk => recol_old hk, h.2.stay (by simp) (fun k hk _ => Below.heap_alloc w o k hk) fun k hk => recol_old hk⟩
theorem Bx.new (w : World) (c : Nat → Nat) (e : TypeId) (cs : List Value) : Bx (w.alloc (.cells cs.toArray e)) (recol w c 0) w.heap.size e cs := ⟨Blk.new w cs e, recol_new (Nat.le_refl _)⟩
theorem Bx.alloc (h : Bx w c B e cs) (o : Obj) : Bx (w.alloc o) (recol w c 0) B e cs := ⟨by unfold Blk; rw [Below.heap_alloc w o B h.1.lt]; exact h.1, by rw [recol_old h.1.lt]; exact h.2⟩
theorem Bx.stay (h : Bx w c B e cs) {k : Nat} (ht : Tn c k w w') (hk : k ≠ 0) : Bx w' (recol w c k) B e cs := ⟨by unfold Blk; rw [ht.block B h.1.lt (by rw [h.2]; exact Ne.symm hk)]; exact h.1, by rw [recol_old h.1.lt]; exact h.2⟩
theorem Pr.callP {P : Program} {f : FuncId} {args : Array Value} {R : Ending → St → Prop} (h : Pr w c i j bt br σ τ) (hij : i ≠ j) (hf : ∀ S0 w0, AtT S0 w0 [] bt σ w → Calls P f args w fun e w' => ∃ σ', R e σ' ∧ AtT S0 w0 [] bt σ' w') :
    Calls P f args w fun e w' => ∃ σ', R e σ' ∧ Pr w' (recol w c i) i j bt br σ' τ ∧ Tn c i w w' := by
  refine (h.1.call hf).mono ?_
  rintro e w' ⟨σ', hR, h1, ht⟩
  exact ⟨σ', hR, ⟨h1, h.2.stay ht.size (fun k hk hc => ht.block k hk (by rw [hc]; exact Ne.symm hij)) fun k hk => recol_old hk⟩, ht⟩
theorem Pr.callR {P : Program} {f : FuncId} {args : Array Value} {R : Ending → St → Prop} (h : Pr w c i j bt br σ τ) (hij : i ≠ j) (hf : ∀ S0 w0, AtR S0 w0 [] br τ w → Calls P f args w fun e w' => ∃ τ', R e τ' ∧ AtR S0 w0 [] br τ' w') :
    Calls P f args w fun e w' => ∃ τ', R e τ' ∧ Pr w' (recol w c j) i j bt br σ τ' ∧ Tn c j w w' := by
  refine (h.2.call hf).mono ?_
  rintro e w' ⟨σ', hR, h1, ht⟩
  exact ⟨σ', hR, ⟨h.1.stay ht.size (fun k hk hc => ht.block k hk (by rw [hc]; exact hij)) fun k hk => recol_old hk, h1⟩, ht⟩
theorem Pr.doP {P : Program} {f : FuncId} {args : Array Value} {v : Value} {σ' : St} (h : Pr w c i j bt br σ τ) (hij : i ≠ j) (hf : ∀ S0 w0, AtT S0 w0 [] bt σ w → Calls P f args w fun e w' => e = .returned v ∧ AtT S0 w0 [] bt σ' w') :
    Calls P f args w fun e w' => e = .returned v ∧ Pr w' (recol w c i) i j bt br σ' τ ∧ Tn c i w w' := by
  refine (h.callP (R := fun e s => e = .returned v ∧ s = σ') hij fun S0 w0 hA => (hf S0 w0 hA).mono ?_).mono ?_
  · rintro e w' ⟨h1, h2⟩; exact ⟨σ', ⟨h1, rfl⟩, h2⟩
  · rintro e w' ⟨s, ⟨h1, rfl⟩, h2, h3⟩; exact ⟨h1, h2, h3⟩
theorem Pr.doR {P : Program} {f : FuncId} {args : Array Value} {v : Value} {τ' : St} (h : Pr w c i j bt br σ τ) (hij : i ≠ j) (hf : ∀ S0 w0, AtR S0 w0 [] br τ w → Calls P f args w fun e w' => e = .returned v ∧ AtR S0 w0 [] br τ' w') :
    Calls P f args w fun e w' => e = .returned v ∧ Pr w' (recol w c j) i j bt br σ τ' ∧ Tn c j w w' := by
  refine (h.callR (R := fun e s => e = .returned v ∧ s = τ') hij fun S0 w0 hA => (hf S0 w0 hA).mono ?_).mono ?_
  · rintro e w' ⟨h1, h2⟩; exact ⟨τ', ⟨h1, rfl⟩, h2⟩
  · rintro e w' ⟨s, ⟨h1, rfl⟩, h2, h3⟩; exact ⟨h1, h2, h3⟩
theorem Tw.refl (c : Nat → Nat) (i j : Nat) (w : World) : Tw c i j w w := ⟨rfl, rfl, rfl, Nat.le_refl _, fun _ _ _ _ => rfl⟩
theorem Tw.alloc (h : Tw c i j w w') (o : Obj) : Tw c i j w (w'.alloc o) := ⟨h.os, h.tape, h.output, by have := h.size; simp; omega, fun k hk h1 h2 => (Below.heap_alloc w' o k (Nat.lt_of_lt_of_le hk h.size)).trans (h.block k hk h1 h2)⟩
theorem Tw.drewN (h : Tw c i j w w') (n : Nat) : Tw c i j w (w'.drewN n) := ⟨h.os, h.tape, h.output, h.size, h.block⟩
theorem Tw.next {c' : Nat → Nat} {k : Nat} (h : Tw c i j w w') (hc : ∀ x, x < w.heap.size → c' x = c x) (t : Tn c' k w' w'') (hk : k = i ∨ k = j) : Tw c i j w w'' :=
  ⟨t.os.trans h.os, t.tape.trans h.tape, t.output.trans h.output, Nat.le_trans h.size t.size, fun x hx h1 h2 => (t.block x (Nat.lt_of_lt_of_le hx h.size) (by rw [hc x hx]; rcases hk with rfl | rfl <;> assumption)).trans (h.block x hx h1 h2)⟩
/-- The two boxes of a step. -/
theorem boxes (h : Pr w c i j bt br σ τ) (ps os : List Value) (W : World) (B : Nat) (e1 e2 : TypeId) (hid : B = w.heap.size + 1 ∧ W = (w.alloc (.cells ps.toArray e1)).alloc (.cells os.toArray e2)) :
    ∃ c2, Pr W c2 i j bt br σ τ ∧ Bx W c2 w.heap.size e1 ps ∧ Bx W c2 B e2 os ∧ Tw c i j w W ∧ ∀ k, k < w.heap.size → c2 k = c k := by
  obtain ⟨rfl, rfl⟩ := hid
  refine ⟨recol (w.alloc (.cells ps.toArray e1)) (recol w c 0) 0, (h.alloc _).alloc _, (Bx.new w c e1 ps).alloc _, ?_, ((Tw.refl c i j w).alloc _).alloc _, fun k hk => ?_⟩
  · have := Bx.new (w.alloc (.cells ps.toArray e1)) (recol w c 0) e2 os
    simpa using this
  · rw [recol_old (by simp; omega), recol_old hk]
end

def opCells (kind term n : Int) (s : ByteArray) (ss : List Int) : List Value := [.int .i64 kind, .int .i64 term, .int .i64 n, .string s] ++ i64s ss
/-- A step on a pair is answered as it should be, and both are then in the same state. -/
def Dn (c : Nat → Nat) (i j bt br : Nat) (w : World) (σ' : St) (e : Ending) (w' : World) : Prop :=
  e = .returned (.bool true) ∧ ∃ c', Pr w' c' i j bt br σ' σ' ∧ Tw c i j w w' ∧ ∀ k, k < w.heap.size → c' k = c k

section
variable (K : Int) (c : Nat → Nat) (i j bt br wb : Nat) (σ : St) (w : World) (kind term n : Int) (s : ByteArray) (ss : List Int)

set_option maxHeartbeats 2000000 in
set_option maxRecDepth 100000 in
theorem does_write (h : Pr w c i j bt br σ σ) (hij : i ≠ j) (hi0 : i ≠ 0) (ok : Inv K σ) (hK : K ≤ 1099511627776) (hs : s.size ≤ maxLen) :
    Calls Tryz.prog 44 #[.pointer (some ⟨wb, 0, none⟩), .agg #[.pointer (some ⟨bt, 0, none⟩), .pointer (some ⟨br, 0, none⟩)], .agg (opCells 2 term n s ss).toArray] w fun e w' => Dn c i j bt br w (σ.write s.data.toList).1 e w' := by
  go_enter Tryz.func44, Tryz.ntmps44
  go_wp2_with (first | refine wpList_box rfl (.tmp 2) 60 rfl (opCells 2 term n s ss) rfl ?_)
  intro W B hid
  obtain ⟨c2, hP, hA, hB, hT, hc2⟩ := boxes h [.pointer (some ⟨bt, 0, none⟩), .pointer (some ⟨br, 0, none⟩)] (opCells 2 term n s ss) W B 85 60 hid.out
  obtain ⟨A, hAe⟩ : ∃ A, A = w.heap.size := ⟨_, rfl⟩
  rw [← hAe] at hA ⊢
  clear hAe
  have a0 := hA.1.cell 0 (v := .pointer (some ⟨bt, 0, none⟩)) rfl
  have b0 := hB.1.cell 0 (v := .int .i64 2) rfl
  have b3 := hB.1.cell 3 (v := .string s) rfl
  go_wp2_with fail
  refine (hP.doP hij (fun S0 w0 hX => TWrite S0 w0 [] bt σ W K hX ok hK s hs)).mono ?_
  rintro e W1 ⟨rfl, hP1, ht1⟩
  have hA1 := hA.stay ht1 hi0
  have hB1 := hB.stay ht1 hi0
  have a1 := hA1.1.cell 1 (v := .pointer (some ⟨br, 0, none⟩)) rfl
  have b3' := hB1.1.cell 3 (v := .string s) rfl
  clear a0 b0 b3
  go_wp2_with fail
  refine (hP1.doR hij (fun S0 w0 hX => Write_any S0 w0 [] br σ W1 _ hX ok.ok (by omega) ok.out s hs)).mono ?_
  rintro e W2 ⟨rfl, hP2, ht2⟩
  clear a1 b3'
  have HF : Hid (Dn c i j bt br w (σ.write s.data.toList).1 (.returned (.bool true)) W2) :=
    ⟨rfl, _, hP2, (hT.next hc2 ht1 (.inl rfl)).next (fun k hk => (recol_old (Nat.lt_of_lt_of_le hk hT.size)).trans (hc2 k hk)) ht2 (.inr rfl),
      fun k hk => (recol_old (Nat.lt_of_lt_of_le (Nat.lt_of_lt_of_le hk hT.size) ht1.size)).trans ((recol_old (Nat.lt_of_lt_of_le hk hT.size)).trans (hc2 k hk))⟩
  go_wp2
  go_ret
  exact HF.out
end
end Go.Proofs.YtfnglkhhmplejaaGreat
