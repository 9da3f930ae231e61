/- Own ground laws of memory, of no program: a struct's block, a slice that owns its block, what a call may turn. -/
import Derived.WalkKit
import Derived.WalkSpells
import Derived.WalkLawsBesides
import Derived.Deep.AppendSrc
import Derived.Deep.Upon
namespace Go.Clk
open Go Go.RowKit

/-- The block b holds just these cells; none is frozen. -/
def Blk (w : World) (b : Nat) (e : TypeId) (cs : List Value) : Prop := w.heap[b]? = some (.cells cs.toArray e (0, 0))

theorem Blk.lt {w : World} {b : Nat} {e : TypeId} {cs : List Value} (h : Blk w b e cs) : b < w.heap.size := (Array.getElem?_eq_some_iff.1 h).1

theorem Blk.cell {w : World} {b : Nat} {e : TypeId} {cs : List Value} (h : Blk w b e cs) (i : Nat) {v : Value} (hv : cs[i]? = some v) : w.cell? ⟨b, i, none⟩ = some v := by
  rw [cell_of_row w b i _ e (0, 0) h]; simpa using hv

theorem Blk.frozen {w : World} {b : Nat} {e : TypeId} {cs : List Value} (h : Blk w b e cs) (i : Nat) : w.frozen? ⟨b, i, none⟩ = false := frozen_of_row w b i _ e h

theorem Blk.set {w : World} {b : Nat} {e : TypeId} {cs : List Value} (h : Blk w b e cs) (i : Nat) (v : Value) : Blk (w.setCell ⟨b, i, none⟩ v) b e (cs.set i v) := by
  unfold Blk at h ⊢
  rw [heap_setCell_same w b i _ e v h]; simp

theorem Blk.other {w : World} {b : Nat} {e : TypeId} {cs : List Value} (h : Blk w b e cs) (a : Addr) (v : Value) (hne : b ≠ a.block) : Blk (w.setCell a v) b e cs := by
  unfold Blk at h ⊢
  rw [heap_setCell_other w a b v hne]; exact h

theorem Blk.new (w : World) (cs : List Value) (e : TypeId) : Blk (w.alloc (.cells cs.toArray e)) w.heap.size e cs := heap_alloc_new w _

/-- A slice v of n elements, of 'size' cells each, whose cells are xs; its array lies in the block o (none: it is nil). -/
def Sl (w : World) (e : TypeId) (size : Nat) (v : Value) (n : Nat) (xs : List Value) (o : Option Nat) : Prop :=
  xs.length = n * size ∧
  ((v = .slice none 0 0 ∧ n = 0 ∧ o = none) ∨
   ∃ g off cap cur, v = .slice (some ⟨g, off, none⟩) n cap ∧ o = some g ∧ w.heap[g]? = some (.cells cur e (0, 0)) ∧ n ≤ cap ∧ cap ≤ maxLen ∧ off + cap * size ≤ cur.size ∧ (cur.toList.drop off).take (n * size) = xs)

/-- All but the blocks of S is as it was; nothing is gone. -/
structure Kp (S : List Nat) (w w' : World) : Prop where
  os : w'.os = w.os
  tape : w'.tape = w.tape
  output : w'.output = w.output
  size : w.heap.size ≤ w'.heap.size
  block : ∀ k, k < w.heap.size → k ∉ S → w'.heap[k]? = w.heap[k]?

section
variable {S T : List Nat} {w w' w'' : World}
theorem Kp.refl (S : List Nat) (w : World) : Kp S w w := ⟨rfl, rfl, rfl, Nat.le_refl _, fun _ _ _ => rfl⟩
theorem Kp.mono (h : Kp S w w') (hs : ∀ k, k ∈ S → k ∈ T) : Kp T w w' := ⟨h.os, h.tape, h.output, h.size, fun k hk hn => h.block k hk fun hc => hn (hs k hc)⟩
/-- One behind the other: what the second may turn is the first's, or new. -/
theorem Kp.trans (h : Kp S w w') (k : Kp T w' w'') (ht : ∀ x, x ∈ T → x ∈ S ∨ w.heap.size ≤ x) : Kp S w w'' :=
  ⟨k.os.trans h.os, k.tape.trans h.tape, k.output.trans h.output, Nat.le_trans h.size k.size, fun i hi hn =>
    (k.block i (Nat.lt_of_lt_of_le hi h.size) fun hc => by rcases ht i hc with h1 | h1; exact hn h1; omega).trans (h.block i hi hn)⟩
theorem Kp.drew (h : Kp S w w') : Kp S w w'.drew := ⟨h.os, h.tape, h.output, h.size, h.block⟩
theorem Kp.alloc (h : Kp S w w') (o : Obj) : Kp S w (w'.alloc o) :=
  ⟨h.os, h.tape, h.output, by have := h.size; simp; omega, fun k hk hn => (Below.heap_alloc w' o k (Nat.lt_of_lt_of_le hk h.size)).trans (h.block k hk hn)⟩
theorem Kp.set (h : Kp S w w') (a : Addr) (v : Value) (ha : a.block ∈ S ∨ w.heap.size ≤ a.block) : Kp S w (w'.setCell a v) :=
  ⟨h.os, h.tape, h.output, by have := h.size; simpa using this, fun k hk hn => (heap_setCell_other w' a k v (fun e => by subst e; rcases ha with h1 | h1; exact hn h1; omega)).trans (h.block k hk hn)⟩
theorem Kp.grown {o : Option Nat} (h : Kp S w w') (g : w'.grownBy w'' o) (ho : ∀ k, o = some k → k ∈ S ∨ w.heap.size ≤ k) : Kp S w w'' :=
  ⟨g.os.trans h.os, g.tape.trans h.tape, g.output.trans h.output, Nat.le_trans h.size g.size, fun k hk hn =>
    (g.block k (Nat.lt_of_lt_of_le hk h.size) fun e => by rcases ho k e.symm with h1 | h1; exact hn h1; omega).trans (h.block k hk hn)⟩
theorem Kp.blk {b : Nat} {e : TypeId} {cs : List Value} (h : Kp S w w') (hb : Blk w b e cs) (hn : b ∉ S) : Blk w' b e cs := by
  unfold Blk; rw [h.block b hb.lt hn]; exact hb
theorem Kp.cell (h : Kp S w w') {a : Addr} (ha : a.block < w.heap.size) (hn : a.block ∉ S) : w'.cell? a = w.cell? a := World.cell?_of_block (h.block _ ha hn)
theorem Kp.frozen (h : Kp S w w') {a : Addr} (ha : a.block < w.heap.size) (hn : a.block ∉ S) : w'.frozen? a = w.frozen? a := World.frozen?_of_block (h.block _ ha hn)
end

section
variable {w w' : World} {e : TypeId} {size : Nat} {v : Value} {n : Nat} {xs : List Value} {o : Option Nat}
theorem Sl.nil (w : World) (e : TypeId) (size : Nat) : Sl w e size (.slice none 0 0) 0 [] none := ⟨by simp, .inl ⟨rfl, rfl, rfl⟩⟩
theorem Sl.lt (h : Sl w e size v n xs o) {g : Nat} (hg : o = some g) : g < w.heap.size := by
  subst hg
  rcases h.2 with ⟨_, _, h2⟩ | ⟨g', off, cap, cur, _, h2, h3, _⟩
  · cases h2
  · cases h2; exact (Array.getElem?_eq_some_iff.1 h3).1
theorem Sl.same (h : Sl w e size v n xs o) (hb : ∀ g, o = some g → w'.heap[g]? = w.heap[g]?) : Sl w' e size v n xs o := by
  refine ⟨h.1, h.2.imp id ?_⟩
  rintro ⟨g, off, cap, cur, h1, h2, h3, h4⟩
  exact ⟨g, off, cap, cur, h1, h2, (hb g h2).trans h3, h4⟩
theorem Sl.kp {S : List Nat} (h : Sl w e size v n xs o) (hk : Kp S w w') (hn : ∀ g, o = some g → g ∉ S) : Sl w' e size v n xs o :=
  h.same fun g hg => hk.block g (h.lt hg) (hn g hg)
theorem Sl.alloc (h : Sl w e size v n xs o) (ob : Obj) : Sl (w.alloc ob) e size v n xs o := h.same fun g hg => Below.heap_alloc w ob g (h.lt hg)
theorem Sl.drew (h : Sl w e size v n xs o) : Sl w.drew e size v n xs o := h.same fun _ _ => rfl
theorem Sl.set (h : Sl w e size v n xs o) (a : Addr) (u : Value) (hn : ∀ g, o = some g → g ≠ a.block) : Sl (w.setCell a u) e size v n xs o :=
  h.same fun g hg => heap_setCell_other w a g u (hn g hg)
theorem Sl.shape (h : Sl w e size v n xs o) : ∃ a cap, v = .slice a n cap ∧ n ≤ cap ∧ cap ≤ maxLen := by
  rcases h.2 with ⟨rfl, rfl, _⟩ | ⟨g, off, cap, cur, rfl, _, _, h4, h5, _⟩
  · exact ⟨none, 0, rfl, Nat.le_refl _, by simp [maxLen]⟩
  · exact ⟨_, cap, rfl, h4, h5⟩
theorem Sl.cells (h : Sl w e size v n xs o) {a : Addr} {k cap : Nat} (hv : v = .slice (some a) k cap) (j : Nat) {u : Value} (hu : xs[j]? = some u) : w.cell? ⟨a.block, a.off + j, none⟩ = some u ∧ w.frozen? ⟨a.block, a.off + j, none⟩ = false := by
  rcases h.2 with ⟨rfl, _⟩ | ⟨g, off, cap', cur, rfl, _, h3, h4, _, h6, h7⟩
  · cases hv
  · cases hv
    refine ⟨?_, frozen_of_row w g _ cur e h3⟩
    rw [cell_of_row w g _ cur e (0, 0) h3]
    rw [← h7, List.getElem?_take] at hu
    split at hu
    · simpa [List.getElem?_drop] using hu
    · cases hu
theorem Sl.frozenAt (h : Sl w e size v n xs o) {a : Addr} {k cap : Nat} (hv : v = .slice (some a) k cap) (j : Nat) : w.frozen? ⟨a.block, j, none⟩ = false := by
  rcases h.2 with ⟨rfl, _⟩ | ⟨g, off, cap', cur, rfl, _, h3, h4, _, h6, h7⟩
  · cases hv
  · cases hv
    exact frozen_of_row w g _ cur e h3
theorem Sl.addr (h : Sl w e size v n xs o) (hn : 0 < n) : ∃ g off cap, v = .slice (some ⟨g, off, none⟩) n cap ∧ o = some g := by
  rcases h.2 with ⟨_, h2, _⟩ | ⟨g, off, cap, cur, h1, h2, _⟩
  · omega
  · exact ⟨g, off, cap, h1, h2⟩
/-- A row in a new block. -/
theorem Sl.made (w : World) (cs : List Value) (n : Nat) (e : TypeId) (size : Nat) (hl : cs.length = n * size) (hm : n ≤ maxLen) : Sl (w.alloc (.cells cs.toArray e)) e size (.slice (some ⟨w.heap.size, 0, none⟩) n n) n cs (some w.heap.size) :=
  ⟨hl, .inr ⟨w.heap.size, 0, n, cs.toArray, rfl, rfl, heap_alloc_new w _, Nat.le_refl _, hm, by simp [hl], by simp [← hl]⟩⟩
theorem Sl.src {P : Program} {tx e' : TypeId} (hk : P.underlying tx = some (.slice e')) (h : Sl w e size v n xs o) (h1 : ∀ u ∈ xs, u.oneCell' = true) : Src P size tx v n xs w := by
  rcases h.2 with ⟨rfl, rfl, _⟩ | ⟨g, off, cap', cur, rfl, _, h3, h4, _, h6, h7⟩
  · have : xs = [] := List.eq_nil_of_length_eq_zero (by simpa using h.1)
    subst this
    exact Src.ofNil w hk 0
  · exact Src.ofSlice w hk _ n cap' xs h.1 (fun j u hu => by rw [Addr.add_lit]; exact (h.cells rfl j hu).1) h1
end

theorem heap_setCells_same (g : Nat) (e : TypeId) : ∀ (vs : List Value) (off : Nat) (w : World) (cur : Array Value), w.heap[g]? = some (.cells cur e (0, 0)) → off + vs.length ≤ cur.size →
    ∃ cur', (w.setCells g off vs).heap[g]? = some (.cells cur' e (0, 0)) ∧ cur'.toList = cur.toList.take off ++ vs ++ cur.toList.drop (off + vs.length)
  | [], off, w, cur, h, _ => ⟨cur, by simpa [World.setCells] using h, by simp⟩
  | v :: vs, off, w, cur, h, hl => by
    have h1 := heap_setCell_same w g off cur e v h
    simp only [List.length_cons] at hl
    obtain ⟨cur', h2, h3⟩ := heap_setCells_same g e vs (off + 1) (w.setCell ⟨g, off, none⟩ v) _ h1 (by simp; omega)
    refine ⟨cur', by simpa [World.setCells] using h2, ?_⟩
    rw [h3]
    have hc : cur.toList.length = cur.size := Array.length_toList
    apply List.ext_getElem?
    intro j
    simp only [Array.toList_setIfInBounds, List.length_cons]
    by_cases c1 : j < off
    · rw [List.append_assoc, List.append_assoc, List.getElem?_append_left (by simp; omega), List.getElem?_append_left (by simp; omega), List.getElem?_take_of_lt (by omega), List.getElem?_take_of_lt (by omega), List.getElem?_set_ne (by omega)]
    · by_cases c2 : j = off
      · subst c2
        rw [List.append_assoc, List.append_assoc, List.getElem?_append_left (by simp; omega), List.getElem?_append_right (by simp; omega), List.getElem?_take_of_lt (by omega), List.getElem?_set_self (by omega)]
        simp; rw [show j - min j cur.size = 0 by omega]; rfl
      · by_cases c3 : j < off + 1 + vs.length
        · rw [List.append_assoc, List.append_assoc, List.getElem?_append_right (by simp; omega), List.getElem?_append_left (by simp; omega), List.getElem?_append_right (by simp; omega), List.getElem?_append_left (by simp; omega)]
          simp
          rw [show min (off + 1) cur.size = off + 1 by omega, show min off cur.size = off by omega, show j - off = (j - (off + 1)) + 1 by omega, List.getElem?_cons_succ]
        · rw [List.getElem?_append_right (by simp; omega), List.getElem?_append_right (by simp; omega), List.getElem?_drop, List.getElem?_drop, List.getElem?_set_ne (by simp; omega)]
          simp
          congr 1; omega

theorem grownBy_refl (w : World) (o : Option Nat) : w.grownBy w o := ⟨rfl, rfl, rfl, Nat.le_refl _, fun _ _ _ => rfl⟩
theorem tape_setCells (g : Nat) : ∀ (vs : List Value) (o : Nat) (w : World), (w.setCells g o vs).tape = w.tape
  | [], _, _ => rfl
  | v :: r, o, w => by rw [World.setCells, tape_setCells g r]; rfl
theorem size_setCells (g : Nat) : ∀ (vs : List Value) (o : Nat) (w : World), (w.setCells g o vs).heap.size = w.heap.size
  | [], _, _ => rfl
  | v :: r, o, w => by rw [World.setCells, size_setCells g r]; simp

/-- 'append' onto a slice that owns its block. -/
theorem run_append_sl {P : Program} {w : World} {e : TypeId} {size : Nat} {v : Value} {n : Nat} {xs : List Value} {o : Option Nat} (h : Sl w e size v n xs o)
    (t tx ty : TypeId) (i : TypeInfo) (z : Value) (bytes : Nat) (ht : P.underlying t = some (.slice e)) (hi : P.info? e = some i) (hz : i.zero = some z) (hsize : i.size = size) (hby : i.bytes = bytes) (hzs : z.cells.size = size)
    (x : Value) (m : Nat) (news : List Value) (hs : Src P size tx x m news w) (h63 : n + m ≤ maxLen) (hbytes : (n + m) * bytes ≤ 140737488355328) :
    ∃ v' w' o', (Builtin.append_ #[t, tx] ty #[v, x]).run P w = .ok v' w' ∧ Sl w' e size v' (n + m) (xs ++ news) o' ∧ w.grownBy w' o ∧ (o' = o ∨ o' = some w.heap.size ∧ w.heap.size < w'.heap.size) := by
  subst hsize
  subst hby
  have hnl := hs.newsLen
  have hlen : (xs ++ news).length = (n + m) * i.size := by rw [List.length_append, h.1, hnl, Nat.add_mul]
  have hsmall : n + m ≤ 9223372036854775807 := by simp only [maxLen] at h63; omega
  have grow : ∀ (bs : Option Addr) (sc : Nat), v = .slice bs n sc → sc < n + m → (Builtin.firstCells i.size n (.slice bs n sc)).run P w.drew = .ok xs.toArray w.drew →
      ∃ v' w' o', (Builtin.append_ #[t, tx] ty #[v, x]).run P w = .ok v' w' ∧ Sl w' e i.size v' (n + m) (xs ++ news) o' ∧ w.grownBy w' o ∧ (o' = o ∨ o' = some w.heap.size ∧ w.heap.size < w'.heap.size) := by
    rintro bs sc rfl hg hold
    have hrun := run_append_grow_src (P := P) w t tx ty e i z ht hi hz bs n sc xs hold x m news hs hg (by omega) (growslice_fits hg hbytes)
    have hge := grownCap_ge w (n + m) sc e
    have hcm := grownCap_le_maxLen w (n + m) sc e h63
    refine ⟨_, _, some w.heap.size, hrun, ⟨hlen, .inr ⟨w.heap.size, 0, _, _, rfl, rfl, heap_alloc_new w.drew _, hge, hcm, ?_, ?_⟩⟩, ⟨rfl, rfl, rfl, by simp, fun k hk _ => Below.heap_alloc w.drew _ k hk⟩, .inr ⟨rfl, by simp⟩⟩
    · rw [Array.size_append, List.size_toArray, hlen, size_zeroCells, hzs, ← Nat.add_mul, Nat.zero_add]
      apply Nat.le_of_eq; congr 1; omega
    · simp only [List.drop_zero, Array.toList_append]
      rw [← hlen]; exact List.take_left
  rcases h.2 with ⟨rfl, rfl, rfl⟩ | ⟨g, off, cap, cur, rfl, rfl, h3, h4, h5, h6, h7⟩
  · have hx : xs = [] := List.eq_nil_of_length_eq_zero (by simpa using h.1)
    subst hx
    by_cases hm : m = 0
    · subst hm
      have hn : news = [] := List.eq_nil_of_length_eq_zero (by simpa using hnl)
      subst hn
      exact ⟨_, _, none, run_append_nothing (P := P) w t tx ty e i ht hi none 0 0 (Nat.le_refl _) x hs, h, ⟨rfl, rfl, rfl, Nat.le_refl _, fun _ _ _ => rfl⟩, .inl rfl⟩
    · exact grow none 0 rfl (by omega) (by simpa using run_firstCells_none (P := P) w.drew i.size 0 0 0)
  · by_cases hroom : n + m ≤ cap
    · have hmul : (n + m) * i.size ≤ cap * i.size := Nat.mul_le_mul_right _ hroom
      rw [Nat.add_mul] at hmul
      have hrun := run_append_room_src (P := P) w t tx ty e i ht hi g off n cap x m news hs hroom
        (fun j hj => by rw [cell_of_row w g _ cur e (0, 0) h3, Array.getElem?_eq_getElem (by omega)]; rfl) (fun j hj => frozen_of_row w g _ cur e h3)
      obtain ⟨cur', hc1, hc2⟩ := heap_setCells_same g e news (off + n * i.size) w cur h3 (by omega)
      have hcl : cur.toList.length = cur.size := Array.length_toList
      have hcs : cur'.size = cur.size := by rw [← Array.length_toList, hc2]; simp; omega
      refine ⟨_, _, some g, hrun, ⟨hlen, .inr ⟨g, off, cap, cur', rfl, rfl, hc1, hroom, h5, by omega, ?_⟩⟩,
        ⟨World.os_setCells w g _ news, ?_, World.output_setCells w g _ news, ?_, fun k hk hne => World.heap_setCells_other w g _ news hk (fun e => hne (by rw [e]))⟩, .inl rfl⟩
      · rw [hc2, ← h7, List.append_assoc, List.drop_append_of_le_length (by simp; omega), List.drop_take]
        rw [show off + n * i.size - off = n * i.size by omega, ← List.append_assoc, h7]
        rw [← hlen]; exact List.take_left
      · exact tape_setCells g news _ w
      · rw [size_setCells g news _ w]; exact Nat.le_refl _
    · exact grow (some ⟨g, off, none⟩) cap rfl (by omega) (run_firstCells_some w.drew i.size n _ n cap xs h.1 (fun j u hu => by rw [Addr.add_lit]; exact (h.cells rfl j hu).1))

/-- The same, for the walk. -/
theorem wpList_append_sl {P : Program} {w : World} {ops : Array Oper} {rest : List Oper} {o : Oper} {a : Act} {Q : Exit → Act → World → Prop} (hgd : o.guard = none) (s x : Operand) (t tx : TypeId)
    (ho : o.op = .call { callee := .builtin .append, args := #[s, x], argTypes := #[t, tx] })
    {e : TypeId} {size : Nat} {v : Value} {n : Nat} {xs : List Value} {own : Option Nat} (h : Sl w e size v n xs own) (hv : a.eval s = v)
    (i : TypeInfo) (z : Value) (bytes : Nat) (ht : P.underlying t = some (.slice e)) (hi : P.info? e = some i) (hz : i.zero = some z) (hsize : i.size = size) (hby : i.bytes = bytes) (hzs : z.cells.size = size)
    (xv : Value) (m : Nat) (news : List Value) (hx : a.eval x = xv) (hs : Src P size tx xv m news w) (h63 : n + m ≤ maxLen) (hbytes : (n + m) * bytes ≤ 140737488355328)
    (hK : ∀ a' cap' w' own', Sl w' e size (.slice a' (n + m) cap') (n + m) (xs ++ news) own' → w.grownBy w' own → (own' = own ∨ own' = some w.heap.size ∧ w.heap.size < w'.heap.size) → wpList P ops Q rest (a.put o.dst (.slice a' (n + m) cap')) w') :
    wpList P ops Q (o :: rest) a w := by
  refine wpList_plain hgd fun K hK' => ?_
  obtain ⟨v', w', o', hr, h1, h2, h3⟩ := run_append_sl h t tx o.type i z bytes ht hi hz hsize hby hzs xv m news hs h63 hbytes
  obtain ⟨a', cap', rfl, _⟩ := h1.shape
  unfold Oper.wp
  simp [execOp, ho, resolve, invoke, builtin, hv, hx, hr, Result.andThen]
  exact hK' _ _ (hK a' cap' w' o' h1 h2 h3)

/-- A slice that an object owns: its elements' type and cells, its value, how many elements, their cells. -/
structure Fld where
  e : TypeId
  size : Nat
  v : Value
  n : Nat
  xs : List Value

def Fld.at (f : Fld) (w : World) (o : Option Nat) : Prop := Sl w f.e f.size f.v f.n f.xs o

/-- An object: its block's cells, its slices fs, each in a block of its own (os). -/
structure Own (w : World) (b : Nat) (e : TypeId) (cs : List Value) (fs : List Fld) (os : List (Option Nat)) : Prop where
  blk : Blk w b e cs
  len : os.length = fs.length
  sl : ∀ (k : Nat) (f : Fld) (o : Option Nat), fs[k]? = some f → os[k]? = some o → f.at w o
  notB : ∀ k : Nat, os[k]? ≠ some (some b)
  inj : ∀ (k j g : Nat), os[k]? = some (some g) → os[j]? = some (some g) → k = j

/-- The object as it stands in w, of what was begun in w0 with the blocks S0; it keeps clear of the block x. -/
def AtO (S0 : List Nat) (w0 : World) (x : List Nat) (b : Nat) (e : TypeId) (cs : List Value) (fs : List Fld) (w : World) : Prop :=
  ∃ os, Own w b e cs fs os ∧ Kp S0 w0 w ∧ (b ∈ S0 ∨ w0.heap.size ≤ b) ∧ (∀ k g : Nat, os[k]? = some (some g) → g ∈ S0 ∨ w0.heap.size ≤ g) ∧ (∀ g, g ∈ x → g < w.heap.size ∧ g ≠ b ∧ ∀ k : Nat, os[k]? ≠ some (some g))

section
variable {S0 : List Nat} {w0 w : World} {x : List Nat} {b : Nat} {e : TypeId} {cs : List Value} {fs : List Fld}
theorem AtO.blk (h : AtO S0 w0 x b e cs fs w) : Blk w b e cs := by obtain ⟨os, h, _⟩ := h; exact h.blk
theorem AtO.lt (h : AtO S0 w0 x b e cs fs w) : b < w.heap.size := h.blk.lt
theorem AtO.frozen (h : AtO S0 w0 x b e cs fs w) (i : Nat) : w.frozen? ⟨b, i, none⟩ = false := h.blk.frozen i
theorem AtO.cell (h : AtO S0 w0 x b e cs fs w) (i : Nat) {v : Value} (hv : cs[i]? = some v) : w.cell? ⟨b, i, none⟩ = some v := h.blk.cell i hv
theorem AtO.kp (h : AtO S0 w0 x b e cs fs w) : Kp S0 w0 w := by obtain ⟨os, _, h, _⟩ := h; exact h
theorem AtO.set (h : AtO S0 w0 x b e cs fs w) (i : Nat) (v : Value) : AtO S0 w0 x b e (cs.set i v) fs (w.setCell ⟨b, i, none⟩ v) := by
  obtain ⟨os, h, hk, hb, ht, hx⟩ := h
  refine ⟨os, ⟨h.blk.set i v, h.len, fun k f o hf ho => (h.sl k f o hf ho).set _ _ fun g e c => h.notB k (by rw [ho, e, c]), h.notB, h.inj⟩, hk.set _ _ hb, hb, ht, fun g e => by simpa using hx g e⟩
/-- What is none of its own turns, or is made. -/
theorem AtO.same {w1 : World} (h : AtO S0 w0 x b e cs fs w) (hk : Kp S0 w0 w1) (hs : w.heap.size ≤ w1.heap.size) (hb : ∀ k, k < w.heap.size → k ∉ x → w1.heap[k]? = w.heap[k]?) : AtO S0 w0 x b e cs fs w1 := by
  obtain ⟨os, h, _, hbS, ht, hx⟩ := h
  refine ⟨os, ⟨?_, h.len, fun k f o hf ho => (h.sl k f o hf ho).same fun g e => hb g ((h.sl k f o hf ho).lt e) fun c => (hx g c).2.2 k (by rw [ho, e]), h.notB, h.inj⟩, hk, hbS, ht, fun g e => ⟨Nat.lt_of_lt_of_le (hx g e).1 hs, (hx g e).2⟩⟩
  unfold Blk; rw [hb b h.blk.lt fun c => (hx b c).2.1 rfl]; exact h.blk
theorem AtO.alloc (h : AtO S0 w0 x b e cs fs w) (o : Obj) : AtO S0 w0 x b e cs fs (w.alloc o) := h.same (h.kp.alloc o) (by simp) fun k hk _ => Below.heap_alloc w o k hk
theorem AtO.drew (h : AtO S0 w0 x b e cs fs w) : AtO S0 w0 x b e cs fs w.drew := h.same h.kp.drew (Nat.le_refl _) fun _ _ _ => rfl
theorem AtO.drewN (h : AtO S0 w0 x b e cs fs w) (n : Nat) : AtO S0 w0 x b e cs fs (w.drewN n) := h.same ⟨h.kp.os, h.kp.tape, h.kp.output, h.kp.size, h.kp.block⟩ (Nat.le_refl _) fun _ _ _ => rfl
/-- A block that it keeps clear of is appended to. -/
theorem AtO.grown {w1 : World} {o : Option Nat} (h : AtO S0 w0 x b e cs fs w) (hg : w.grownBy w1 o) (hx : ∀ g, o = some g → g ∈ x ∧ w0.heap.size ≤ g) : AtO S0 w0 x b e cs fs w1 :=
  h.same (h.kp.grown hg fun k e => .inr (hx k e).2) hg.size fun k hk hn => hg.block k hk fun c => hn (hx k c.symm).1
theorem AtO.weaken {y : List Nat} (h : AtO S0 w0 x b e cs fs w) (hy : ∀ g, g ∈ y → g ∈ x) : AtO S0 w0 y b e cs fs w := by
  obtain ⟨os, h, hk, hb, ht, hx⟩ := h
  exact ⟨os, h, hk, hb, ht, fun g e => hx g (hy g e)⟩
/-- A block that has just been made is none of its own. -/
theorem AtO.avoid (h : AtO S0 w0 x b e cs fs w) {w1 : World} (hk : Kp S0 w0 w1) (hs : w.heap.size ≤ w1.heap.size) (hb : ∀ k, k < w.heap.size → k ∉ x → w1.heap[k]? = w.heap[k]?) {g : Nat} (hg : w.heap.size ≤ g) (hg' : g < w1.heap.size) : AtO S0 w0 (g :: x) b e cs fs w1 := by
  obtain ⟨os, h, _, hbS, ht, hx⟩ := h
  have lt : ∀ k o, os[k]? = some (some o) → o < w.heap.size := fun k o ho => by
    have hk : k < fs.length := by rw [← h.len]; exact (List.getElem?_eq_some_iff.1 ho).1
    exact (h.sl k fs[k] (some o) (List.getElem?_eq_getElem hk) ho).lt rfl
  refine ⟨os, ⟨?_, h.len, fun k f o hf ho => (h.sl k f o hf ho).same fun g e => hb g ((h.sl k f o hf ho).lt e) fun c => (hx g c).2.2 k (by rw [ho, e]), h.notB, h.inj⟩, hk, hbS, ht, fun g' e => ?_⟩
  · unfold Blk; rw [hb b h.blk.lt fun c => (hx b c).2.1 rfl]; exact h.blk
  · rcases List.mem_cons.1 e with e | e
    · subst e
      have := h.blk.lt
      exact ⟨hg', by omega, fun k c => by have := lt k _ c; omega⟩
    · exact ⟨Nat.lt_of_lt_of_le (hx g' e).1 hs, (hx g' e).2⟩
/-- A slice of the call's own, of whose block it keeps clear, is appended to. -/
theorem AtO.local {ol ol' : Option Nat} (h : AtO S0 w0 (ol.toList ++ x) b e cs fs w) {w1 : World} (hg : w.grownBy w1 ol) (ho : ol' = ol ∨ ol' = some w.heap.size ∧ w.heap.size < w1.heap.size) (hn : ∀ g, ol = some g → w0.heap.size ≤ g) :
    AtO S0 w0 (ol'.toList ++ x) b e cs fs w1 := by
  have hk : Kp S0 w0 w1 := h.kp.grown hg fun k e => .inr (hn k e)
  rcases ho with rfl | ⟨rfl, h2⟩
  · exact h.grown hg fun g e => ⟨by simp [e], hn g e⟩
  · refine (h.avoid hk hg.size (fun k hk hx => hg.block k hk fun c => hx (by simp [← c])) (Nat.le_refl _) h2).weaken ?_
    intro g hg
    simp at hg ⊢
    rcases hg with h | h
    · exact .inl h
    · exact .inr (.inr h)
theorem AtO.ne (h : AtO S0 w0 x b e cs fs w) {g : Nat} (hg : g ∈ x) : g ≠ b := by obtain ⟨os, _, _, _, _, hx⟩ := h; exact (hx g hg).2.1
theorem AtO.below (h : AtO S0 w0 x b e cs fs w) {g : Nat} (hg : g ∈ x) : g < w.heap.size := by obtain ⟨os, _, _, _, _, hx⟩ := h; exact (hx g hg).1
/-- One of its slices: what it holds; and what it is when that slice has turned. -/
theorem AtO.lens (h : AtO S0 w0 x b e cs fs w) (k : Nat) {f : Fld} (hf : fs[k]? = some f) : ∃ o, Sl w f.e f.size f.v f.n f.xs o ∧ o ≠ some b ∧ (∀ g, o = some g → g ∉ x) ∧ (∀ g, o = some g → g ∈ S0 ∨ w0.heap.size ≤ g) ∧
    ∀ (w1 : World) (f' : Fld) (o' : Option Nat), w.grownBy w1 o → f'.at w1 o' → (o' = none ∨ o' = o ∨ ∃ g, o' = some g ∧ w.heap.size ≤ g) → AtO S0 w0 x b e cs (fs.set k f') w1 := by
  obtain ⟨os, h, hk, hbS, ht, hx⟩ := h
  have hkl : k < os.length := by rw [h.len]; exact (List.getElem?_eq_some_iff.1 hf).1
  have ho : os[k]? = some os[k] := List.getElem?_eq_getElem hkl
  generalize os[k] = o at ho
  refine ⟨o, h.sl k f o hf ho, fun c => h.notB k (by rw [ho, c]), fun g e c => (hx g c).2.2 k (by rw [ho, e]), fun g e => ht k g (by rw [ho, e]), ?_⟩
  intro w1 f' o' hg hs' ho'
  have lt : ∀ j g, os[j]? = some (some g) → g < w.heap.size := fun j g hj => by
    have hjl : j < fs.length := by rw [← h.len]; exact (List.getElem?_eq_some_iff.1 hj).1
    exact (h.sl j fs[j] (some g) (List.getElem?_eq_getElem hjl) hj).lt rfl
  have hbo : o ≠ some b := fun c => h.notB k (by rw [ho, c])
  have key : ∀ j, (os.set k o')[j]? = if j = k then some o' else os[j]? := fun j => by
    by_cases hj : j = k
    · subst hj; rw [if_pos rfl, List.getElem?_set_self hkl]
    · rw [if_neg hj, List.getElem?_set_ne (Ne.symm hj)]
  have keyf : ∀ j, (fs.set k f')[j]? = if j = k then some f' else fs[j]? := fun j => by
    by_cases hj : j = k
    · subst hj; rw [if_pos rfl, List.getElem?_set_self (by rw [← h.len]; exact hkl)]
    · rw [if_neg hj, List.getElem?_set_ne (Ne.symm hj)]
  have new : ∀ g, o' = some g → (∀ j, j ≠ k → os[j]? ≠ some (some g)) ∧ g ≠ b ∧ (g ∈ S0 ∨ w0.heap.size ≤ g) ∧ g ∉ x := by
    intro g e
    rcases ho' with h1 | h1 | ⟨g', h1, h2⟩
    · rw [h1] at e; cases e
    · have hog : os[k]? = some (some g) := by rw [ho, ← h1, e]
      exact ⟨fun j hj c => hj (h.inj j k g c hog), fun c => hbo (by rw [← h1, e, c]), ht k g hog, fun c => (hx g c).2.2 k hog⟩
    · rw [h1] at e; cases e
      have := h.blk.lt
      exact ⟨fun j _ c => by have := lt j _ c; omega, by omega, .inr (Nat.le_trans hk.size h2), fun c => by have := (hx _ c).1; omega⟩
  refine ⟨os.set k o', ⟨?_, by rw [List.length_set, List.length_set]; exact h.len, ?_, ?_, ?_⟩, hk.grown hg fun g e => ht k g (by rw [ho, e]), hbS, ?_, ?_⟩
  · unfold Blk; rw [hg.block b h.blk.lt fun c => hbo c.symm]; exact h.blk
  · intro j f1 o1 hf1 ho1
    rw [key] at ho1; rw [keyf] at hf1
    by_cases hj : j = k
    · rw [if_pos hj] at ho1 hf1; cases ho1; cases hf1; exact hs'
    · rw [if_neg hj] at ho1 hf1
      exact (h.sl j f1 o1 hf1 ho1).same fun g e => hg.block g ((h.sl j f1 o1 hf1 ho1).lt e) fun c => hj (h.inj j k g (by rw [ho1, e]) (by rw [ho, c]))
  · intro j c
    rw [key] at c
    split at c
    · exact (new b (by simpa using c)).2.1 rfl
    · exact h.notB j c
  · intro i j g hi hj
    rw [key] at hi hj
    split at hi <;> split at hj
    · omega
    · rename_i c1 c2; exact absurd hj ((new g (by simpa using hi)).1 j c2)
    · rename_i c1 c2; exact absurd hi ((new g (by simpa using hj)).1 i c1)
    · exact h.inj i j g hi hj
  · intro j g c
    rw [key] at c
    split at c
    · exact (new g (by simpa using c)).2.2.1
    · exact ht j g c
  · intro g e'
    refine ⟨Nat.lt_of_lt_of_le (hx g e').1 hg.size, (hx g e').2.1, fun j c => ?_⟩
    rw [key] at c
    split at c
    · exact (new g (by simpa using c)).2.2.2 e'
    · exact (hx g e').2.2 j c
/-- The frame begun anew here. -/
theorem AtO.rebase (h : AtO S0 w0 x b e cs fs w) : ∃ S, AtO S w x b e cs fs w ∧ (∀ k, k ∈ S → k < w.heap.size) ∧ (∀ g, g ∈ x → g ∉ S) ∧ (∀ k, k ∈ S → k ∈ S0 ∨ w0.heap.size ≤ k) ∧
    ∀ cs' fs' w', AtO S w x b e cs' fs' w' → AtO S0 w0 x b e cs' fs' w' := by
  obtain ⟨os, h, hk, hbS, ht, hx⟩ := h
  have mem : ∀ k, k ∈ b :: os.filterMap id → k = b ∨ ∃ j : Nat, os[j]? = some (some k) := by
    intro k hk
    rcases List.mem_cons.1 hk with h1 | h1
    · exact .inl h1
    · obtain ⟨o, ho, h2⟩ := List.mem_filterMap.1 h1
      simp only [id] at h2
      subst h2
      exact .inr (List.mem_iff_getElem?.1 ho)
  have lt : ∀ j g, os[j]? = some (some g) → g < w.heap.size := fun j g hj => by
    have hjl : j < fs.length := by rw [← h.len]; exact (List.getElem?_eq_some_iff.1 hj).1
    exact (h.sl j fs[j] (some g) (List.getElem?_eq_getElem hjl) hj).lt rfl
  refine ⟨b :: os.filterMap id, ⟨os, h, Kp.refl _ _, .inl (by simp), fun k g hj => .inl ?_, hx⟩, ?_, ?_, ?_, ?_⟩
  · exact List.mem_cons_of_mem _ (List.mem_filterMap.2 ⟨some g, List.mem_iff_getElem?.2 ⟨k, hj⟩, rfl⟩)
  · intro k hk
    rcases mem k hk with rfl | ⟨j, hj⟩
    · exact h.blk.lt
    · exact lt j k hj
  · intro g e hc
    rcases mem g hc with h1 | ⟨j, hj⟩
    · exact (hx g e).2.1 h1
    · exact (hx g e).2.2 j hj
  · intro k hk
    rcases mem k hk with rfl | ⟨j, hj⟩
    · exact hbS
    · exact ht j k hj
  · rintro cs' fs' w' ⟨os', h', hk', hbS', ht', hx'⟩
    have sub : ∀ k, k ∈ b :: os.filterMap id → k ∈ S0 ∨ w0.heap.size ≤ k := fun k hk => by
      rcases mem k hk with rfl | ⟨j, hj⟩
      · exact hbS
      · exact ht j k hj
    exact ⟨os', h', hk.trans hk' sub, hbS, fun k g hg => (ht' k g hg).elim (fun c => sub g c) (fun c => .inr (Nat.le_trans hk.size c)), hx'⟩

theorem AtO.fresh (h : AtO S0 w0 x b e cs fs w) {w1 : World} (hg : w.grownBy w1 none) {oc : Option Nat} (ho : oc = none ∨ oc = some w.heap.size ∧ w.heap.size < w1.heap.size) : AtO S0 w0 (oc.toList ++ x) b e cs fs w1 := by
  have hk : Kp S0 w0 w1 := h.kp.grown hg fun k e => by cases e
  have hb : ∀ k, k < w.heap.size → w1.heap[k]? = w.heap[k]? := fun k hk => hg.block k hk (by simp)
  rcases ho with rfl | ⟨rfl, h2⟩
  · exact h.same hk hg.size fun k hk _ => hb k hk
  · exact h.avoid hk hg.size (fun k hk _ => hb k hk) (Nat.le_refl _) h2
/-- A block that it kept clear of becomes the block of one of its slices. -/
theorem AtO.adopt (h : AtO S0 w0 x b e cs fs w) (k : Nat) (hk : k < fs.length) (f' : Fld) (o' : Option Nat) (y : List Nat) (hs' : f'.at w o') (hg : ∀ g, o' = some g → g ∈ x ∧ (g ∈ S0 ∨ w0.heap.size ≤ g) ∧ g ∉ y) (hy : ∀ z, z ∈ y → z ∈ x) :
    AtO S0 w0 y b e cs (fs.set k f') w := by
  obtain ⟨os, h, hkp, hbS, ht, hx⟩ := h
  have hkl : k < os.length := by rw [h.len]; exact hk
  have key : ∀ j, (os.set k o')[j]? = if j = k then some o' else os[j]? := fun j => by
    by_cases hj : j = k
    · subst hj; rw [if_pos rfl, List.getElem?_set_self hkl]
    · rw [if_neg hj, List.getElem?_set_ne (Ne.symm hj)]
  have keyf : ∀ j, (fs.set k f')[j]? = if j = k then some f' else fs[j]? := fun j => by
    by_cases hj : j = k
    · subst hj; rw [if_pos rfl, List.getElem?_set_self hk]
    · rw [if_neg hj, List.getElem?_set_ne (Ne.symm hj)]
  refine ⟨os.set k o', ⟨h.blk, by rw [List.length_set, List.length_set]; exact h.len, ?_, ?_, ?_⟩, hkp, hbS, ?_, ?_⟩
  · intro j f1 o1 hf1 ho1
    rw [key] at ho1; rw [keyf] at hf1
    by_cases hj : j = k
    · rw [if_pos hj] at ho1 hf1; cases ho1; cases hf1; exact hs'
    · rw [if_neg hj] at ho1 hf1
      exact h.sl j f1 o1 hf1 ho1
  · intro j c
    rw [key] at c
    split at c
    · exact (hx b (hg b (by simpa using c)).1).2.1 rfl
    · exact h.notB j c
  · intro i j g hi hj
    rw [key] at hi hj
    split at hi <;> split at hj
    · omega
    · exact absurd hj ((hx g (hg g (by simpa using hi)).1).2.2 j)
    · exact absurd hi ((hx g (hg g (by simpa using hj)).1).2.2 i)
    · exact h.inj i j g hi hj
  · intro j g c
    rw [key] at c
    split at c
    · exact (hg g (by simpa using c)).2.1
    · exact ht j g c
  · intro g e'
    have := hx g (hy g e')
    refine ⟨this.1, this.2.1, fun j c => ?_⟩
    rw [key] at c
    split at c
    · exact (hg g (by simpa using c)).2.2 e'
    · exact this.2.2 j c
end
end Go.Clk
