/- Own ground laws of memory, of no program: a struct's block, a slice that owns its block, what a call may turn. -/
import Derived.WalkKit
import Derived.WalkSpells
import Derived.WalkLawsBesides
import Derived.Deep.AppendSrc
import Derived.Deep.Upon
import Derived.Laws.BytesString
import Derived.Lib.ConvBytes
import Derived.Laws.AppendOwn
namespace Go.Clk
open Go Go.RowKit

/-- The block b holds just these cells; none is frozen. -/
def Blk (w : World) (b : Nat) (e : TypeId) (cs : List Value) : Prop := w.heap[b]? = some (.cells cs.toArray e (0, 0))

theorem Blk.lt {w : World} {b : Nat} {e : TypeId} {cs : List Value} (h : Blk w b e cs) : b < w.heap.size := (Array.getElem?_eq_some_iff.1 h).1

theorem Blk.cell {w : World} {b : Nat} {e : TypeId} {cs : List Value} (h : Blk w b e cs) (i : Nat) {v : Value} (hv : cs[i]? = some v) : w.cell? ⟨b, i, none⟩ = some v := by
  rw [cell_of_row w b i _ e (0, 0) h]; simpa using hv

theorem Blk.frozen {w : World} {b : Nat} {e : TypeId} {cs : List Value} (h : Blk w b e cs) (i : Nat) : w.frozen? ⟨b, i, none⟩ = false := frozen_of_row w b i _ e h

theorem Blk.set {w : World} {b : Nat} {e : TypeId} {cs : List Value} (h : Blk w b e cs) (i : Nat) (v : Value) : Blk (w.setCell ⟨b, i, none⟩ v) b e (cs.set i v) := by
  unfold Blk at h ⊢
  rw [heap_setCell_same w b i _ e v h]; simp

theorem Blk.other {w : World} {b : Nat} {e : TypeId} {cs : List Value} (h : Blk w b e cs) (a : Addr) (v : Value) (hne : b ≠ a.block) : Blk (w.setCell a v) b e cs := by
  unfold Blk at h ⊢
  rw [heap_setCell_other w a b v hne]; exact h

theorem Blk.new (w : World) (cs : List Value) (e : TypeId) : Blk (w.alloc (.cells cs.toArray e)) w.heap.size e cs := heap_alloc_new w _

/-- A slice v of n elements, of 'size' cells each, whose cells are xs; its array lies in the block o (none: it is nil). -/
def Sl (w : World) (e : TypeId) (size : Nat) (v : Value) (n : Nat) (xs : List Value) (o : Option Nat) : Prop :=
  xs.length = n * size ∧
  ((v = .slice none 0 0 ∧ n = 0 ∧ o = none) ∨
   ∃ g off cap cur, v = .slice (some ⟨g, off, none⟩) n cap ∧ o = some g ∧ w.heap[g]? = some (.cells cur e (0, 0)) ∧ n ≤ cap ∧ cap ≤ maxLen ∧ off + cap * size ≤ cur.size ∧ (cur.toList.drop off).take (n * size) = xs)

/-- All but the blocks of S is as it was; nothing is gone. -/
structure Kp (S : List Nat) (w w' : World) : Prop where
  os : w'.os = w.os
  tape : w'.tape = w.tape
  output : w'.output = w.output
  size : w.heap.size ≤ w'.heap.size
  block : ∀ k, k < w.heap.size → k ∉ S → w'.heap[k]? = w.heap[k]?

section
variable {S T : List Nat} {w w' w'' : World}
theorem Kp.refl (S : List Nat) (w : World) : Kp S w w := ⟨rfl, rfl, rfl, Nat.le_refl _, fun _ _ _ => rfl⟩
theorem Kp.mono (h : Kp S w w') (hs : ∀ k, k ∈ S → k ∈ T) : Kp T w w' := ⟨h.os, h.tape, h.output, h.size, fun k hk hn => h.block k hk fun hc => hn (hs k hc)⟩
/-- One behind the other: what the second may turn is the first's, or new. -/
theorem Kp.trans (h : Kp S w w') (k : Kp T w' w'') (ht : ∀ x, x ∈ T → x ∈ S ∨ w.heap.size ≤ x) : Kp S w w'' :=
  ⟨k.os.trans h.os, k.tape.trans h.tape, k.output.trans h.output, Nat.le_trans h.size k.size, fun i hi hn =>
    (k.block i (Nat.lt_of_lt_of_le hi h.size) fun hc => by rcases ht i hc with h1 | h1; exact hn h1; omega).trans (h.block i hi hn)⟩
theorem Kp.drew (h : Kp S w w') : Kp S w w'.drew := ⟨h.os, h.tape, h.output, h.size, h.block⟩
theorem Kp.alloc (h : Kp S w w') (o : Obj) : Kp S w (w'.alloc o) :=
  ⟨h.os, h.tape, h.output, by have := h.size; simp; omega, fun k hk hn => (Below.heap_alloc w' o k (Nat.lt_of_lt_of_le hk h.size)).trans (h.block k hk hn)⟩
theorem Kp.set (h : Kp S w w') (a : Addr) (v : Value) (ha : a.block ∈ S ∨ w.heap.size ≤ a.block) : Kp S w (w'.setCell a v) :=
  ⟨h.os, h.tape, h.output, by have := h.size; simpa using this, fun k hk hn => (heap_setCell_other w' a k v (fun e => by subst e; rcases ha with h1 | h1; exact hn h1; omega)).trans (h.block k hk hn)⟩
theorem Kp.grown {o : Option Nat} (h : Kp S w w') (g : w'.grownBy w'' o) (ho : ∀ k, o = some k → k ∈ S ∨ w.heap.size ≤ k) : Kp S w w'' :=
  ⟨g.os.trans h.os, g.tape.trans h.tape, g.output.trans h.output, Nat.le_trans h.size g.size, fun k hk hn =>
    (g.block k (Nat.lt_of_lt_of_le hk h.size) fun e => by rcases ho k e.symm with h1 | h1; exact hn h1; omega).trans (h.block k hk hn)⟩
theorem Kp.blk {b : Nat} {e : TypeId} {cs : List Value} (h : Kp S w w') (hb : Blk w b e cs) (hn : b ∉ S) : Blk w' b e cs := by
  unfold Blk; rw [h.block b hb.lt hn]; exact hb
theorem Kp.cell (h : Kp S w w') {a : Addr} (ha : a.block < w.heap.size) (hn : a.block ∉ S) : w'.cell? a = w.cell? a := World.cell?_of_block (h.block _ ha hn)
theorem Kp.frozen (h : Kp S w w') {a : Addr} (ha : a.block < w.heap.size) (hn : a.block ∉ S) : w'.frozen? a = w.frozen? a := World.frozen?_of_block (h.block _ ha hn)
end

section
variable {w w' : World} {e : TypeId} {size : Nat} {v : Value} {n : Nat} {xs : List Value} {o : Option Nat}
theorem Sl.nil (w : World) (e : TypeId) (size : Nat) : Sl w e size (.slice none 0 0) 0 [] none := ⟨by simp, .inl ⟨rfl, rfl, rfl⟩⟩
theorem Sl.lt (h : Sl w e size v n xs o) {g : Nat} (hg : o = some g) : g < w.heap.size := by
  subst hg
  rcases h.2 with ⟨_, _, h2⟩ | ⟨g', off, cap, cur, _, h2, h3, _⟩
  · cases h2
  · cases h2; exact (Array.getElem?_eq_some_iff.1 h3).1
theorem Sl.same (h : Sl w e size v n xs o) (hb : ∀ g, o = some g → w'.heap[g]? = w.heap[g]?) : Sl w' e size v n xs o := by
  refine ⟨h.1, h.2.imp id ?_⟩
  rintro ⟨g, off, cap, cur, h1, h2, h3, h4⟩
  exact ⟨g, off, cap, cur, h1, h2, (hb g h2).trans h3, h4⟩
theorem Sl.kp {S : List Nat} (h : Sl w e size v n xs o) (hk : Kp S w w') (hn : ∀ g, o = some g → g ∉ S) : Sl w' e size v n xs o :=
  h.same fun g hg => hk.block g (h.lt hg) (hn g hg)
theorem Sl.alloc (h : Sl w e size v n xs o) (ob : Obj) : Sl (w.alloc ob) e size v n xs o := h.same fun g hg => Below.heap_alloc w ob g (h.lt hg)
theorem Sl.drew (h : Sl w e size v n xs o) : Sl w.drew e size v n xs o := h.same fun _ _ => rfl
theorem Sl.set (h : Sl w e size v n xs o) (a : Addr) (u : Value) (hn : ∀ g, o = some g → g ≠ a.block) : Sl (w.setCell a u) e size v n xs o :=
  h.same fun g hg => heap_setCell_other w a g u (hn g hg)
theorem Sl.shape (h : Sl w e size v n xs o) : ∃ a cap, v = .slice a n cap ∧ n ≤ cap ∧ cap ≤ maxLen := by
  rcases h.2 with ⟨rfl, rfl, _⟩ | ⟨g, off, cap, cur, rfl, _, _, h4, h5, _⟩
  · exact ⟨none, 0, rfl, Nat.le_refl _, by simp [maxLen]⟩
  · exact ⟨_, cap, rfl, h4, h5⟩
theorem Sl.cells (h : Sl w e size v n xs o) {a : Addr} {k cap : Nat} (hv : v = .slice (some a) k cap) (j : Nat) {u : Value} (hu : xs[j]? = some u) : w.cell? ⟨a.block, a.off + j, none⟩ = some u ∧ w.frozen? ⟨a.block, a.off + j, none⟩ = false := by
  rcases h.2 with ⟨rfl, _⟩ | ⟨g, off, cap', cur, rfl, _, h3, h4, _, h6, h7⟩
  · cases hv
  · cases hv
    refine ⟨?_, frozen_of_row w g _ cur e h3⟩
    rw [cell_of_row w g _ cur e (0, 0) h3]
    rw [← h7, List.getElem?_take] at hu
    split at hu
    · simpa [List.getElem?_drop] using hu
    · cases hu
theorem Sl.frozenAt (h : Sl w e size v n xs o) {a : Addr} {k cap : Nat} (hv : v = .slice (some a) k cap) (j : Nat) : w.frozen? ⟨a.block, j, none⟩ = false := by
  rcases h.2 with ⟨rfl, _⟩ | ⟨g, off, cap', cur, rfl, _, h3, h4, _, h6, h7⟩
  · cases hv
  · cases hv
    exact frozen_of_row w g _ cur e h3
theorem Sl.addr (h : Sl w e size v n xs o) (hn : 0 < n) : ∃ g off cap, v = .slice (some ⟨g, off, none⟩) n cap ∧ o = some g := by
  rcases h.2 with ⟨_, h2, _⟩ | ⟨g, off, cap, cur, h1, h2, _⟩
  · omega
  · exact ⟨g, off, cap, h1, h2⟩
/-- A row in a new block. -/
theorem Sl.made (w : World) (cs : List Value) (n : Nat) (e : TypeId) (size : Nat) (hl : cs.length = n * size) (hm : n ≤ maxLen) : Sl (w.alloc (.cells cs.toArray e)) e size (.slice (some ⟨w.heap.size, 0, none⟩) n n) n cs (some w.heap.size) :=
  ⟨hl, .inr ⟨w.heap.size, 0, n, cs.toArray, rfl, rfl, heap_alloc_new w _, Nat.le_refl _, hm, by simp [hl], by simp [← hl]⟩⟩
theorem Sl.src {P : Program} {tx e' : TypeId} (hk : P.underlying tx = some (.slice e')) (h : Sl w e size v n xs o) (h1 : ∀ u ∈ xs, u.oneCell' = true) : Src P size tx v n xs w := by
  rcases h.2 with ⟨rfl, rfl, _⟩ | ⟨g, off, cap', cur, rfl, _, h3, h4, _, h6, h7⟩
  · have : xs = [] := List.eq_nil_of_length_eq_zero (by simpa using h.1)
    subst this
    exact Src.ofNil w hk 0
  · exact Src.ofSlice w hk _ n cap' xs h.1 (fun j u hu => by rw [Addr.add_lit]; exact (h.cells rfl j hu).1) h1
end

theorem heap_setCells_same (g : Nat) (e : TypeId) : ∀ (vs : List Value) (off : Nat) (w : World) (cur : Array Value), w.heap[g]? = some (.cells cur e (0, 0)) → off + vs.length ≤ cur.size →
    ∃ cur', (w.setCells g off vs).heap[g]? = some (.cells cur' e (0, 0)) ∧ cur'.toList = cur.toList.take off ++ vs ++ cur.toList.drop (off + vs.length)
  | [], off, w, cur, h, _ => ⟨cur, by simpa [World.setCells] using h, by simp⟩
  | v :: vs, off, w, cur, h, hl => by
    have h1 := heap_setCell_same w g off cur e v h
    simp only [List.length_cons] at hl
    obtain ⟨cur', h2, h3⟩ := heap_setCells_same g e vs (off + 1) (w.setCell ⟨g, off, none⟩ v) _ h1 (by simp; omega)
    refine ⟨cur', by simpa [World.setCells] using h2, ?_⟩
    rw [h3]
    have hc : cur.toList.length = cur.size := Array.length_toList
    apply List.ext_getElem?
    intro j
    simp only [Array.toList_setIfInBounds, List.length_cons]
    by_cases c1 : j < off
    · rw [List.append_assoc, List.append_assoc, List.getElem?_append_left (by simp; omega), List.getElem?_append_left (by simp; omega), List.getElem?_take_of_lt (by omega), List.getElem?_take_of_lt (by omega), List.getElem?_set_ne (by omega)]
    · by_cases c2 : j = off
      · subst c2
        rw [List.append_assoc, List.append_assoc, List.getElem?_append_left (by simp; omega), List.getElem?_append_right (by simp; omega), List.getElem?_take_of_lt (by omega), List.getElem?_set_self (by omega)]
        simp; rw [show j - min j cur.size = 0 by omega]; rfl
      · by_cases c3 : j < off + 1 + vs.length
        · rw [List.append_assoc, List.append_assoc, List.getElem?_append_right (by simp; omega), List.getElem?_append_left (by simp; omega), List.getElem?_append_right (by simp; omega), List.getElem?_append_left (by simp; omega)]
          simp
          rw [show min (off + 1) cur.size = off + 1 by omega, show min off cur.size = off by omega, show j - off = (j - (off + 1)) + 1 by omega, List.getElem?_cons_succ]
        · rw [List.getElem?_append_right (by simp; omega), List.getElem?_append_right (by simp; omega), List.getElem?_drop, List.getElem?_drop, List.getElem?_set_ne (by simp; omega)]
          simp
          congr 1; omega

theorem grownBy_refl (w : World) (o : Option Nat) : w.grownBy w o := ⟨rfl, rfl, rfl, Nat.le_refl _, fun _ _ _ => rfl⟩
theorem tape_setCells (g : Nat) : ∀ (vs : List Value) (o : Nat) (w : World), (w.setCells g o vs).tape = w.tape
  | [], _, _ => rfl
  | v :: r, o, w => by rw [World.setCells, tape_setCells g r]; rfl
theorem size_setCells (g : Nat) : ∀ (vs : List Value) (o : Nat) (w : World), (w.setCells g o vs).heap.size = w.heap.size
  | [], _, _ => rfl
  | v :: r, o, w => by rw [World.setCells, size_setCells g r]; simp

/-- 'append' onto a slice that owns its block. -/
theorem run_append_sl {P : Program} {w : World} {e : TypeId} {size : Nat} {v : Value} {n : Nat} {xs : List Value} {o : Option Nat} (h : Sl w e size v n xs o)
    (t tx ty : TypeId) (i : TypeInfo) (z : Value) (bytes : Nat) (ht : P.underlying t = some (.slice e)) (hi : P.info? e = some i) (hz : i.zero = some z) (hsize : i.size = size) (hby : i.bytes = bytes) (hzs : z.cells.size = size)
    (x : Value) (m : Nat) (news : List Value) (hs : Src P size tx x m news w) (h63 : n + m ≤ maxLen) (hbytes : (n + m) * bytes ≤ 140737488355328) :
    ∃ v' w' o', (Builtin.append_ #[t, tx] ty #[v, x]).run P w = .ok v' w' ∧ Sl w' e size v' (n + m) (xs ++ news) o' ∧ w.grownBy w' o ∧ (o' = o ∨ o' = some w.heap.size ∧ w.heap.size < w'.heap.size) := by
  subst hsize
  subst hby
  have hnl := hs.newsLen
  have hlen : (xs ++ news).length = (n + m) * i.size := by rw [List.length_append, h.1, hnl, Nat.add_mul]
  have hsmall : n + m ≤ 9223372036854775807 := by simp only [maxLen] at h63; omega
  have grow : ∀ (bs : Option Addr) (sc : Nat), v = .slice bs n sc → sc < n + m → (Builtin.firstCells i.size n (.slice bs n sc)).run P w.drew = .ok xs.toArray w.drew →
      ∃ v' w' o', (Builtin.append_ #[t, tx] ty #[v, x]).run P w = .ok v' w' ∧ Sl w' e i.size v' (n + m) (xs ++ news) o' ∧ w.grownBy w' o ∧ (o' = o ∨ o' = some w.heap.size ∧ w.heap.size < w'.heap.size) := by
    rintro bs sc rfl hg hold
    have hrun := run_append_grow_src (P := P) w t tx ty e i z ht hi hz bs n sc xs hold x m news hs hg (by omega) (growslice_fits hg hbytes)
    have hge := grownCap_ge w (n + m) sc e
    have hcm := grownCap_le_maxLen w (n + m) sc e h63
    refine ⟨_, _, some w.heap.size, hrun, ⟨hlen, .inr ⟨w.heap.size, 0, _, _, rfl, rfl, heap_alloc_new w.drew _, hge, hcm, ?_, ?_⟩⟩, ⟨rfl, rfl, rfl, by simp, fun k hk _ => Below.heap_alloc w.drew _ k hk⟩, .inr ⟨rfl, by simp⟩⟩
    · rw [Array.size_append, List.size_toArray, hlen, size_zeroCells, hzs, ← Nat.add_mul, Nat.zero_add]
      apply Nat.le_of_eq; congr 1; omega
    · simp only [List.drop_zero, Array.toList_append]
      rw [← hlen]; exact List.take_left
  rcases h.2 with ⟨rfl, rfl, rfl⟩ | ⟨g, off, cap, cur, rfl, rfl, h3, h4, h5, h6, h7⟩
  · have hx : xs = [] := List.eq_nil_of_length_eq_zero (by simpa using h.1)
    subst hx
    by_cases hm : m = 0
    · subst hm
      have hn : news = [] := List.eq_nil_of_length_eq_zero (by simpa using hnl)
      subst hn
      exact ⟨_, _, none, run_append_nothing (P := P) w t tx ty e i ht hi none 0 0 (Nat.le_refl _) x hs, h, ⟨rfl, rfl, rfl, Nat.le_refl _, fun _ _ _ => rfl⟩, .inl rfl⟩
    · exact grow none 0 rfl (by omega) (by simpa using run_firstCells_none (P := P) w.drew i.size 0 0 0)
  · by_cases hroom : n + m ≤ cap
    · have hmul : (n + m) * i.size ≤ cap * i.size := Nat.mul_le_mul_right _ hroom
      rw [Nat.add_mul] at hmul
      have hrun := run_append_room_src (P := P) w t tx ty e i ht hi g off n cap x m news hs hroom
        (fun j hj => by rw [cell_of_row w g _ cur e (0, 0) h3, Array.getElem?_eq_getElem (by omega)]; rfl) (fun j hj => frozen_of_row w g _ cur e h3)
      obtain ⟨cur', hc1, hc2⟩ := heap_setCells_same g e news (off + n * i.size) w cur h3 (by omega)
      have hcl : cur.toList.length = cur.size := Array.length_toList
      have hcs : cur'.size = cur.size := by rw [← Array.length_toList, hc2]; simp; omega
      refine ⟨_, _, some g, hrun, ⟨hlen, .inr ⟨g, off, cap, cur', rfl, rfl, hc1, hroom, h5, by omega, ?_⟩⟩,
        ⟨World.os_setCells w g _ news, ?_, World.output_setCells w g _ news, ?_, fun k hk hne => World.heap_setCells_other w g _ news hk (fun e => hne (by rw [e]))⟩, .inl rfl⟩
      · rw [hc2, ← h7, List.append_assoc, List.drop_append_of_le_length (by simp; omega), List.drop_take]
        rw [show off + n * i.size - off = n * i.size by omega, ← List.append_assoc, h7]
        rw [← hlen]; exact List.take_left
      · exact tape_setCells g news _ w
      · rw [size_setCells g news _ w]; exact Nat.le_refl _
    · exact grow (some ⟨g, off, none⟩) cap rfl (by omega) (run_firstCells_some w.drew i.size n _ n cap xs h.1 (fun j u hu => by rw [Addr.add_lit]; exact (h.cells rfl j hu).1))

/-- The same, for the walk. -/
theorem wpList_append_sl {P : Program} {w : World} {ops : Array Oper} {rest : List Oper} {o : Oper} {a : Act} {Q : Exit → Act → World → Prop} (hgd : o.guard = none) (s x : Operand) (t tx : TypeId)
    (ho : o.op = .call { callee := .builtin .append, args := #[s, x], argTypes := #[t, tx] })
    {e : TypeId} {size : Nat} {v : Value} {n : Nat} {xs : List Value} {own : Option Nat} (h : Sl w e size v n xs own) (hv : a.eval s = v)
    (i : TypeInfo) (z : Value) (bytes : Nat) (ht : P.underlying t = some (.slice e)) (hi : P.info? e = some i) (hz : i.zero = some z) (hsize : i.size = size) (hby : i.bytes = bytes) (hzs : z.cells.size = size)
    (xv : Value) (m : Nat) (news : List Value) (hx : a.eval x = xv) (hs : Src P size tx xv m news w) (h63 : n + m ≤ maxLen) (hbytes : (n + m) * bytes ≤ 140737488355328)
    (hK : ∀ a' cap' w' own', Sl w' e size (.slice a' (n + m) cap') (n + m) (xs ++ news) own' → w.grownBy w' own → (own' = own ∨ own' = some w.heap.size ∧ w.heap.size < w'.heap.size) → wpList P ops Q rest (a.put o.dst (.slice a' (n + m) cap')) w') :
    wpList P ops Q (o :: rest) a w := by
  refine wpList_plain hgd fun K hK' => ?_
  obtain ⟨v', w', o', hr, h1, h2, h3⟩ := run_append_sl h t tx o.type i z bytes ht hi hz hsize hby hzs xv m news hs h63 hbytes
  obtain ⟨a', cap', rfl, _⟩ := h1.shape
  unfold Oper.wp
  simp [execOp, ho, resolve, invoke, builtin, hv, hx, hr, Result.andThen]
  exact hK' _ _ (hK a' cap' w' o' h1 h2 h3)

/-- A slice that an object owns: its elements' type and cells, its value, how many elements, their cells. -/
structure Fld where
  e : TypeId
  size : Nat
  v : Value
  n : Nat
  xs : List Value

def Fld.at (f : Fld) (w : World) (o : Option Nat) : Prop := Sl w f.e f.size f.v f.n f.xs o

/-- An object: its block's cells, its slices fs, each in a block of its own (os). -/
structure Own (w : World) (b : Nat) (e : TypeId) (cs : List Value) (fs : List Fld) (os : List (Option Nat)) : Prop where
  blk : Blk w b e cs
  len : os.length = fs.length
  sl : ∀ (k : Nat) (f : Fld) (o : Option Nat), fs[k]? = some f → os[k]? = some o → f.at w o
  notB : ∀ k : Nat, os[k]? ≠ some (some b)
  inj : ∀ (k j g : Nat), os[k]? = some (some g) → os[j]? = some (some g) → k = j

/-- The object as it stands in w, of what was begun in w0 with the blocks S0; it keeps clear of the block x. -/
def AtO (S0 : List Nat) (w0 : World) (x : List Nat) (b : Nat) (e : TypeId) (cs : List Value) (fs : List Fld) (w : World) : Prop :=
  ∃ os, Own w b e cs fs os ∧ Kp S0 w0 w ∧ (b ∈ S0 ∨ w0.heap.size ≤ b) ∧ (∀ k g : Nat, os[k]? = some (some g) → g ∈ S0 ∨ w0.heap.size ≤ g) ∧ (∀ g, g ∈ x → g < w.heap.size ∧ g ≠ b ∧ ∀ k : Nat, os[k]? ≠ some (some g))

section
variable {S0 : List Nat} {w0 w : World} {x : List Nat} {b : Nat} {e : TypeId} {cs : List Value} {fs : List Fld}
theorem AtO.blk (h : AtO S0 w0 x b e cs fs w) : Blk w b e cs := by obtain ⟨os, h, _⟩ := h; exact h.blk
theorem AtO.lt (h : AtO S0 w0 x b e cs fs w) : b < w.heap.size := h.blk.lt
theorem AtO.frozen (h : AtO S0 w0 x b e cs fs w) (i : Nat) : w.frozen? ⟨b, i, none⟩ = false := h.blk.frozen i
theorem AtO.cell (h : AtO S0 w0 x b e cs fs w) (i : Nat) {v : Value} (hv : cs[i]? = some v) : w.cell? ⟨b, i, none⟩ = some v := h.blk.cell i hv
theorem AtO.kp (h : AtO S0 w0 x b e cs fs w) : Kp S0 w0 w := by obtain ⟨os, _, h, _⟩ := h; exact h
theorem AtO.set (h : AtO S0 w0 x b e cs fs w) (i : Nat) (v : Value) : AtO S0 w0 x b e (cs.set i v) fs (w.setCell ⟨b, i, none⟩ v) := by
  obtain ⟨os, h, hk, hb, ht, hx⟩ := h
  refine ⟨os, ⟨h.blk.set i v, h.len, fun k f o hf ho => (h.sl k f o hf ho).set _ _ fun g e c => h.notB k (by rw [ho, e, c]), h.notB, h.inj⟩, hk.set _ _ hb, hb, ht, fun g e => by simpa using hx g e⟩
/-- What is none of its own turns, or is made. -/
theorem AtO.same {w1 : World} (h : AtO S0 w0 x b e cs fs w) (hk : Kp S0 w0 w1) (hs : w.heap.size ≤ w1.heap.size) (hb : ∀ k, k < w.heap.size → k ∉ x → w1.heap[k]? = w.heap[k]?) : AtO S0 w0 x b e cs fs w1 := by
  obtain ⟨os, h, _, hbS, ht, hx⟩ := h
  refine ⟨os, ⟨?_, h.len, fun k f o hf ho => (h.sl k f o hf ho).same fun g e => hb g ((h.sl k f o hf ho).lt e) fun c => (hx g c).2.2 k (by rw [ho, e]), h.notB, h.inj⟩, hk, hbS, ht, fun g e => ⟨Nat.lt_of_lt_of_le (hx g e).1 hs, (hx g e).2⟩⟩
  unfold Blk; rw [hb b h.blk.lt fun c => (hx b c).2.1 rfl]; exact h.blk
theorem AtO.alloc (h : AtO S0 w0 x b e cs fs w) (o : Obj) : AtO S0 w0 x b e cs fs (w.alloc o) := h.same (h.kp.alloc o) (by simp) fun k hk _ => Below.heap_alloc w o k hk
theorem AtO.drew (h : AtO S0 w0 x b e cs fs w) : AtO S0 w0 x b e cs fs w.drew := h.same h.kp.drew (Nat.le_refl _) fun _ _ _ => rfl
theorem AtO.drewN (h : AtO S0 w0 x b e cs fs w) (n : Nat) : AtO S0 w0 x b e cs fs (w.drewN n) := h.same ⟨h.kp.os, h.kp.tape, h.kp.output, h.kp.size, h.kp.block⟩ (Nat.le_refl _) fun _ _ _ => rfl
/-- A block that it keeps clear of is appended to. -/
theorem AtO.grown {w1 : World} {o : Option Nat} (h : AtO S0 w0 x b e cs fs w) (hg : w.grownBy w1 o) (hx : ∀ g, o = some g → g ∈ x ∧ w0.heap.size ≤ g) : AtO S0 w0 x b e cs fs w1 :=
  h.same (h.kp.grown hg fun k e => .inr (hx k e).2) hg.size fun k hk hn => hg.block k hk fun c => hn (hx k c.symm).1
theorem AtO.weaken {y : List Nat} (h : AtO S0 w0 x b e cs fs w) (hy : ∀ g, g ∈ y → g ∈ x) : AtO S0 w0 y b e cs fs w := by
  obtain ⟨os, h, hk, hb, ht, hx⟩ := h
  exact ⟨os, h, hk, hb, ht, fun g e => hx g (hy g e)⟩
/-- A block that has just been made is none of its own. -/
theorem AtO.avoid (h : AtO S0 w0 x b e cs fs w) {w1 : World} (hk : Kp S0 w0 w1) (hs : w.heap.size ≤ w1.heap.size) (hb : ∀ k, k < w.heap.size → k ∉ x → w1.heap[k]? = w.heap[k]?) {g : Nat} (hg : w.heap.size ≤ g) (hg' : g < w1.heap.size) : AtO S0 w0 (g :: x) b e cs fs w1 := by
  obtain ⟨os, h, _, hbS, ht, hx⟩ := h
  have lt : ∀ k o, os[k]? = some (some o) → o < w.heap.size := fun k o ho => by
    have hk : k < fs.length := by rw [← h.len]; exact (List.getElem?_eq_some_iff.1 ho).1
    exact (h.sl k fs[k] (some o) (List.getElem?_eq_getElem hk) ho).lt rfl
  refine ⟨os, ⟨?_, h.len, fun k f o hf ho => (h.sl k f o hf ho).same fun g e => hb g ((h.sl k f o hf ho).lt e) fun c => (hx g c).2.2 k (by rw [ho, e]), h.notB, h.inj⟩, hk, hbS, ht, fun g' e => ?_⟩
  · unfold Blk; rw [hb b h.blk.lt fun c => (hx b c).2.1 rfl]; exact h.blk
  · rcases List.mem_cons.1 e with e | e
    · subst e
      have := h.blk.lt
      exact ⟨hg', by omega, fun k c => by have := lt k _ c; omega⟩
    · exact ⟨Nat.lt_of_lt_of_le (hx g' e).1 hs, (hx g' e).2⟩
/-- A slice of the call's own, of whose block it keeps clear, is appended to. -/
theorem AtO.local {ol ol' : Option Nat} (h : AtO S0 w0 (ol.toList ++ x) b e cs fs w) {w1 : World} (hg : w.grownBy w1 ol) (ho : ol' = ol ∨ ol' = some w.heap.size ∧ w.heap.size < w1.heap.size) (hn : ∀ g, ol = some g → w0.heap.size ≤ g) :
    AtO S0 w0 (ol'.toList ++ x) b e cs fs w1 := by
  have hk : Kp S0 w0 w1 := h.kp.grown hg fun k e => .inr (hn k e)
  rcases ho with rfl | ⟨rfl, h2⟩
  · exact h.grown hg fun g e => ⟨by simp [e], hn g e⟩
  · refine (h.avoid hk hg.size (fun k hk hx => hg.block k hk fun c => hx (by simp [← c])) (Nat.le_refl _) h2).weaken ?_
    intro g hg
    simp at hg ⊢
    rcases hg with h | h
    · exact .inl h
    · exact .inr (.inr h)
theorem AtO.ne (h : AtO S0 w0 x b e cs fs w) {g : Nat} (hg : g ∈ x) : g ≠ b := by obtain ⟨os, _, _, _, _, hx⟩ := h; exact (hx g hg).2.1
theorem AtO.below (h : AtO S0 w0 x b e cs fs w) {g : Nat} (hg : g ∈ x) : g < w.heap.size := by obtain ⟨os, _, _, _, _, hx⟩ := h; exact (hx g hg).1
/-- One of its slices: what it holds; and what it is when that slice has turned. -/
theorem AtO.lens (h : AtO S0 w0 x b e cs fs w) (k : Nat) {f : Fld} (hf : fs[k]? = some f) : ∃ o, Sl w f.e f.size f.v f.n f.xs o ∧ o ≠ some b ∧ (∀ g, o = some g → g ∉ x) ∧ (∀ g, o = some g → g ∈ S0 ∨ w0.heap.size ≤ g) ∧
    ∀ (w1 : World) (f' : Fld) (o' : Option Nat), w.grownBy w1 o → f'.at w1 o' → (o' = none ∨ o' = o ∨ ∃ g, o' = some g ∧ w.heap.size ≤ g) → AtO S0 w0 x b e cs (fs.set k f') w1 := by
  obtain ⟨os, h, hk, hbS, ht, hx⟩ := h
  have hkl : k < os.length := by rw [h.len]; exact (List.getElem?_eq_some_iff.1 hf).1
  have ho : os[k]? = some os[k] := List.getElem?_eq_getElem hkl
  generalize os[k] = o at ho
  refine ⟨o, h.sl k f o hf ho, fun c => h.notB k (by rw [ho, c]), fun g e c => (hx g c).2.2 k (by rw [ho, e]), fun g e => ht k g (by rw [ho, e]), ?_⟩
  intro w1 f' o' hg hs' ho'
  have lt : ∀ j g, os[j]? = some (some g) → g < w.heap.size := fun j g hj => by
    have hjl : j < fs.length := by rw [← h.len]; exact (List.getElem?_eq_some_iff.1 hj).1
    exact (h.sl j fs[j] (some g) (List.getElem?_eq_getElem hjl) hj).lt rfl
  have hbo : o ≠ some b := fun c => h.notB k (by rw [ho, c])
  have key : ∀ j, (os.set k o')[j]? = if j = k then some o' else os[j]? := fun j => by
    by_cases hj : j = k
    · subst hj; rw [if_pos rfl, List.getElem?_set_self hkl]
    · rw [if_neg hj, List.getElem?_set_ne (Ne.symm hj)]
  have keyf : ∀ j, (fs.set k f')[j]? = if j = k then some f' else fs[j]? := fun j => by
    by_cases hj : j = k
    · subst hj; rw [if_pos rfl, List.getElem?_set_self (by rw [← h.len]; exact hkl)]
    · rw [if_neg hj, List.getElem?_set_ne (Ne.symm hj)]
  have new : ∀ g, o' = some g → (∀ j, j ≠ k → os[j]? ≠ some (some g)) ∧ g ≠ b ∧ (g ∈ S0 ∨ w0.heap.size ≤ g) ∧ g ∉ x := by
    intro g e
    rcases ho' with h1 | h1 | ⟨g', h1, h2⟩
    · rw [h1] at e; cases e
    · have hog : os[k]? = some (some g) := by rw [ho, ← h1, e]
      exact ⟨fun j hj c => hj (h.inj j k g c hog), fun c => hbo (by rw [← h1, e, c]), ht k g hog, fun c => (hx g c).2.2 k hog⟩
    · rw [h1] at e; cases e
      have := h.blk.lt
      exact ⟨fun j _ c => by have := lt j _ c; omega, by omega, .inr (Nat.le_trans hk.size h2), fun c => by have := (hx _ c).1; omega⟩
  refine ⟨os.set k o', ⟨?_, by rw [List.length_set, List.length_set]; exact h.len, ?_, ?_, ?_⟩, hk.grown hg fun g e => ht k g (by rw [ho, e]), hbS, ?_, ?_⟩
  · unfold Blk; rw [hg.block b h.blk.lt fun c => hbo c.symm]; exact h.blk
  · intro j f1 o1 hf1 ho1
    rw [key] at ho1; rw [keyf] at hf1
    by_cases hj : j = k
    · rw [if_pos hj] at ho1 hf1; cases ho1; cases hf1; exact hs'
    · rw [if_neg hj] at ho1 hf1
      exact (h.sl j f1 o1 hf1 ho1).same fun g e => hg.block g ((h.sl j f1 o1 hf1 ho1).lt e) fun c => hj (h.inj j k g (by rw [ho1, e]) (by rw [ho, c]))
  · intro j c
    rw [key] at c
    split at c
    · exact (new b (by simpa using c)).2.1 rfl
    · exact h.notB j c
  · intro i j g hi hj
    rw [key] at hi hj
    split at hi <;> split at hj
    · omega
    · rename_i c1 c2; exact absurd hj ((new g (by simpa using hi)).1 j c2)
    · rename_i c1 c2; exact absurd hi ((new g (by simpa using hj)).1 i c1)
    · exact h.inj i j g hi hj
  · intro j g c
    rw [key] at c
    split at c
    · exact (new g (by simpa using c)).2.2.1
    · exact ht j g c
  · intro g e'
    refine ⟨Nat.lt_of_lt_of_le (hx g e').1 hg.size, (hx g e').2.1, fun j c => ?_⟩
    rw [key] at c
    split at c
    · exact (new g (by simpa using c)).2.2.2 e'
    · exact (hx g e').2.2 j c
/-- The frame begun anew here. -/
theorem AtO.rebase (h : AtO S0 w0 x b e cs fs w) : ∃ S, AtO S w x b e cs fs w ∧ (∀ k, k ∈ S → k < w.heap.size) ∧ (∀ g, g ∈ x → g ∉ S) ∧ (∀ k, k ∈ S → k ∈ S0 ∨ w0.heap.size ≤ k) ∧
    ∀ cs' fs' w', AtO S w x b e cs' fs' w' → AtO S0 w0 x b e cs' fs' w' := by
  obtain ⟨os, h, hk, hbS, ht, hx⟩ := h
  have mem : ∀ k, k ∈ b :: os.filterMap id → k = b ∨ ∃ j : Nat, os[j]? = some (some k) := by
    intro k hk
    rcases List.mem_cons.1 hk with h1 | h1
    · exact .inl h1
    · obtain ⟨o, ho, h2⟩ := List.mem_filterMap.1 h1
      simp only [id] at h2
      subst h2
      exact .inr (List.mem_iff_getElem?.1 ho)
  have lt : ∀ j g, os[j]? = some (some g) → g < w.heap.size := fun j g hj => by
    have hjl : j < fs.length := by rw [← h.len]; exact (List.getElem?_eq_some_iff.1 hj).1
    exact (h.sl j fs[j] (some g) (List.getElem?_eq_getElem hjl) hj).lt rfl
  refine ⟨b :: os.filterMap id, ⟨os, h, Kp.refl _ _, .inl (by simp), fun k g hj => .inl ?_, hx⟩, ?_, ?_, ?_, ?_⟩
  · exact List.mem_cons_of_mem _ (List.mem_filterMap.2 ⟨some g, List.mem_iff_getElem?.2 ⟨k, hj⟩, rfl⟩)
  · intro k hk
    rcases mem k hk with rfl | ⟨j, hj⟩
    · exact h.blk.lt
    · exact lt j k hj
  · intro g e hc
    rcases mem g hc with h1 | ⟨j, hj⟩
    · exact (hx g e).2.1 h1
    · exact (hx g e).2.2 j hj
  · intro k hk
    rcases mem k hk with rfl | ⟨j, hj⟩
    · exact hbS
    · exact ht j k hj
  · rintro cs' fs' w' ⟨os', h', hk', hbS', ht', hx'⟩
    have sub : ∀ k, k ∈ b :: os.filterMap id → k ∈ S0 ∨ w0.heap.size ≤ k := fun k hk => by
      rcases mem k hk with rfl | ⟨j, hj⟩
      · exact hbS
      · exact ht j k hj
    exact ⟨os', h', hk.trans hk' sub, hbS, fun k g hg => (ht' k g hg).elim (fun c => sub g c) (fun c => .inr (Nat.le_trans hk.size c)), hx'⟩

theorem AtO.fresh (h : AtO S0 w0 x b e cs fs w) {w1 : World} (hg : w.grownBy w1 none) {oc : Option Nat} (ho : oc = none ∨ oc = some w.heap.size ∧ w.heap.size < w1.heap.size) : AtO S0 w0 (oc.toList ++ x) b e cs fs w1 := by
  have hk : Kp S0 w0 w1 := h.kp.grown hg fun k e => by cases e
  have hb : ∀ k, k < w.heap.size → w1.heap[k]? = w.heap[k]? := fun k hk => hg.block k hk (by simp)
  rcases ho with rfl | ⟨rfl, h2⟩
  · exact h.same hk hg.size fun k hk _ => hb k hk
  · exact h.avoid hk hg.size (fun k hk _ => hb k hk) (Nat.le_refl _) h2
/-- A block that it kept clear of becomes the block of one of its slices. -/
theorem AtO.adopt (h : AtO S0 w0 x b e cs fs w) (k : Nat) (hk : k < fs.length) (f' : Fld) (o' : Option Nat) (y : List Nat) (hs' : f'.at w o') (hg : ∀ g, o' = some g → g ∈ x ∧ (g ∈ S0 ∨ w0.heap.size ≤ g) ∧ g ∉ y) (hy : ∀ z, z ∈ y → z ∈ x) :
    AtO S0 w0 y b e cs (fs.set k f') w := by
  obtain ⟨os, h, hkp, hbS, ht, hx⟩ := h
  have hkl : k < os.length := by rw [h.len]; exact hk
  have key : ∀ j, (os.set k o')[j]? = if j = k then some o' else os[j]? := fun j => by
    by_cases hj : j = k
    · subst hj; rw [if_pos rfl, List.getElem?_set_self hkl]
    · rw [if_neg hj, List.getElem?_set_ne (Ne.symm hj)]
  have keyf : ∀ j, (fs.set k f')[j]? = if j = k then some f' else fs[j]? := fun j => by
    by_cases hj : j = k
    · subst hj; rw [if_pos rfl, List.getElem?_set_self hk]
    · rw [if_neg hj, List.getElem?_set_ne (Ne.symm hj)]
  refine ⟨os.set k o', ⟨h.blk, by rw [List.length_set, List.length_set]; exact h.len, ?_, ?_, ?_⟩, hkp, hbS, ?_, ?_⟩
  · intro j f1 o1 hf1 ho1
    rw [key] at ho1; rw [keyf] at hf1
    by_cases hj : j = k
    · rw [if_pos hj] at ho1 hf1; cases ho1; cases hf1; exact hs'
    · rw [if_neg hj] at ho1 hf1
      exact h.sl j f1 o1 hf1 ho1
  · intro j c
    rw [key] at c
    split at c
    · exact (hx b (hg b (by simpa using c)).1).2.1 rfl
    · exact h.notB j c
  · intro i j g hi hj
    rw [key] at hi hj
    split at hi <;> split at hj
    · omega
    · exact absurd hj ((hx g (hg g (by simpa using hi)).1).2.2 j)
    · exact absurd hi ((hx g (hg g (by simpa using hj)).1).2.2 i)
    · exact h.inj i j g hi hj
  · intro j g c
    rw [key] at c
    split at c
    · exact (hg g (by simpa using c)).2.1
    · exact ht j g c
  · intro g e'
    have := hx g (hy g e')
    refine ⟨this.1, this.2.1, fun j c => ?_⟩
    rw [key] at c
    split at c
    · exact (hg g (by simpa using c)).2.2 e'
    · exact this.2.2 j c
end
end Go.Clk
namespace Go.Clk
open Go

/-- Is a flag (a power of 2) set? -/
def bit (s k : Int) : Bool := s / k % 2 == 1

structure Ent where
  b : UInt8
  fin : Bool
  file : Bool
  cells : Int

structure St where
  ss : List Int
  inq : List Ent
  out : List UInt8
  urg : List UInt8
  col : Int
  stopped : Bool
  held : Bool
  quoted : Bool
  noted : List Int
  reads : Bool
  ended : Bool
  n : Int
  data : List UInt8
  wait : Int

def entCells (e : Ent) : List Value := [.int .u8 e.b.toNat, .bool e.fin, .bool e.file, .int .i64 e.cells]
def ents (l : List Ent) : List Value := l.flatMap entCells
def bys (l : List UInt8) : List Value := l.map fun b => .int .u8 b.toNat
def i64s (l : List Int) : List Value := l.map fun n => .int .i64 n

theorem bys_len (l : List UInt8) : (bys l).length = l.length * 1 := by simp [bys]
theorem i64s_len (l : List Int) : (i64s l).length = l.length * 1 := by simp [i64s]
theorem ents_len (l : List Ent) : (ents l).length = l.length * 4 := by
  unfold ents
  induction l with
  | nil => rfl
  | cons a l ih => rw [List.flatMap_cons, List.length_append, ih]; simp [entCells]; omega
theorem bys_app (l k : List UInt8) : bys (l ++ k) = bys l ++ bys k := by simp [bys]
theorem i64s_app (l k : List Int) : i64s (l ++ k) = i64s l ++ i64s k := by simp [i64s]
theorem ents_app (l k : List Ent) : ents (l ++ k) = ents l ++ ents k := by simp [ents]
theorem bys_one (l : List UInt8) : ∀ u ∈ bys l, u.oneCell' = true := by
  intro u hu; obtain ⟨_, _, rfl⟩ := List.mem_map.1 hu; rfl
theorem i64s_one (l : List Int) : ∀ u ∈ i64s l, u.oneCell' = true := by
  intro u hu; obtain ⟨_, _, rfl⟩ := List.mem_map.1 hu; rfl
theorem ents_one (l : List Ent) : ∀ u ∈ ents l, u.oneCell' = true := by
  intro u hu; obtain ⟨e, _, h⟩ := List.mem_flatMap.1 hu
  simp only [entCells, List.mem_cons, List.not_mem_nil, or_false] at h
  rcases h with rfl | rfl | rfl | rfl <;> rfl

/-- The k-th of some numbers. -/
def gt (s : List Int) (k : Nat) : Int := s.getD k 0
namespace St
def i (σ : St) : Int := gt σ.ss 0
def o (σ : St) : Int := gt σ.ss 1
def l (σ : St) : Int := gt σ.ss 2
def ch (σ : St) (k : Nat) : Int := gt σ.ss (3 + k)
end St

/-- The column behind a byte that goes into the output queue. -/
def moved (flags col : Int) (c : UInt8) : Int :=
  if c.toNat = 8 then (if 0 < col then col - 1 else col)
  else if c.toNat = 9 then col - col % 8 + 8
  else if c.toNat = 13 then 0
  else if c.toNat = 10 then (if bit flags 1 && bit flags 16 then 0 else col)
  else if c.toNat < 32 ∨ c.toNat = 127 then col
  else col + 1

/-- What a byte becomes. -/
def become (flags col : Int) (c : UInt8) : List UInt8 :=
  if bit flags 1 then
    if bit flags 32 && decide (97 ≤ c.toNat ∧ c.toNat ≤ 122) then [c - 32]
    else if decide (c.toNat = 10) && bit flags 2 then [13, 10]
    else if decide (c.toNat = 13) && (bit flags 8 && decide (col = 0)) then []
    else if decide (c.toNat = 13) && bit flags 4 then [10]
    else if decide (c.toNat = 9) && bit flags 64 then List.replicate (8 - col % 8).toNat 32
    else [c]
  else [c]

def moves (flags col : Int) (l : List UInt8) : Int := l.foldl (moved flags) col

namespace St
def sent (σ : St) (c : UInt8) : St := { σ with out := σ.out ++ [c], col := moved σ.o σ.col c }
def sents (σ : St) (l : List UInt8) : St := { σ with out := σ.out ++ l, col := moves σ.o σ.col l }
def puts (σ : St) (c : UInt8) : St := σ.sents (become σ.o σ.col c)
def putAll (σ : St) (l : List UInt8) : St := l.foldl puts σ
def put (σ : St) (l : List UInt8) : St × Bool := if 256 < (σ.putAll l).out.length then (σ, false) else (σ.putAll l, true)
/-- Write: how many are put out. -/
def write (σ : St) : List UInt8 → St × Nat
  | [] => (σ, 0)
  | c :: r => if (σ.put [c]).2 then (((σ.put [c]).1.write r).1, ((σ.put [c]).1.write r).2 + 1) else (σ, 0)
def drain (σ : St) (n : Nat) : St × List UInt8 :=
  let u := σ.urg.take n
  if σ.stopped then ({ σ with urg := σ.urg.drop n }, u)
  else ({ σ with urg := σ.urg.drop n, out := σ.out.drop (n - u.length) }, u ++ σ.out.take (n - u.length))
end St

/-- What a terminal keeps to: the flags are in their range, the column is below a bound. -/
structure Ok (σ : St) (C : Int) : Prop where
  len : σ.ss.length = 17
  i0 : 0 ≤ σ.i
  i1 : σ.i < 8192
  o0 : 0 ≤ σ.o
  o1 : σ.o < 8192
  l0 : 0 ≤ σ.l
  l1 : σ.l < 8192
  ch : ∀ k, 0 ≤ σ.ch k ∧ σ.ch k < 256
  c0 : 0 ≤ σ.col
  c1 : σ.col ≤ C

theorem moved_nonneg (f : Int) {col : Int} (h : 0 ≤ col) (c : UInt8) : 0 ≤ moved f col c ∧ moved f col c ≤ col + 8 := by
  unfold moved
  repeat' split
  all_goals omega
theorem moves_nonneg (f : Int) (l : List UInt8) : ∀ {col : Int}, 0 ≤ col → 0 ≤ moves f col l ∧ moves f col l ≤ col + 8 * l.length := by
  induction l with
  | nil => intro col h; simp [moves]; exact h
  | cons c l ih =>
    intro col h
    have h1 := moved_nonneg f h c
    have h2 := ih h1.1
    simp only [moves, List.foldl_cons, List.length_cons] at *
    omega
theorem moves_app (f col : Int) (l k : List UInt8) : moves f col (l ++ k) = moves f (moves f col l) k := by simp [moves]
theorem become_len (f : Int) {col : Int} (_h : 0 ≤ col) (c : UInt8) : (become f col c).length ≤ 8 := by
  unfold become
  repeat' split
  all_goals simp
  omega

theorem sent_eq (σ : St) (c : UInt8) : σ.sent c = σ.sents [c] := rfl
theorem sents_nil (σ : St) : σ.sents [] = σ := by simp [St.sents, moves]
theorem sents_app (σ : St) (l k : List UInt8) : (σ.sents l).sents k = σ.sents (l ++ k) := by
  simp [St.sents, moves_app, St.o]
theorem Ok.sents {σ : St} {C : Int} (h : Ok σ C) (l : List UInt8) : Ok (σ.sents l) (C + 8 * l.length) :=
  ⟨h.len, h.i0, h.i1, h.o0, h.o1, h.l0, h.l1, h.ch, (moves_nonneg _ l h.c0).1, by have := (moves_nonneg σ.o l h.c0).2; have := h.c1; show moves σ.o σ.col l ≤ _; omega⟩
theorem Ok.mono {σ : St} {C D : Int} (h : Ok σ C) (hd : C ≤ D) : Ok σ D := ⟨h.len, h.i0, h.i1, h.o0, h.o1, h.l0, h.l1, h.ch, h.c0, by have := h.c1; omega⟩
theorem Ok.puts {σ : St} {C : Int} (h : Ok σ C) (c : UInt8) : Ok (σ.puts c) (C + 64) := (h.sents _).mono (by have := become_len σ.o h.c0 c; omega)
theorem Ok.putAll (l : List UInt8) : ∀ {σ : St} {C : Int}, Ok σ C → Ok (σ.putAll l) (C + 64 * l.length) := by
  induction l with
  | nil => intro σ C h; simpa [St.putAll] using h
  | cons c l ih =>
    intro σ C h
    have := ih (h.puts c)
    simp only [St.putAll, List.foldl_cons, List.length_cons] at *
    exact this.mono (by omega)

section
variable {f col : Int} {c : UInt8}
theorem mv8p (h : ((c.toNat : Int) == 8) = true) (h0 : 0 < col) : moved f col c = col - 1 := by
  have : c.toNat = 8 := by simp at h; omega
  simp [moved, this, h0]
theorem mv8n (h : ((c.toNat : Int) == 8) = true) (h0 : col ≤ 0) : moved f col c = col := by
  have : c.toNat = 8 := by simp at h; omega
  simp [moved, this]; omega
theorem mv9 (_h : ((c.toNat : Int) == 8) = false) (h : ((c.toNat : Int) == 9) = true) : moved f col c = col - col % 8 + 8 := by
  have : c.toNat = 9 := by simp at h; omega
  simp [moved, this]
theorem mv13 (_h : ((c.toNat : Int) == 8) = false) (_h9 : ((c.toNat : Int) == 9) = false) (h : ((c.toNat : Int) == 13) = true) : moved f col c = 0 := by
  have : c.toNat = 13 := by simp at h; omega
  simp [moved, this]
theorem mv10a (_h : ((c.toNat : Int) == 8) = false) (_h9 : ((c.toNat : Int) == 9) = false) (_h13 : ((c.toNat : Int) == 13) = false) (h : ((c.toNat : Int) == 10) = true) (h1 : bit f 1 = true) (h2 : bit f 16 = true) : moved f col c = 0 := by
  have : c.toNat = 10 := by simp at h; omega
  simp [moved, this, h1, h2]
theorem mv10b (_h : ((c.toNat : Int) == 8) = false) (_h9 : ((c.toNat : Int) == 9) = false) (_h13 : ((c.toNat : Int) == 13) = false) (h : ((c.toNat : Int) == 10) = true) (h2 : bit f 16 = false) : moved f col c = col := by
  have : c.toNat = 10 := by simp at h; omega
  simp [moved, this, h2]
theorem mv10c (_h : ((c.toNat : Int) == 8) = false) (_h9 : ((c.toNat : Int) == 9) = false) (_h13 : ((c.toNat : Int) == 13) = false) (h : ((c.toNat : Int) == 10) = true) (h2 : ¬ bit f 1 = true) : moved f col c = col := by
  have : c.toNat = 10 := by simp at h; omega
  simp [moved, this, h2]
theorem mv_else (h : ((c.toNat : Int) == 8) = false) (h9 : ((c.toNat : Int) == 9) = false) (h13 : ((c.toNat : Int) == 13) = false) (h10 : ((c.toNat : Int) == 10) = false) : moved f col c = if c.toNat < 32 ∨ c.toNat = 127 then col else col + 1 := by
  simp only [beq_eq_false_iff_ne, ne_eq] at h h9 h13 h10
  unfold moved
  rw [if_neg (by omega), if_neg (by omega), if_neg (by omega), if_neg (by omega)]
theorem mvp (h : ((c.toNat : Int) == 8) = false) (h9 : ((c.toNat : Int) == 9) = false) (h13 : ((c.toNat : Int) == 13) = false) (h10 : ((c.toNat : Int) == 10) = false) (h32 : 32 ≤ (c.toNat : Int)) (h127 : ((c.toNat : Int) != 127) = true) : moved f col c = col + 1 := by
  rw [mv_else h h9 h13 h10, if_neg]; simp at h127; omega
theorem mvd (h : ((c.toNat : Int) == 8) = false) (h9 : ((c.toNat : Int) == 9) = false) (h13 : ((c.toNat : Int) == 13) = false) (h10 : ((c.toNat : Int) == 10) = false) (_h32 : 32 ≤ (c.toNat : Int)) (h127 : ((c.toNat : Int) != 127) = false) : moved f col c = col := by
  rw [mv_else h h9 h13 h10, if_pos]; simp at h127; omega
theorem mvc (h : ((c.toNat : Int) == 8) = false) (h9 : ((c.toNat : Int) == 9) = false) (h13 : ((c.toNat : Int) == 13) = false) (h10 : ((c.toNat : Int) == 10) = false) (h32 : (c.toNat : Int) < 32) : moved f col c = col := by
  rw [mv_else h h9 h13 h10, if_pos]; omega
end

theorem moves_blanks (f col : Int) (j : Nat) : moves f col (List.replicate j 32) = col + j := by
  induction j with
  | zero => simp [moves]
  | succ j ih =>
    rw [List.replicate_succ', moves_app, ih]
    show moved f (col + j) 32 = _
    have : moved f (col + j) 32 = col + j + 1 := by simp [moved]
    rw [this]; omega
theorem sents_col (σ : St) (l : List UInt8) : (σ.sents l).col = moves σ.o σ.col l := rfl
theorem sents_out (σ : St) (l : List UInt8) : (σ.sents l).out = σ.out ++ l := rfl
theorem sents_o (σ : St) (l : List UInt8) : (σ.sents l).o = σ.o := rfl

theorem putAll_snoc (σ : St) (l : List UInt8) (c : UInt8) : σ.putAll (l ++ [c]) = (σ.putAll l).puts c := by simp [St.putAll]
theorem puts_back (σ : St) (c : UInt8) : { σ.puts c with out := σ.out, col := σ.col } = σ := rfl
theorem putAll_back (σ : St) (l : List UInt8) : ∃ o c, σ.putAll l = { σ with out := o, col := c } := by
  suffices h : ∀ (l : List UInt8) (τ : St), (∃ o c, τ = { σ with out := o, col := c }) → ∃ o c, l.foldl St.puts τ = { σ with out := o, col := c } from h l σ ⟨σ.out, σ.col, rfl⟩
  intro l
  induction l with
  | nil => intro τ h; exact h
  | cons c l ih =>
    rintro τ ⟨o, k, rfl⟩
    exact ih _ ⟨_, _, rfl⟩
theorem putAll_out (l : List UInt8) : ∀ {σ : St}, 0 ≤ σ.col → (σ.putAll l).out.length ≤ σ.out.length + 8 * l.length := by
  induction l with
  | nil => intro σ _; simp [St.putAll]
  | cons c l ih =>
    intro σ h
    have h1 := become_len σ.o h c
    have h2 := ih (σ := σ.puts c) (moves_nonneg σ.o _ h).1
    have h3 : (σ.puts c).out.length = σ.out.length + (become σ.o σ.col c).length := by simp [St.puts, St.sents]
    simp only [St.putAll, List.foldl_cons, List.length_cons] at *
    omega

theorem put_ok {σ : St} {C : Int} (h : Ok σ C) (c : UInt8) (hp : (σ.put [c]).2 = true) : Ok (σ.put [c]).1 (C + 8 * ((σ.put [c]).1.out.length - σ.out.length)) ∧ (σ.put [c]).1.out.length ≤ 256 ∧ σ.out.length ≤ (σ.put [c]).1.out.length := by
  unfold St.put at hp ⊢
  split at hp
  · cases hp
  · rename_i hb
    rw [if_neg hb]
    have e : σ.putAll [c] = σ.sents (become σ.o σ.col c) := rfl
    have h1 := h.sents (become σ.o σ.col c)
    have h2 : (σ.sents (become σ.o σ.col c)).out.length = σ.out.length + (become σ.o σ.col c).length := by simp [St.sents]
    refine ⟨?_, show (σ.putAll [c]).out.length ≤ 256 by omega, ?_⟩
    · show Ok (σ.putAll [c]) _
      rw [e]
      exact h1.mono (by rw [h2]; omega)
    · show _ ≤ (σ.putAll [c]).out.length
      rw [e, h2]; omega
theorem put_no {σ : St} (l : List UInt8) (hp : (σ.put l).2 = false) : (σ.put l).1 = σ := by
  unfold St.put at hp ⊢
  split at hp
  · rw [if_pos ‹_›]
  · cases hp
def firstS : List Int := [640, 3, 735, 3, 28, 26, 127, 23, 21, 4, 0, 17, 19, 22, 18, 1, 0]
def newS : St := { ss := firstS, inq := [], out := [], urg := [], col := 0, stopped := false, held := false, quoted := false, noted := [], reads := false, ended := false, n := 0, data := [], wait := 0 }
end Go.Clk
namespace Go.Clk
open Go Go.RowKit

/-- What the front is cut off of. -/
theorem Sl.cut {w : World} {e : TypeId} {size : Nat} {a : Option Addr} {n cap : Nat} {xs : List Value} {o : Option Nat} (h : Sl w e size (.slice a n cap) n xs o) (k : Nat) (hk : k ≤ n) :
    Sl w e size (.slice (if cap = k then a else a.map (·.add (k * size))) (n - k) (cap - k)) (n - k) (xs.drop (k * size)) o := by
  have hlen := h.1
  have hm : (n - k) * size = n * size - k * size := Nat.sub_mul n k size
  have hks : k * size ≤ n * size := Nat.mul_le_mul_right _ hk
  refine ⟨by rw [List.length_drop, hlen, hm], ?_⟩
  rcases h.2 with ⟨h1, h2, h3⟩ | ⟨g, off, cap', cur, h1, h2, h3, h4, h5, h6, h7⟩
  · cases h1
    obtain rfl : k = 0 := by omega
    exact .inl ⟨by simp, by omega, h3⟩
  · cases h1
    have hck : k * size ≤ cap * size := Nat.mul_le_mul_right _ (by omega)
    have hcm : (cap - k) * size = cap * size - k * size := Nat.sub_mul cap k size
    by_cases hc : cap = k
    · rw [if_pos hc]
      refine .inr ⟨g, off, cap - k, cur, rfl, h2, h3, by omega, by omega, by omega, ?_⟩
      obtain rfl : n = k := by omega
      have : xs.drop (n * size) = [] := List.drop_eq_nil_of_le (by omega)
      rw [this]; simp
    · rw [if_neg hc]
      refine .inr ⟨g, off + k * size, cap - k, cur, ?_, h2, h3, by omega, by omega, by omega, ?_⟩
      · simp [Addr.add_lit]
      · rw [← h7, List.drop_take, hm, List.drop_drop]
/-- What the back is cut off of. -/
theorem Sl.front {w : World} {e : TypeId} {size : Nat} {a : Option Addr} {n cap : Nat} {xs : List Value} {o : Option Nat} (h : Sl w e size (.slice a n cap) n xs o) (k : Nat) (hk : k ≤ n) :
    Sl w e size (.slice a k cap) k (xs.take (k * size)) o := by
  have hlen := h.1
  have hks : k * size ≤ n * size := Nat.mul_le_mul_right _ hk
  refine ⟨by rw [List.length_take, hlen]; omega, ?_⟩
  rcases h.2 with ⟨h1, h2, h3⟩ | ⟨g, off, cap', cur, h1, h2, h3, h4, h5, h6, h7⟩
  · cases h1
    obtain rfl : k = 0 := by omega
    exact .inl ⟨rfl, rfl, h3⟩
  · cases h1
    refine .inr ⟨g, off, cap, cur, rfl, h2, h3, by omega, h5, h6, ?_⟩
    rw [← h7, List.take_take, Nat.min_eq_left hks]

theorem wpList_cut {P : Program} {w : World} {ops : Array Oper} {rest : List Oper} {op : Oper} {act : Act} {Q : Exit → Act → World → Prop} (hgd : op.guard = none) (x : Operand) (lo : Operand) (t : TypeId)
    (hop : op.op = .slice t x (some lo) none none) {e : TypeId} {size : Nat} (i : TypeInfo) (ht : P.underlying t = some (.slice e)) (hi : P.info? e = some i) (hsize : i.size = size)
    {a : Option Addr} {n cap : Nat} {xs : List Value} {o : Option Nat} (hx : act.eval x = .slice a n cap) (h : Sl w e size (.slice a n cap) n xs o) (k : Int) (hlo : act.eval lo = .int .i64 k) (hk0 : 0 ≤ k) (hk : k ≤ n)
    (hK : ∀ a' cap', Sl w e size (.slice a' (n - k.toNat) cap') (n - k.toNat) (xs.drop (k.toNat * size)) o → wpList P ops Q rest (act.put op.dst (.slice a' (n - k.toNat) cap')) w) : wpList P ops Q (op :: rest) act w := by
  refine wpList_plain hgd fun K hK' => ?_
  have h1 := h.cut k.toNat (by omega)
  obtain ⟨_, _, _, hnc, hcm⟩ := h.shape
  unfold Oper.wp
  have hr : (Instr.sliceAt t (.slice a n cap) (some (.int .i64 k)) none none).run P w = .ok (.slice (if cap = k.toNat then a else a.map (·.add (k.toNat * size))) (n - k.toNat) (cap - k.toNat)) w := by
    have hle : k ≤ (n : Int) := hk
    simp [Instr.sliceAt, Instr.slice, run_underlying ht, Instr.sliceBounds, Instr.sliceBound, asIntOf, hk0, hle, sizeOf, typeInfo, hi, hsize]
  simp [execOp, hop, hx, hlo, hr, Result.andThen]
  exact hK' _ _ (hK _ _ h1)
theorem wpList_front {P : Program} {w : World} {ops : Array Oper} {rest : List Oper} {op : Oper} {act : Act} {Q : Exit → Act → World → Prop} (hgd : op.guard = none) (x : Operand) (hi' : Operand) (t : TypeId)
    (hop : op.op = .slice t x none (some hi') none) {e : TypeId} {size : Nat} (i : TypeInfo) (ht : P.underlying t = some (.slice e)) (hi : P.info? e = some i)
    {a : Option Addr} {n cap : Nat} {xs : List Value} {o : Option Nat} (hx : act.eval x = .slice a n cap) (h : Sl w e size (.slice a n cap) n xs o) (k : Int) (hlo : act.eval hi' = .int .i64 k) (hk0 : 0 ≤ k) (hk : k ≤ n)
    (hK : Sl w e size (.slice a k.toNat cap) k.toNat (xs.take (k.toNat * size)) o → wpList P ops Q rest (act.put op.dst (.slice a k.toNat cap)) w) : wpList P ops Q (op :: rest) act w := by
  refine wpList_plain hgd fun K hK' => ?_
  have h1 := h.front k.toNat (by omega)
  obtain ⟨a0, c0, e0, hnc, hcm⟩ := h.shape
  cases e0
  unfold Oper.wp
  have hr : (Instr.sliceAt t (.slice a n cap) none (some (.int .i64 k)) none).run P w = .ok (.slice a k.toNat cap) w := by
    have hle : k ≤ (cap : Int) := by omega
    simp [Instr.sliceAt, Instr.slice, run_underlying ht, Instr.sliceBounds, Instr.sliceBound, asIntOf, hk0, hle, sizeOf, typeInfo, hi]
    intro; cases a <;> simp [Addr.add]
  simp [execOp, hop, hx, hlo, hr, Result.andThen]
  exact hK' _ _ (hK h1)

theorem push_all (ns : List UInt8) : ∀ s : ByteArray, (ns.map fun b : UInt8 => ((b.toNat : Nat) : Int)).foldl (fun r n => r.push (UInt8.ofNat n.toNat)) s = ⟨s.data ++ ns.toArray⟩ := by
  induction ns with
  | nil => intro s; simp
  | cons a ns ih =>
    intro s
    simp only [List.map_cons, List.foldl_cons]
    rw [ih]
    simp [ByteArray.push]
/-- The string of these bytes. -/
def str (l : List UInt8) : ByteArray := ⟨l.toArray⟩
theorem wpList_string {P : Program} {w : World} {ops : Array Oper} {rest : List Oper} {op : Oper} {act : Act} {Q : Exit → Act → World → Prop} (hgd : op.guard = none) (x : Operand) (src dst : TypeId)
    (hop : op.op = .convert src dst x) {e : TypeId} (hs : P.underlying src = some (.slice e)) (he : P.underlying e = some (.int .u8)) (hd : P.underlying dst = some .string)
    {v : Value} {n : Nat} {l : List UInt8} {o : Option Nat} (hx : act.eval x = v) (h : Sl w e 1 v n (bys l) o)
    (hK : wpList P ops Q rest (act.put op.dst (.string (str l))) w) : wpList P ops Q (op :: rest) act w := by
  refine wpList_plain hgd fun K hK' => ?_
  have hr : (convert src dst v).run P w = .ok (.string (str l)) w := by
    have hlen := h.1
    rcases h.2 with ⟨rfl, rfl, _⟩ | ⟨g, off, cap', cur, rfl, _⟩
    · have : l = [] := List.eq_nil_of_length_eq_zero (by simpa [bys] using hlen)
      subst this
      rw [run_convert_bytes_string w src dst e none 0 0 hs he hd]
      rfl
    · rw [run_convert_bytes_string w src dst e _ n cap' hs he hd]
      have hb : bys l = (l.map fun b : UInt8 => ((b.toNat : Nat) : Int)).map (Value.int .u8) := by simp [bys]
      have hf := run_firstCells_some (P := P) w 1 n ⟨g, off, none⟩ n cap' (bys l) hlen (fun j u hu => by rw [Addr.add_lit]; exact (h.cells rfl j hu).1)
      have hl : (loadCells ⟨g, off, none⟩ n).run P w = .ok (bys l).toArray w := by simpa [Builtin.firstCells] using hf
      rw [hb] at hl
      rw [run_bytesToString w _ n cap' _ hl, push_all]
      simp [str]
  unfold Oper.wp
  simp [execOp, hop, hx, hr, Result.andThen]
  exact hK' _ _ hK

/-- A new object whose slices are all nil. -/
theorem AtO.made (w : World) (cs : List Value) (e : TypeId) (fs : List Fld) (hfs : ∀ (k : Nat) (f : Fld), fs[k]? = some f → f.v = .slice none 0 0 ∧ f.n = 0 ∧ f.xs = []) :
    AtO [] w [] w.heap.size e cs fs (w.alloc (.cells cs.toArray e)) := by
  have hn : ∀ (k : Nat) (o : Option Nat), (List.replicate fs.length (none : Option Nat))[k]? = some o → o = none := fun k o h => by
    rw [List.getElem?_replicate] at h; split at h <;> simp_all
  refine ⟨List.replicate fs.length none, ⟨Blk.new w cs e, by simp, fun k f o hf ho => ?_, (fun k h => by have := hn _ _ h; cases this), (fun k j g h _ => by have := hn _ _ h; cases this)⟩, (Kp.refl [] w).alloc _, .inr (Nat.le_refl _), (fun k g h => by have := hn _ _ h; cases this), (fun g h => by cases h)⟩
  obtain ⟨h1, h2, h3⟩ := hfs k f hf
  rw [hn k o ho]
  unfold Fld.at
  rw [h1, h2, h3]
  exact Sl.nil _ _ _
/-- A struct handed over by value lies in a box. -/
theorem wpList_box {P : Program} {w : World} {ops : Array Oper} {rest : List Oper} {op : Oper} {act : Act} {Q : Exit → Act → World → Prop} (hgd : op.guard = none) (x : Operand) (t : TypeId)
    (hop : op.op = .box t x) (cs : List Value) (hx : act.eval x = .agg cs.toArray)
    (hK : ∀ (W : World) (B : Nat), Hid (B = w.heap.size ∧ W = w.alloc (.cells cs.toArray t)) → wpList P ops Q rest (act.put op.dst (.pointer (some ⟨B, 0, none⟩))) W) : wpList P ops Q (op :: rest) act w := by
  refine wpList_plain hgd fun K hK' => ?_
  unfold Oper.wp
  have hr : (Instr.box t (.agg cs.toArray)).run P w = .ok (.pointer (some ⟨w.heap.size, 0, none⟩)) (w.alloc (.cells cs.toArray t)) := by
    simp [Instr.box, newVar, newRow, Value.cells]
  simp [execOp, hop, hx, hr, Result.andThen]
  exact hK' _ _ (hK _ _ ⟨rfl, rfl⟩)

/-- Nothing old turns, then only what is new: nothing old turns. -/
theorem grownBy_then {w w1 w2 : World} {o : Option Nat} (h : w.grownBy w1 none) (k : w1.grownBy w2 o) (ho : ∀ g, o = some g → w.heap.size ≤ g) : w.grownBy w2 none :=
  ⟨k.os.trans h.os, k.tape.trans h.tape, k.output.trans h.output, Nat.le_trans h.size k.size, fun i hi _ => (k.block i (Nat.lt_of_lt_of_le hi h.size) fun e => by have := ho i e.symm; omega).trans (h.block i hi (by simp))⟩
end Go.Clk
namespace Go.Clk
open Go
def lim (k : Nat) : Int := if k = 0 then 8192 else if k = 1 then 128 else if k = 2 then 1024 else 256
/-- The settings, of which the first k are new. -/
def partS (ss s : List Int) (k : Nat) : List Int := (List.range 17).map fun i => if i < k then gt s i % lim i else gt ss i
def normS (s : List Int) : List Int := (List.range 17).map fun i => gt s i % lim i
theorem partS_len (ss s : List Int) (k : Nat) : (partS ss s k).length = 17 := by simp [partS]
theorem partS_zero (ss s : List Int) (h : ss.length = 17) : partS ss s 0 = ss := by
  apply List.ext_getElem?
  intro i
  unfold partS
  rw [List.getElem?_map]
  by_cases hi : i < 17
  · rw [List.getElem?_range hi, List.getElem?_eq_getElem (by omega)]
    simp [gt, List.getD, List.getElem?_eq_getElem (show i < ss.length by omega)]
  · rw [List.getElem?_eq_none (by simpa using hi), List.getElem?_eq_none (by omega)]; rfl
theorem partS_set (ss s : List Int) (k : Nat) (hk : k < 17) : (partS ss s k).set k (gt s k % lim k) = partS ss s (k + 1) := by
  apply List.ext_getElem?
  intro i
  rw [List.getElem?_set]
  have hl := partS_len ss s k
  unfold partS at *
  rw [List.getElem?_map, List.getElem?_map]
  by_cases hi : i < 17
  · rw [List.getElem?_range hi]
    by_cases e : k = i
    · subst e; simp [hi]
    · rw [if_neg e]; simp only [Option.map_some, Option.some.injEq]
      by_cases h : i < k
      · rw [if_pos h, if_pos (by omega)]
      · rw [if_neg h, if_neg (by omega)]
  · rw [List.getElem?_eq_none (by simp; omega)]; simp; omega
theorem partS_all (ss s : List Int) : partS ss s 17 = normS s := by
  unfold partS normS
  apply List.map_congr_left
  intro i hi
  rw [if_pos (by simpa using hi)]
theorem partS_get (ss s : List Int) (k i : Nat) (hi : i < 17) : gt (partS ss s k) i = if i < k then gt s i % lim i else gt ss i := by
  unfold partS
  simp [gt, List.getD, List.getElem?_map, List.getElem?_range hi]

/-- What bytes become, and the column behind them. -/
def renderL (f col : Int) (l : List UInt8) : List UInt8 × Int := l.foldl (fun p c => (p.1 ++ become f p.2 c, moves f p.2 (become f p.2 c))) ([], col)
theorem renderL_snoc (f col : Int) (l : List UInt8) (c : UInt8) : renderL f col (l ++ [c]) = ((renderL f col l).1 ++ become f (renderL f col l).2 c, moves f (renderL f col l).2 (become f (renderL f col l).2 c)) := by simp [renderL]
theorem renderL_col (f : Int) {col : Int} (h : 0 ≤ col) (l : List UInt8) : 0 ≤ (renderL f col l).2 ∧ (renderL f col l).2 ≤ col + 64 * l.length ∧ (renderL f col l).1.length ≤ 8 * l.length := by
  suffices H : ∀ (l : List UInt8) (p : List UInt8 × Int), 0 ≤ p.2 → 0 ≤ (l.foldl (fun p c => (p.1 ++ become f p.2 c, moves f p.2 (become f p.2 c))) p).2 ∧
      (l.foldl (fun p c => (p.1 ++ become f p.2 c, moves f p.2 (become f p.2 c))) p).2 ≤ p.2 + 64 * l.length ∧ (l.foldl (fun p c => (p.1 ++ become f p.2 c, moves f p.2 (become f p.2 c))) p).1.length ≤ p.1.length + 8 * l.length by
    have := H l ([], col) h
    simpa [renderL] using this
  intro l
  induction l with
  | nil => intro p h; simp; exact h
  | cons c l ih =>
    intro p h
    have h1 := moves_nonneg f (become f p.2 c) h
    have h2 := become_len f h c
    have h3 := ih (p.1 ++ become f p.2 c, moves f p.2 (become f p.2 c)) h1.1
    simp only [List.foldl_cons, List.length_cons, List.length_append] at *
    omega
theorem putAll_render (l : List UInt8) (σ : St) : σ.putAll l = { σ with out := σ.out ++ (renderL σ.o σ.col l).1, col := (renderL σ.o σ.col l).2 } := by
  suffices H : ∀ (l : List UInt8) (p : List UInt8 × Int) (τ : St), τ = { σ with out := σ.out ++ p.1, col := p.2 } →
      l.foldl St.puts τ = { σ with out := σ.out ++ (l.foldl (fun p c => (p.1 ++ become σ.o p.2 c, moves σ.o p.2 (become σ.o p.2 c))) p).1, col := (l.foldl (fun p c => (p.1 ++ become σ.o p.2 c, moves σ.o p.2 (become σ.o p.2 c))) p).2 } by
    exact H l ([], σ.col) σ (by simp)
  intro l
  induction l with
  | nil => intro p τ h; simpa using h
  | cons c l ih =>
    intro p τ h
    simp only [List.foldl_cons]
    apply ih
    subst h
    simp [St.puts, St.sents, St.o]
end Go.Clk
namespace Go.Clk
open Go
theorem write_inv (l : List UInt8) : ∀ {σ : St} {C : Int}, Ok σ C → σ.out.length ≤ 256 → Ok (σ.write l).1 (C + 8 * ((σ.write l).1.out.length - σ.out.length)) ∧ (σ.write l).1.out.length ≤ 256 ∧ σ.out.length ≤ (σ.write l).1.out.length ∧ ∃ o k, (σ.write l).1 = { σ with out := o, col := k } := by
  induction l with
  | nil => intro σ C ok h; simp only [St.write]; exact ⟨ok.mono (by omega), h, Nat.le_refl _, σ.out, σ.col, rfl⟩
  | cons c r ih =>
    intro σ C ok h
    simp only [St.write]
    by_cases hp : (σ.put [c]).2 = true
    · rw [if_pos hp]
      dsimp only
      obtain ⟨q1, q2, q3⟩ := put_ok ok c hp
      obtain ⟨p1, p2, p3, o, k, p4⟩ := ih q1 q2
      have e : ∃ o1 k1, (σ.put [c]).1 = { σ with out := o1, col := k1 } := by
        unfold St.put at hp ⊢
        split at hp
        · cases hp
        · rw [if_neg ‹_›]
          exact putAll_back σ [c]
      obtain ⟨o1, k1, e⟩ := e
      refine ⟨p1.mono (by omega), p2, by omega, o, k, ?_⟩
      rw [p4, e]
    · rw [if_neg hp]
      dsimp only
      exact ⟨ok.mono (by omega), h, Nat.le_refl _, σ.out, σ.col, rfl⟩
end Go.Clk
namespace Go.Clk
open Go
theorem normS_len (s : List Int) : (normS s).length = 17 := by simp [normS]
theorem normS_get (s : List Int) (k : Nat) (hk : k < 17) : gt (normS s) k = gt s k % lim k := by
  unfold normS gt List.getD
  rw [List.getElem?_map, List.getElem?_range hk]
  rfl
structure IP (C : Int) (σ : St) : Prop where
  ok : Ok σ C
  out : σ.out.length ≤ 256
  urg : σ.urg.length ≤ 1000000000
  reads : σ.reads = false
  held : σ.held = false
  fl : bit σ.i 2048 = false
theorem IP.mono {C D : Int} {σ : St} (h : IP C σ) (hd : C ≤ D) : IP D σ := ⟨h.ok.mono hd, h.out, h.urg, h.reads, h.held, h.fl⟩
theorem IP.new : IP 0 newS := by
  refine ⟨⟨rfl, by decide, by decide, by decide, by decide, by decide, by decide, fun k => ?_, by decide, by decide⟩, by decide, by decide, rfl, rfl, by decide⟩
  rcases Nat.lt_or_ge k 14 with h | h
  · match k, h with
    | 0, _ | 1, _ | 2, _ | 3, _ | 4, _ | 5, _ | 6, _ | 7, _ | 8, _ | 9, _ | 10, _ | 11, _ | 12, _ | 13, _ => exact ⟨by decide, by decide⟩
  · have : newS.ch k = 0 := by
      unfold St.ch gt List.getD
      rw [List.getElem?_eq_none (by show firstS.length ≤ 3 + k; unfold firstS; simp; omega)]
      rfl
    omega
theorem IP.write {C : Int} {σ : St} (h : IP C σ) (l : List UInt8) : IP (C + 2048) (σ.write l).1 := by
  obtain ⟨h1, h2, h3, o, k, h4⟩ := write_inv l h.ok h.out
  refine ⟨h1.mono (by omega), h2, ?_, ?_, ?_, ?_⟩
  · rw [h4]; exact h.urg
  · rw [h4]; exact h.reads
  · rw [h4]; exact h.held
  · rw [h4]; exact h.fl
theorem IP.drain {C : Int} {σ : St} (h : IP C σ) (n : Nat) : IP C (σ.drain n).1 := by
  have o := h.ok
  unfold St.drain
  dsimp only
  split
  · exact ⟨⟨o.len, o.i0, o.i1, o.o0, o.o1, o.l0, o.l1, o.ch, o.c0, o.c1⟩, h.out, by have := h.urg; simp; omega, h.reads, h.held, h.fl⟩
  · exact ⟨⟨o.len, o.i0, o.i1, o.o0, o.o1, o.l0, o.l1, o.ch, o.c0, o.c1⟩, by have := h.out; simp; omega, by have := h.urg; simp; omega, h.reads, h.held, h.fl⟩
theorem IP.flags {C : Int} {σ : St} (h : IP C σ) (x : Int) (q : Bool) : IP C { σ with ss := normS (σ.ss.set 1 x), quoted := q } := by
  have o := h.ok
  have hl := o.len
  have g0 : gt (normS (σ.ss.set 1 x)) 0 = σ.i := by
    rw [normS_get _ 0 (by omega)]
    have : gt (σ.ss.set 1 x) 0 = σ.i := by simp [gt, St.i, List.getD]
    rw [this]; exact Int.emod_eq_of_lt o.i0 o.i1
  have g1 := normS_get (σ.ss.set 1 x) 1 (by omega)
  have g2 := normS_get (σ.ss.set 1 x) 2 (by omega)
  have l1 : lim 1 = 128 := rfl
  have l2 : lim 2 = 1024 := rfl
  refine ⟨⟨normS_len _, ?_, ?_, ?_, ?_, ?_, ?_, fun k => ?_, o.c0, o.c1⟩, h.out, h.urg, h.reads, h.held, ?_⟩
  · show 0 ≤ gt (normS (σ.ss.set 1 x)) 0; rw [g0]; exact o.i0
  · show gt (normS (σ.ss.set 1 x)) 0 < 8192; rw [g0]; exact o.i1
  · show 0 ≤ gt (normS (σ.ss.set 1 x)) 1; rw [g1, l1]; omega
  · show gt (normS (σ.ss.set 1 x)) 1 < 8192; rw [g1, l1]; omega
  · show 0 ≤ gt (normS (σ.ss.set 1 x)) 2; rw [g2, l2]; omega
  · show gt (normS (σ.ss.set 1 x)) 2 < 8192; rw [g2, l2]; omega
  · show 0 ≤ gt (normS (σ.ss.set 1 x)) (3 + k) ∧ gt (normS (σ.ss.set 1 x)) (3 + k) < 256
    rcases Nat.lt_or_ge k 14 with hk | hk
    · rw [normS_get _ (3 + k) (by omega)]
      have : lim (3 + k) = 256 := by unfold lim; rw [if_neg (by omega), if_neg (by omega), if_neg (by omega)]
      rw [this]; omega
    · have : gt (normS (σ.ss.set 1 x)) (3 + k) = 0 := by
        unfold gt List.getD
        rw [List.getElem?_eq_none (by rw [normS_len]; omega)]
        rfl
      omega
  · show bit (gt (normS (σ.ss.set 1 x)) 0) 2048 = false; rw [g0]; exact h.fl
end Go.Clk
namespace Go.Clk
open Go Go.RowKit

theorem wpList_load_part {P : Program} {w : World} {ops : Array Oper} {rest : List Oper} {op : Oper} {act : Act} {Q : Exit → Act → World → Prop} (hgd : op.guard = none) (x : Operand) (ty : TypeId)
    (hop : op.op = .load ty x) (g off : Nat) (hx : act.eval x = .pointer (some ⟨g, off, none⟩)) (cs : List Value) (d : TypeDesc) (hc : ∀ j v, cs[j]? = some v → w.cell? ⟨g, off + j, none⟩ = some v)
    (hu : P.underlying ty = some d) (hd : (match d with | .struct _ | .array _ _ => true | _ => false) = true) (hi : (P.info? ty).map (·.size) = some cs.length)
    (h : wpList P ops Q rest (act.put op.dst (.agg cs.toArray)) w) : wpList P ops Q (op :: rest) act w := by
  refine wpList_plain hgd fun K hK' => ?_
  have hl : (loadCells ⟨g, off, none⟩ cs.length).run P w = .ok cs.toArray w :=
    run_loadCells_list (P := P) w ⟨g, off, none⟩ cs (fun j v hv => by rw [Addr.add_lit]; exact hc j v hv)
  have hr : (loadVar ty ⟨g, off, none⟩).run P w = .ok (.agg cs.toArray) w := by
    cases hq : P.info? ty with
    | none => simp [hq] at hi
    | some i =>
      have hs : i.size = cs.length := by simpa [hq] using hi
      have hagg : (isAgg ty).run P w = .ok true w := by
        unfold isAgg
        rw [Sem.run_bind, run_underlying hu w]
        cases d <;> simp_all
      simp [loadVar, Sem.run_bind, hagg, sizeOf, typeInfo, hq, hs, hl]
  unfold Oper.wp execOp
  simp only [hop, hx, Instr.loadAt, Instr.sureAddr, Sem.run_bind, Sem.run_pure, Result.andThen_ok, hr]
  exact hK' _ _ h

theorem run_store_part {P : Program} (w : World) (t : TypeId) (B off : Nat) (e : TypeId) (old cs : List Value) (hb : Blk w B e old) (hl : off + cs.length ≤ old.length) (hi : (P.info? t).map (·.size) = some cs.length) (h1 : ∀ u ∈ cs, u.oneCell' = true) :
    (storeVar t ⟨B, off, none⟩ (.agg cs.toArray)).run P w = .ok () (w.setCells B off cs) := by
  cases hq : P.info? t with
  | none => simp [hq] at hi
  | some i =>
    have hs : i.size = cs.length := by simpa [hq] using hi
    have hst := run_storeCells_cells (P := P) B off cs 0 w (fun j hj => by rw [Nat.add_zero, hb.cell (off + j) (List.getElem?_eq_getElem (show off + j < old.length by omega))]; rfl) (fun j hj => hb.frozen _) h1
    simp only [Nat.add_zero] at hst
    simp [storeVar, Sem.run_bind, sizeOf, typeInfo, hq, hs, Value.cells, hst]
theorem setCells_blk (w : World) (B : Nat) (e : TypeId) (old cs : List Value) (off : Nat) (hb : Blk w B e old) (hl : off + cs.length ≤ old.length) : Blk (w.setCells B off cs) B e (old.take off ++ cs ++ old.drop (off + cs.length)) := by
  obtain ⟨cur', h1, h2⟩ := heap_setCells_same B e cs off w old.toArray hb (by simpa using hl)
  unfold Blk
  rw [h1]
  have : cur' = (old.take off ++ cs ++ old.drop (off + cs.length)).toArray := by apply Array.ext'; simpa using h2
  rw [this]
/-- A struct is stored over a whole block. -/
theorem wpList_store_whole {P : Program} {w : World} {ops : Array Oper} {rest : List Oper} {op : Oper} {act : Act} {Q : Exit → Act → World → Prop} (hgd : op.guard = none) (p x : Operand) (t : TypeId)
    (hop : op.op = .store t p x) (B : Nat) (hp : act.eval p = .pointer (some ⟨B, 0, none⟩)) (cs : List Value) (hx : act.eval x = .agg cs.toArray) (e : TypeId) (old : List Value) (hb : Blk w B e old) (hl : cs.length = old.length) (hi : (P.info? t).map (·.size) = some cs.length) (h1 : ∀ u ∈ cs, u.oneCell' = true)
    (h : ∀ W, Blk W B e cs → w.grownBy W (some B) → W.heap.size = w.heap.size → wpList P ops Q rest (act.put op.dst undef) W) : wpList P ops Q (op :: rest) act w := by
  refine wpList_plain hgd fun K hK' => ?_
  have hr := run_store_part (P := P) w t B 0 e old cs hb (by omega) hi h1
  have hB : Blk (w.setCells B 0 cs) B e cs := by
    have := setCells_blk w B e old cs 0 hb (by omega)
    simpa [List.drop_eq_nil_of_le (show old.length ≤ 0 + cs.length by omega), hl] using this
  unfold Oper.wp execOp
  simp only [hop, hp, hx, Instr.storeAt, Instr.sureAddr, Sem.run_bind, Sem.run_pure, Result.andThen_ok, hr]
  exact hK' _ _ (h _ hB ⟨World.os_setCells w B _ cs, tape_setCells B cs _ w, World.output_setCells w B _ cs, by rw [size_setCells]; exact Nat.le_refl _, fun k hk hne => World.heap_setCells_other w B _ cs hk (fun e => hne (by rw [e]))⟩ (size_setCells B cs _ w))

def setAll : List Value → Nat → List Value → List Value
  | cs, _, [] => cs
  | cs, o, v :: r => setAll (cs.set o v) (o + 1) r
theorem setAll_mid : ∀ (c p a q : List Value), a.length = c.length → setAll (p ++ (a ++ q)) p.length c = p ++ (c ++ q)
  | [], p, a, q, h => by
    have : a = [] := List.eq_nil_of_length_eq_zero (by simpa using h)
    subst this; rfl
  | v :: r, p, [], q, h => by simp at h
  | v :: r, p, u :: a, q, h => by
    have ih := setAll_mid r (p ++ [v]) a q (by simpa using h)
    unfold setAll
    have e1 : (p ++ (u :: a ++ q)).set p.length v = (p ++ [v]) ++ (a ++ q) := by
      rw [List.set_append_right _ _ (Nat.le_refl _)]; simp
    rw [e1]
    have e2 : (p ++ [v]).length = p.length + 1 := by simp
    rw [e2] at ih
    rw [ih]; simp
theorem AtO.sets {S0 : List Nat} {w0 : World} {x : List Nat} {b : Nat} {e : TypeId} {fs : List Fld} : ∀ (vs : List Value) (o : Nat) {w : World} {cs : List Value}, AtO S0 w0 x b e cs fs w → AtO S0 w0 x b e (setAll cs o vs) fs (w.setCells b o vs)
  | [], _, _, _, h => h
  | v :: r, o, _, _, h => AtO.sets r (o + 1) (h.set o v)
/-- A struct is stored into a part of an object. -/
theorem wpList_store_part {P : Program} {w : World} {ops : Array Oper} {rest : List Oper} {op : Oper} {act : Act} {Q : Exit → Act → World → Prop} (hgd : op.guard = none) (p x : Operand) (t : TypeId)
    (hop : op.op = .store t p x) (B off : Nat) (hp : act.eval p = .pointer (some ⟨B, off, none⟩)) (cs : List Value) (hx : act.eval x = .agg cs.toArray) (e : TypeId) (old : List Value) (hb : Blk w B e old) (hl : off + cs.length ≤ old.length) (hi : (P.info? t).map (·.size) = some cs.length) (h1 : ∀ u ∈ cs, u.oneCell' = true)
    (h : ∀ W, Hid (W = w.setCells B off cs) → wpList P ops Q rest (act.put op.dst undef) W) : wpList P ops Q (op :: rest) act w := by
  refine wpList_plain hgd fun K hK' => ?_
  have hr := run_store_part (P := P) w t B off e old cs hb hl hi h1
  unfold Oper.wp execOp
  simp only [hop, hp, hx, Instr.storeAt, Instr.sureAddr, Sem.run_bind, Sem.run_pure, Result.andThen_ok, hr]
  exact hK' _ _ (h _ rfl)

/-- What began later began here too, if nothing old has turned between. -/
theorem AtO.older {w w1 w' : World} {x : List Nat} {b : Nat} {e : TypeId} {cs : List Value} {fs : List Fld} (h : AtO [] w1 x b e cs fs w') (hg : w.grownBy w1 none) : AtO [] w x b e cs fs w' := by
  obtain ⟨os, h1, hk, hb, ht, hx⟩ := h
  have kk : Kp [] w w1 := ⟨hg.os, hg.tape, hg.output, hg.size, fun k hk _ => hg.block k hk (by simp)⟩
  refine ⟨os, h1, kk.trans hk (fun x hx => by cases hx), ?_, ?_, hx⟩
  · rcases hb with h | h
    · cases h
    · exact .inr (Nat.le_trans hg.size h)
  · intro k g hg'
    rcases ht k g hg' with h | h
    · cases h
    · exact .inr (Nat.le_trans hg.size h)

/-- 'append' onto an owned slice, inside a region that draws its order. -/
theorem step_append_sl {P : Program} {ops : Array Oper} {o : Oper} {a : Act} {w : World} {K : Act → World → Prop} {Q : Exit → Act → World → Prop} {E : Prop} (hgd : o.guard = none) (s x : Operand) (t tx : TypeId)
    (ho : o.op = .call { callee := .builtin .append, args := #[s, x], argTypes := #[t, tx] })
    {e : TypeId} {size : Nat} {v : Value} {n : Nat} {xs : List Value} {own : Option Nat} (h : Sl w e size v n xs own) (hv : a.eval s = v)
    (i : TypeInfo) (z : Value) (bytes : Nat) (ht : P.underlying t = some (.slice e)) (hi : P.info? e = some i) (hz : i.zero = some z) (hsize : i.size = size) (hby : i.bytes = bytes) (hzs : z.cells.size = size)
    (xv : Value) (m : Nat) (news : List Value) (hx : a.eval x = xv) (hs : Src P size tx xv m news w) (h63 : n + m ≤ maxLen) (hbytes : (n + m) * bytes ≤ 140737488355328)
    (hK : ∀ a' cap' w' own', Sl w' e size (.slice a' (n + m) cap') (n + m) (xs ++ news) own' → w.grownBy w' own → (own' = own ∨ own' = some w.heap.size ∧ w.heap.size < w'.heap.size) → K (a.put o.dst (.slice a' (n + m) cap')) w') :
    if Region.wanted o (yielded ops a.tmps) = true then Oper.wp P o a w K Q else E := by
  have hw : Region.wanted o (yielded ops a.tmps) = true := by simp [Region.wanted, hgd]
  rw [if_pos hw]
  obtain ⟨v', w', o', hr, h1, h2, h3⟩ := run_append_sl h t tx o.type i z bytes ht hi hz hsize hby hzs xv m news hs h63 hbytes
  obtain ⟨a', cap', rfl, _⟩ := h1.shape
  unfold Oper.wp
  simp [execOp, ho, resolve, invoke, builtin, hv, hx, hr, Result.andThen]
  exact hK a' cap' w' o' h1 h2 h3
end Go.Clk
namespace Go.Clk
open Go Go.RowKit
/-- The bytes of a string lie in a new block. -/
theorem wpList_bytes {P : Program} {w : World} {ops : Array Oper} {rest : List Oper} {op : Oper} {act : Act} {Q : Exit → Act → World → Prop} (hgd : op.guard = none) (x : Operand) (src dst : TypeId)
    (hop : op.op = .convert src dst x) {e : TypeId} {u : TypeDesc} (hs : P.underlying src = some u) (hd : P.underlying dst = some (.slice e)) (he : P.underlying e = some (.int .u8))
    (s : ByteArray) (hx : act.eval x = .string s)
    (hK : ∀ W cap, w.grownBy W none → W.heap.size = w.heap.size + 1 → s.size ≤ cap → (∀ j v, (bys s.data.toList)[j]? = some v → W.cell? ⟨w.heap.size, j, none⟩ = some v) → wpList P ops Q rest (act.put op.dst (.slice (some ⟨w.heap.size, 0, none⟩) s.size cap)) W) :
    wpList P ops Q (op :: rest) act w := by
  refine wpList_plain hgd fun K hK' => ?_
  have hr := Go.Lib.run_convert_string_bytes (P := P) w src dst e s hs hd he
  unfold Oper.wp
  simp [execOp, hop, hx, hr, Result.andThen]
  refine hK' _ _ (hK _ _ ⟨rfl, rfl, rfl, by rw [Go.Lib.bytesWorld_size]; omega, fun k hk _ => Go.Lib.bytesWorld_at_old w e s k hk⟩ (Go.Lib.bytesWorld_size w e s) ?_ fun j v hv => ?_)
  · exact grownCap_ge w s.size 0 e
  · have hj : j < s.size := by
      have := List.getElem?_eq_some_iff.1 hv
      obtain ⟨h1, _⟩ := this
      rw [bys_len] at h1
      simpa using h1
    rw [Go.Lib.bytesWorld_cell w e s j hj, ← hv]
    have hj2 : j < s.data.toList.length := by simpa using hj
    simp only [bys, List.getElem?_map, List.getD, List.getElem?_eq_getElem hj2, Option.getD_some, Option.map_some]
end Go.Clk
