/- The document's answer as plain functions of lists and numbers: of no program. -/
import Derived.Test.YtnalckkllogdaaaMem
namespace Go.Clk
open Go

/-- Is a flag (a power of 2) set? -/
def bit (s k : Int) : Bool := s / k % 2 == 1

structure Ent where
  b : UInt8
  fin : Bool
  file : Bool
  cells : Int

structure St where
  ss : List Int
  inq : List Ent
  out : List UInt8
  urg : List UInt8
  col : Int
  stopped : Bool
  held : Bool
  quoted : Bool
  noted : List Int
  reads : Bool
  ended : Bool
  n : Int
  data : List UInt8
  wait : Int

def entCells (e : Ent) : List Value := [.int .u8 e.b.toNat, .bool e.fin, .bool e.file, .int .i64 e.cells]
def ents (l : List Ent) : List Value := l.flatMap entCells
def bys (l : List UInt8) : List Value := l.map fun b => .int .u8 b.toNat
def i64s (l : List Int) : List Value := l.map fun n => .int .i64 n

theorem bys_len (l : List UInt8) : (bys l).length = l.length * 1 := by simp [bys]
theorem i64s_len (l : List Int) : (i64s l).length = l.length * 1 := by simp [i64s]
theorem ents_len (l : List Ent) : (ents l).length = l.length * 4 := by
  unfold ents
  induction l with
  | nil => rfl
  | cons a l ih => rw [List.flatMap_cons, List.length_append, ih]; simp [entCells]; omega
theorem bys_app (l k : List UInt8) : bys (l ++ k) = bys l ++ bys k := by simp [bys]
theorem i64s_app (l k : List Int) : i64s (l ++ k) = i64s l ++ i64s k := by simp [i64s]
theorem ents_app (l k : List Ent) : ents (l ++ k) = ents l ++ ents k := by simp [ents]
theorem bys_one (l : List UInt8) : ∀ u ∈ bys l, u.oneCell' = true := by
  intro u hu; obtain ⟨_, _, rfl⟩ := List.mem_map.1 hu; rfl
theorem i64s_one (l : List Int) : ∀ u ∈ i64s l, u.oneCell' = true := by
  intro u hu; obtain ⟨_, _, rfl⟩ := List.mem_map.1 hu; rfl
theorem ents_one (l : List Ent) : ∀ u ∈ ents l, u.oneCell' = true := by
  intro u hu; obtain ⟨e, _, h⟩ := List.mem_flatMap.1 hu
  simp only [entCells, List.mem_cons, List.not_mem_nil, or_false] at h
  rcases h with rfl | rfl | rfl | rfl <;> rfl

/-- The k-th of some numbers. -/
def gt (s : List Int) (k : Nat) : Int := s.getD k 0
namespace St
def i (σ : St) : Int := gt σ.ss 0
def o (σ : St) : Int := gt σ.ss 1
def l (σ : St) : Int := gt σ.ss 2
def ch (σ : St) (k : Nat) : Int := gt σ.ss (3 + k)
end St

/-- The column behind a byte that goes into the output queue. -/
def moved (flags col : Int) (c : UInt8) : Int :=
  if c.toNat = 8 then (if 0 < col then col - 1 else col)
  else if c.toNat = 9 then col - col % 8 + 8
  else if c.toNat = 13 then 0
  else if c.toNat = 10 then (if bit flags 1 && bit flags 16 then 0 else col)
  else if c.toNat < 32 ∨ c.toNat = 127 then col
  else col + 1

/-- What a byte becomes. -/
def become (flags col : Int) (c : UInt8) : List UInt8 :=
  if bit flags 1 then
    if bit flags 32 && decide (97 ≤ c.toNat ∧ c.toNat ≤ 122) then [c - 32]
    else if decide (c.toNat = 10) && bit flags 2 then [13, 10]
    else if decide (c.toNat = 13) && (bit flags 8 && decide (col = 0)) then []
    else if decide (c.toNat = 13) && bit flags 4 then [10]
    else if decide (c.toNat = 9) && bit flags 64 then List.replicate (8 - col % 8).toNat 32
    else [c]
  else [c]

def moves (flags col : Int) (l : List UInt8) : Int := l.foldl (moved flags) col

namespace St
def sent (σ : St) (c : UInt8) : St := { σ with out := σ.out ++ [c], col := moved σ.o σ.col c }
def sents (σ : St) (l : List UInt8) : St := { σ with out := σ.out ++ l, col := moves σ.o σ.col l }
def puts (σ : St) (c : UInt8) : St := σ.sents (become σ.o σ.col c)
def putAll (σ : St) (l : List UInt8) : St := l.foldl puts σ
def put (σ : St) (l : List UInt8) : St × Bool := if 256 < (σ.putAll l).out.length then (σ, false) else (σ.putAll l, true)
/-- Write: how many are put out. -/
def write (σ : St) : List UInt8 → St × Nat
  | [] => (σ, 0)
  | c :: r => if (σ.put [c]).2 then (((σ.put [c]).1.write r).1, ((σ.put [c]).1.write r).2 + 1) else (σ, 0)
def drain (σ : St) (n : Nat) : St × List UInt8 :=
  let u := σ.urg.take n
  if σ.stopped then ({ σ with urg := σ.urg.drop n }, u)
  else ({ σ with urg := σ.urg.drop n, out := σ.out.drop (n - u.length) }, u ++ σ.out.take (n - u.length))
end St

/-- What a terminal keeps to: the flags are in their range, the column is below a bound. -/
structure Ok (σ : St) (C : Int) : Prop where
  len : σ.ss.length = 17
  i0 : 0 ≤ σ.i
  i1 : σ.i < 8192
  o0 : 0 ≤ σ.o
  o1 : σ.o < 8192
  l0 : 0 ≤ σ.l
  l1 : σ.l < 8192
  ch : ∀ k, 0 ≤ σ.ch k ∧ σ.ch k < 256
  c0 : 0 ≤ σ.col
  c1 : σ.col ≤ C

theorem moved_nonneg (f : Int) {col : Int} (h : 0 ≤ col) (c : UInt8) : 0 ≤ moved f col c ∧ moved f col c ≤ col + 8 := by
  unfold moved
  repeat' split
  all_goals omega
theorem moves_nonneg (f : Int) (l : List UInt8) : ∀ {col : Int}, 0 ≤ col → 0 ≤ moves f col l ∧ moves f col l ≤ col + 8 * l.length := by
  induction l with
  | nil => intro col h; simp [moves]; exact h
  | cons c l ih =>
    intro col h
    have h1 := moved_nonneg f h c
    have h2 := ih h1.1
    simp only [moves, List.foldl_cons, List.length_cons] at *
    omega
theorem moves_app (f col : Int) (l k : List UInt8) : moves f col (l ++ k) = moves f (moves f col l) k := by simp [moves]
theorem become_len (f : Int) {col : Int} (_h : 0 ≤ col) (c : UInt8) : (become f col c).length ≤ 8 := by
  unfold become
  repeat' split
  all_goals simp
  omega

theorem sent_eq (σ : St) (c : UInt8) : σ.sent c = σ.sents [c] := rfl
theorem sents_nil (σ : St) : σ.sents [] = σ := by simp [St.sents, moves]
theorem sents_app (σ : St) (l k : List UInt8) : (σ.sents l).sents k = σ.sents (l ++ k) := by
  simp [St.sents, moves_app, St.o]
theorem Ok.sents {σ : St} {C : Int} (h : Ok σ C) (l : List UInt8) : Ok (σ.sents l) (C + 8 * l.length) :=
  ⟨h.len, h.i0, h.i1, h.o0, h.o1, h.l0, h.l1, h.ch, (moves_nonneg _ l h.c0).1, by have := (moves_nonneg σ.o l h.c0).2; have := h.c1; show moves σ.o σ.col l ≤ _; omega⟩
theorem Ok.mono {σ : St} {C D : Int} (h : Ok σ C) (hd : C ≤ D) : Ok σ D := ⟨h.len, h.i0, h.i1, h.o0, h.o1, h.l0, h.l1, h.ch, h.c0, by have := h.c1; omega⟩
theorem Ok.puts {σ : St} {C : Int} (h : Ok σ C) (c : UInt8) : Ok (σ.puts c) (C + 64) := (h.sents _).mono (by have := become_len σ.o h.c0 c; omega)
theorem Ok.putAll (l : List UInt8) : ∀ {σ : St} {C : Int}, Ok σ C → Ok (σ.putAll l) (C + 64 * l.length) := by
  induction l with
  | nil => intro σ C h; simpa [St.putAll] using h
  | cons c l ih =>
    intro σ C h
    have := ih (h.puts c)
    simp only [St.putAll, List.foldl_cons, List.length_cons] at *
    exact this.mono (by omega)

section
variable {f col : Int} {c : UInt8}
theorem mv8p (h : ((c.toNat : Int) == 8) = true) (h0 : 0 < col) : moved f col c = col - 1 := by
  have : c.toNat = 8 := by simp at h; omega
  simp [moved, this, h0]
theorem mv8n (h : ((c.toNat : Int) == 8) = true) (h0 : col ≤ 0) : moved f col c = col := by
  have : c.toNat = 8 := by simp at h; omega
  simp [moved, this]; omega
theorem mv9 (_h : ((c.toNat : Int) == 8) = false) (h : ((c.toNat : Int) == 9) = true) : moved f col c = col - col % 8 + 8 := by
  have : c.toNat = 9 := by simp at h; omega
  simp [moved, this]
theorem mv13 (_h : ((c.toNat : Int) == 8) = false) (_h9 : ((c.toNat : Int) == 9) = false) (h : ((c.toNat : Int) == 13) = true) : moved f col c = 0 := by
  have : c.toNat = 13 := by simp at h; omega
  simp [moved, this]
theorem mv10a (_h : ((c.toNat : Int) == 8) = false) (_h9 : ((c.toNat : Int) == 9) = false) (_h13 : ((c.toNat : Int) == 13) = false) (h : ((c.toNat : Int) == 10) = true) (h1 : bit f 1 = true) (h2 : bit f 16 = true) : moved f col c = 0 := by
  have : c.toNat = 10 := by simp at h; omega
  simp [moved, this, h1, h2]
theorem mv10b (_h : ((c.toNat : Int) == 8) = false) (_h9 : ((c.toNat : Int) == 9) = false) (_h13 : ((c.toNat : Int) == 13) = false) (h : ((c.toNat : Int) == 10) = true) (h2 : bit f 16 = false) : moved f col c = col := by
  have : c.toNat = 10 := by simp at h; omega
  simp [moved, this, h2]
theorem mv10c (_h : ((c.toNat : Int) == 8) = false) (_h9 : ((c.toNat : Int) == 9) = false) (_h13 : ((c.toNat : Int) == 13) = false) (h : ((c.toNat : Int) == 10) = true) (h2 : ¬ bit f 1 = true) : moved f col c = col := by
  have : c.toNat = 10 := by simp at h; omega
  simp [moved, this, h2]
theorem mv_else (h : ((c.toNat : Int) == 8) = false) (h9 : ((c.toNat : Int) == 9) = false) (h13 : ((c.toNat : Int) == 13) = false) (h10 : ((c.toNat : Int) == 10) = false) : moved f col c = if c.toNat < 32 ∨ c.toNat = 127 then col else col + 1 := by
  simp only [beq_eq_false_iff_ne, ne_eq] at h h9 h13 h10
  unfold moved
  rw [if_neg (by omega), if_neg (by omega), if_neg (by omega), if_neg (by omega)]
theorem mvp (h : ((c.toNat : Int) == 8) = false) (h9 : ((c.toNat : Int) == 9) = false) (h13 : ((c.toNat : Int) == 13) = false) (h10 : ((c.toNat : Int) == 10) = false) (h32 : 32 ≤ (c.toNat : Int)) (h127 : ((c.toNat : Int) != 127) = true) : moved f col c = col + 1 := by
  rw [mv_else h h9 h13 h10, if_neg]; simp at h127; omega
theorem mvd (h : ((c.toNat : Int) == 8) = false) (h9 : ((c.toNat : Int) == 9) = false) (h13 : ((c.toNat : Int) == 13) = false) (h10 : ((c.toNat : Int) == 10) = false) (_h32 : 32 ≤ (c.toNat : Int)) (h127 : ((c.toNat : Int) != 127) = false) : moved f col c = col := by
  rw [mv_else h h9 h13 h10, if_pos]; simp at h127; omega
theorem mvc (h : ((c.toNat : Int) == 8) = false) (h9 : ((c.toNat : Int) == 9) = false) (h13 : ((c.toNat : Int) == 13) = false) (h10 : ((c.toNat : Int) == 10) = false) (h32 : (c.toNat : Int) < 32) : moved f col c = col := by
  rw [mv_else h h9 h13 h10, if_pos]; omega
end

theorem moves_blanks (f col : Int) (j : Nat) : moves f col (List.replicate j 32) = col + j := by
  induction j with
  | zero => simp [moves]
  | succ j ih =>
    rw [List.replicate_succ', moves_app, ih]
    show moved f (col + j) 32 = _
    have : moved f (col + j) 32 = col + j + 1 := by simp [moved]
    rw [this]; omega
theorem sents_col (σ : St) (l : List UInt8) : (σ.sents l).col = moves σ.o σ.col l := rfl
theorem sents_out (σ : St) (l : List UInt8) : (σ.sents l).out = σ.out ++ l := rfl
theorem sents_o (σ : St) (l : List UInt8) : (σ.sents l).o = σ.o := rfl

theorem putAll_snoc (σ : St) (l : List UInt8) (c : UInt8) : σ.putAll (l ++ [c]) = (σ.putAll l).puts c := by simp [St.putAll]
theorem puts_back (σ : St) (c : UInt8) : { σ.puts c with out := σ.out, col := σ.col } = σ := rfl
theorem putAll_back (σ : St) (l : List UInt8) : ∃ o c, σ.putAll l = { σ with out := o, col := c } := by
  suffices h : ∀ (l : List UInt8) (τ : St), (∃ o c, τ = { σ with out := o, col := c }) → ∃ o c, l.foldl St.puts τ = { σ with out := o, col := c } from h l σ ⟨σ.out, σ.col, rfl⟩
  intro l
  induction l with
  | nil => intro τ h; exact h
  | cons c l ih =>
    rintro τ ⟨o, k, rfl⟩
    exact ih _ ⟨_, _, rfl⟩
theorem putAll_out (l : List UInt8) : ∀ {σ : St}, 0 ≤ σ.col → (σ.putAll l).out.length ≤ σ.out.length + 8 * l.length := by
  induction l with
  | nil => intro σ _; simp [St.putAll]
  | cons c l ih =>
    intro σ h
    have h1 := become_len σ.o h c
    have h2 := ih (σ := σ.puts c) (moves_nonneg σ.o _ h).1
    have h3 : (σ.puts c).out.length = σ.out.length + (become σ.o σ.col c).length := by simp [St.puts, St.sents]
    simp only [St.putAll, List.foldl_cons, List.length_cons] at *
    omega

theorem put_ok {σ : St} {C : Int} (h : Ok σ C) (c : UInt8) (hp : (σ.put [c]).2 = true) : Ok (σ.put [c]).1 (C + 8 * ((σ.put [c]).1.out.length - σ.out.length)) ∧ (σ.put [c]).1.out.length ≤ 256 ∧ σ.out.length ≤ (σ.put [c]).1.out.length := by
  unfold St.put at hp ⊢
  split at hp
  · cases hp
  · rename_i hb
    rw [if_neg hb]
    have e : σ.putAll [c] = σ.sents (become σ.o σ.col c) := rfl
    have h1 := h.sents (become σ.o σ.col c)
    have h2 : (σ.sents (become σ.o σ.col c)).out.length = σ.out.length + (become σ.o σ.col c).length := by simp [St.sents]
    refine ⟨?_, show (σ.putAll [c]).out.length ≤ 256 by omega, ?_⟩
    · show Ok (σ.putAll [c]) _
      rw [e]
      exact h1.mono (by rw [h2]; omega)
    · show _ ≤ (σ.putAll [c]).out.length
      rw [e, h2]; omega
theorem put_no {σ : St} (l : List UInt8) (hp : (σ.put l).2 = false) : (σ.put l).1 = σ := by
  unfold St.put at hp ⊢
  split at hp
  · rw [if_pos ‹_›]
  · cases hp
def firstS : List Int := [640, 3, 735, 3, 28, 26, 127, 23, 21, 4, 0, 17, 19, 22, 18, 1, 0]
def newS : St := { ss := firstS, inq := [], out := [], urg := [], col := 0, stopped := false, held := false, quoted := false, noted := [], reads := false, ended := false, n := 0, data := [], wait := 0 }
end Go.Clk
