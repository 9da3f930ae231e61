/- Small laws of answers. -/
import Derived.Test.YtfnglkhhmplejaaGreatRows
import Derived.Test.YtfnglkhhmplejaaGreatBase
namespace Go.Proofs.YtfnglkhhmplejaaGreat
open Go Go.RowKit Go.Clk

theorem ret_int {k : IntKind} {a b : Int} (h : a = b) : Ending.returned (.int k a) = .returned (.int k b) := by rw [h]
theorem ret_bool {a b : Bool} (h : a = b) : Ending.returned (.bool a) = .returned (.bool b) := by rw [h]
def pickN (c n : Int) : Int := if c < 0 then (-(c + 1)) % n else c % n
theorem pickN_lt (c n : Int) (h : 0 < n) : 0 ≤ pickN c n ∧ pickN c n < n := by
  unfold pickN
  split <;> exact ⟨Int.emod_nonneg _ (by omega), Int.emod_lt_of_pos _ h⟩
end Go.Proofs.YtfnglkhhmplejaaGreat
namespace Go.Clk
open Go

def gap (e : Ent) : Bool := ((e.b.toNat : Int) == 32) || ((e.b.toNat : Int) == 9)
/-- How many entries the pending line has. -/
def pend (l : List Ent) : Nat := (l.reverse.takeWhile fun e => !e.fin).length
/-- How many entries at the end of these are its last word and the gap behind it; the last one comes first here. -/
def wordR (r : List Ent) : Nat := (r.takeWhile gap).length + ((r.dropWhile gap).takeWhile fun e => !gap e).length
/-- What takes the echo of an entry off. -/
def rubOne (e : Ent) : List UInt8 := (List.replicate e.cells.toNat (if ((e.b.toNat : Int) == 9) then [(8 : UInt8)] else [8, 32, 8])).flatten

namespace St
def L (σ : St) (k : Int) : Bool := bit σ.l k
def I (σ : St) (k : Int) : Bool := bit σ.i k
def isC (σ : St) (c : UInt8) (k : Int) : Bool := ((c.toNat : Int) != 0) && ((c.toNat : Int) == σ.ch k.toNat)
def echoes (σ : St) (c : UInt8) : Bool := σ.L 4 || (((c.toNat : Int) == 10) && (σ.L 32 && σ.L 2))
def two (σ : St) (c : UInt8) : Bool := σ.L 64 && (((c.toNat : Int) != 9) && (((c.toNat : Int) != 10) && (decide ((c.toNat : Int) < 32) || ((c.toNat : Int) == 127))))
def shows (σ : St) (c : UInt8) : List UInt8 := if σ.two c then [94, c ^^^ 64] else [c]
def echo1 (σ : St) (c : UInt8) : St := if σ.echoes c then (σ.put (σ.shows c)).1 else σ
def cellsOf (σ : St) (c : UInt8) : Int := if σ.col < (σ.echo1 c).col then (σ.echo1 c).col - σ.col else 0
def most (σ : St) (fin : Bool) : Nat := if σ.L 2 && !fin then 255 else 256
def lays (σ : St) (e : Ent) : St :=
  if σ.most e.fin ≤ σ.inq.length then (if σ.I 4096 then (σ.put [7]).1 else σ)
  else if e.file then { σ with inq := σ.inq ++ [e], wait := 0 }
  else { σ.echo1 e.b with inq := σ.inq ++ [{ e with cells := σ.cellsOf e.b }], wait := 0 }
def plain (σ : St) (c : UInt8) : St := σ.lays ⟨c, false, false, 0⟩
def raise (σ : St) (n : Int) : St :=
  if σ.L 256 then { σ with noted := σ.noted ++ [n] } else { σ with noted := σ.noted ++ [n], inq := [], out := [], quoted := false }
def rub (s : Bool) : Nat → St → St
  | 0, σ => σ
  | n + 1, σ => match σ.inq.getLast? with
    | none => σ
    | some e => rub s n (if s then (({ σ with inq := σ.inq.dropLast } : St).put (rubOne e)).1 else { σ with inq := σ.inq.dropLast })
def rubs (σ : St) (n : Nat) (c : UInt8) : St :=
  if decide (0 < n) && (σ.L 4 && !σ.L 8) then (rub (σ.L 4 && σ.L 8) n σ).echo1 c else rub (σ.L 4 && σ.L 8) n σ
def kills (σ : St) (n : Nat) (c : UInt8) : St :=
  if σ.L 4 && !(σ.L 8 && σ.L 128) then
    (if σ.L 16 then (((rub (σ.L 4 && (σ.L 8 && σ.L 128)) n σ).echo1 c).put [10]).1 else (rub (σ.L 4 && (σ.L 8 && σ.L 128)) n σ).echo1 c)
  else rub (σ.L 4 && (σ.L 8 && σ.L 128)) n σ
/-- The entry at a place is echoed anew, with new cells. -/
def rep (σ : St) (k : Nat) : St := match σ.inq[k]? with
  | none => σ
  | some e => { σ.echo1 e.b with inq := σ.inq.set k { e with cells := σ.cellsOf e.b } }
def reps : Nat → Nat → St → St
  | 0, _, σ => σ
  | n + 1, k, σ => reps n (k + 1) (σ.rep k)
def reprint (σ : St) (c : UInt8) : St := reps (pend σ.inq) (σ.inq.length - pend σ.inq) ((σ.echo1 c).put [10]).1
def quote (σ : St) : St := if σ.L 4 && σ.L 64 then (({ σ with quoted := true } : St).put [94, 8]).1 else { σ with quoted := true }
def edits (σ : St) (c : UInt8) : St × Bool :=
  if σ.isC c 3 then (σ.rubs (min 1 (pend σ.inq)) c, true)
  else if σ.isC c 5 then (σ.kills (pend σ.inq) c, true)
  else if σ.L 512 && σ.isC c 4 then (σ.rubs (wordR (σ.inq.reverse.take (pend σ.inq))) c, true)
  else if σ.L 512 && σ.isC c 10 then (σ.quote, true)
  else if σ.L 512 && (σ.L 4 && σ.isC c 11) then (σ.reprint c, true)
  else if σ.isC c 6 then (σ.lays ⟨0, true, true, 0⟩, true)
  else if ((c.toNat : Int) == 10) || σ.isC c 7 then (σ.lays ⟨c, true, false, 0⟩, true)
  else (σ, false)
def flows (σ : St) (c : UInt8) : St × Bool :=
  if σ.I 512 then
    if σ.isC c 8 then ({ σ with stopped := false }, true)
    else if σ.isC c 9 then ({ σ with stopped := true }, true)
    else if σ.I 1024 then ({ σ with stopped := false }, false)
    else (σ, false)
  else (σ, false)
def sigs (σ : St) (c : UInt8) : St × Bool :=
  if σ.L 1 then
    if σ.isC c 0 then ((σ.raise 1).echo1 c, true)
    else if σ.isC c 1 then ((σ.raise 2).echo1 c, true)
    else if σ.isC c 2 then ((σ.raise 3).echo1 c, true)
    else (σ, false)
  else (σ, false)
def line (σ : St) (c : UInt8) : St :=
  if σ.L 2 then (if (σ.edits c).2 then (σ.edits c).1 else σ.plain c) else σ.plain c
def late (σ : St) (c : UInt8) : St :=
  if ((c.toNat : Int) == 13) && σ.I 64 then σ
  else if ((c.toNat : Int) == 13) && σ.I 128 then σ.line 10
  else if ((c.toNat : Int) == 10) && σ.I 32 then σ.line 13
  else σ.line c
def heed (σ : St) (c : UInt8) : St :=
  if (σ.flows c).2 then (σ.flows c).1
  else if ((σ.flows c).1.sigs c).2 then ((σ.flows c).1.sigs c).1
  else (σ.flows c).1.late c
def small (σ : St) (c : UInt8) : UInt8 := if (σ.I 256 && σ.L 512) && (decide (65 ≤ (c.toNat : Int)) && decide ((c.toNat : Int) ≤ 90)) then c + 32 else c
def good2 (σ : St) (c : UInt8) : St := if σ.quoted then ({ σ with quoted := false } : St).plain c else σ.heed c
def good (σ : St) (c : UInt8) : St :=
  if σ.I 16 then σ.good2 (σ.small (c % 128))
  else if σ.I 8 && ((c.toNat : Int) == 255) then (σ.plain 255).plain 255
  else σ.good2 (σ.small c)
def wrong (σ : St) (c : UInt8) : St :=
  if σ.I 4 then σ else if σ.I 8 then ((σ.plain 255).plain 0).plain c else σ.plain 0
def broken (σ : St) : St :=
  if σ.I 1 then σ else if σ.I 2 then σ.raise 1 else if σ.I 8 then ((σ.plain 255).plain 0).plain 0 else σ.plain 0
/-- The character of a place becomes urgent, if it is one. -/
def urge (σ : St) (k : Nat) : St := if σ.ch k = 0 then σ else { σ with urg := σ.urg ++ [UInt8.ofNat (σ.ch k).toNat] }
def hold (σ : St) : St :=
  if σ.I 2048 && (!σ.held && decide (192 ≤ σ.inq.length)) then ({ σ with held := true } : St).urge 9
  else if σ.held && (!σ.I 2048 || decide (σ.inq.length ≤ 64)) then ({ σ with held := false } : St).urge 8
  else σ
def ready (σ : St) : Bool :=
  if σ.L 2 then σ.inq.any (·.fin)
  else if σ.ch 12 = 0 then
    (if σ.ch 13 = 0 then true else decide (0 < σ.inq.length) || decide (σ.ch 13 ≤ σ.wait))
  else decide (min (σ.ch 12) σ.n ≤ σ.inq.length) || (decide (0 < σ.ch 13) && (decide (0 < σ.inq.length) && decide (σ.ch 13 ≤ σ.wait)))
end St
/-- What a read of n bytes has of these, behind d; what is left. -/
def fetch (n : Int) : List Ent → List UInt8 → List Ent × List UInt8
  | [], d => ([], d)
  | e :: r, d =>
    if !e.file && decide ((d.length : Int) = n) then (e :: r, d)
    else if e.fin then (r, if e.file then d else d ++ [e.b])
    else fetch n r (if e.file then d else d ++ [e.b])
namespace St
def ends (σ : St) : St :=
  if σ.reads && (!σ.ended && σ.ready) then { σ with ended := true, inq := (fetch σ.n σ.inq []).1, data := (fetch σ.n σ.inq []).2 } else σ
def look (σ : St) : St := σ.ends.hold
/-- The bytes come one after the other. -/
def comes (f : St → UInt8 → St) : St → List UInt8 → St
  | σ, [] => σ
  | σ, c :: r => comes f (f σ c).look r
def receive (σ : St) (k : Int) (s : List UInt8) : St × Int :=
  if k < 0 ∨ 2 < k then (σ, 1)
  else if k = 2 then (σ.broken.look, 0)
  else if k = 1 then (comes wrong σ s, 0)
  else (comes good σ s, 0)
def read (σ : St) (n : Int) : St × Int :=
  if n < 1 ∨ 256 < n then (σ, 2)
  else if σ.reads then (σ, 3)
  else (({ σ with reads := true, ended := false, n := n, wait := 0 } : St).look, 0)
def take (σ : St) : St × List UInt8 × Bool × Int :=
  if σ.reads then (if σ.ended then ({ σ with reads := false }, σ.data, true, 0) else (σ, [], false, 0)) else (σ, [], false, 4)
def tick (σ : St) : St := ({ σ with wait := σ.wait + 1 } : St).look
def flush (σ : St) (k : Int) : St × Int :=
  if k < 1 ∨ 3 < k then (σ, 1)
  else (({ σ with inq := if k = 2 then σ.inq else [], out := if k = 1 then σ.out else [] } : St).look, 0)
def flow (σ : St) (k : Int) : St × Int :=
  if k = 1 then ({ σ with stopped := true }, 0) else if k = 2 then ({ σ with stopped := false }, 0)
  else if k = 3 then (σ.urge 9, 0) else if k = 4 then (σ.urge 8, 0) else (σ, 1)
def signals (σ : St) : St × List Int := ({ σ with noted := [] }, σ.noted)
def forget (l : List Ent) : List Ent := (l.filter fun e => !e.file).map fun e => ⟨e.b, false, false, 0⟩
/-- The settings are changed. -/
def change (σ : St) (s : List Int) : St :=
  { σ with ss := normS s, inq := if σ.L 2 = bit (gt s 2 % 1024) 2 then σ.inq else forget σ.inq, quoted := bit (gt s 2 % 1024) 2 && σ.quoted }
def set (σ : St) (s : List Int) (k : Int) : St × Int :=
  if k < 0 ∨ 2 < k then (σ, 1)
  else if 0 < k ∧ σ.out ≠ [] then (σ, 3)
  else ((({ σ with inq := if k = 2 then [] else σ.inq } : St).change s).look, 0)
end St
end Go.Clk
namespace Go.Clk
open Go

/-- What holds of a terminal's settings. -/
structure Sok (ss : List Int) : Prop where
  len : ss.length = 17
  i0 : 0 ≤ gt ss 0
  i1 : gt ss 0 < 8192
  o0 : 0 ≤ gt ss 1
  o1 : gt ss 1 < 8192
  l0 : 0 ≤ gt ss 2
  l1 : gt ss 2 < 8192
  ch : ∀ k, 0 ≤ gt ss (3 + k) ∧ gt ss (3 + k) < 256

structure InvC (C K : Int) (σ : St) : Prop where
  s : Sok σ.ss
  c0 : 0 ≤ σ.col
  c1 : σ.col ≤ C + 8 * σ.out.length
  out : σ.out.length ≤ 256
  inq : σ.inq.length ≤ 256
  cells : ∀ e ∈ σ.inq, 0 ≤ e.cells ∧ e.cells ≤ 128
  urg : (σ.urg.length : Int) ≤ K
  noted : (σ.noted.length : Int) ≤ K
  data : σ.data.length ≤ 256
  n0 : 0 ≤ σ.n
  n1 : σ.n ≤ 256
  w0 : 0 ≤ σ.wait
  w1 : σ.wait ≤ K

theorem InvC.k0 {C K : Int} {σ : St} (h : InvC C K σ) : 0 ≤ K := by have := h.urg; omega
theorem InvC.ok {C K : Int} {σ : St} (h : InvC C K σ) : Ok σ (C + 2048) :=
  ⟨h.s.len, h.s.i0, h.s.i1, h.s.o0, h.s.o1, h.s.l0, h.s.l1, h.s.ch, h.c0, by have := h.c1; have := h.out; omega⟩
theorem InvC.mono {C D K M : Int} {σ : St} (h : InvC C K σ) (hc : C ≤ D) (hd : K ≤ M) : InvC D M σ :=
  ⟨h.s, h.c0, by have := h.c1; omega, h.out, h.inq, h.cells, by have := h.urg; omega, by have := h.noted; omega, h.data, h.n0, h.n1, h.w0, by have := h.w1; omega⟩

theorem bound_bound (f : Int) {col : Int} (h : 0 ≤ col) (l : List UInt8) : (renderL f col l).2 ≤ col + 8 * (renderL f col l).1.length := by
  suffices H : ∀ (l : List UInt8) (p : List UInt8 × Int), 0 ≤ p.2 → p.2 ≤ col + 8 * p.1.length →
      (l.foldl (fun p c => (p.1 ++ become f p.2 c, moves f p.2 (become f p.2 c))) p).2 ≤ col + 8 * (l.foldl (fun p c => (p.1 ++ become f p.2 c, moves f p.2 (become f p.2 c))) p).1.length by
    exact H l ([], col) h (by simp)
  intro l
  induction l with
  | nil => intro p _ h; simpa using h
  | cons c l ih =>
    intro p h0 h
    have h1 := moves_nonneg f (become f p.2 c) h0
    simp only [List.foldl_cons]
    refine ih _ h1.1 ?_
    have := h1.2
    simp only [List.length_append]
    omega

theorem put_cases (σ : St) (l : List UInt8) : ((σ.put l).1 = σ ∧ (σ.put l).2 = false) ∨
    ((σ.put l).1 = { σ with out := σ.out ++ (renderL σ.o σ.col l).1, col := (renderL σ.o σ.col l).2 } ∧ (σ.put l).2 = true ∧ σ.out.length + (renderL σ.o σ.col l).1.length ≤ 256) := by
  unfold St.put
  rw [putAll_render]
  dsimp only
  split
  · exact .inl ⟨rfl, rfl⟩
  · refine .inr ⟨rfl, rfl, ?_⟩
    rename_i h; simp only [List.length_append] at h; omega

theorem put_frame (σ : St) (l : List UInt8) : ∃ o k, (σ.put l).1 = { σ with out := o, col := k } := by
  rcases put_cases σ l with h | h
  · exact ⟨σ.out, σ.col, h.1⟩
  · exact ⟨_, _, h.1⟩
theorem InvC.put {C K : Int} {σ : St} (h : InvC C K σ) (l : List UInt8) : InvC C K (σ.put l).1 := by
  rcases put_cases σ l with e | e
  · rw [e.1]; exact h
  · rw [e.1]
    have h1 := renderL_col σ.o h.c0 l
    have h2 := bound_bound σ.o h.c0 l
    have h3 := h.c1
    exact ⟨h.s, h1.1, by dsimp only; simp only [List.length_append]; omega, by dsimp only; simp only [List.length_append]; exact e.2.2, h.inq, h.cells, h.urg, h.noted, h.data, h.n0, h.n1, h.w0, h.w1⟩
theorem put_col {C K : Int} {σ : St} (h : InvC C K σ) (l : List UInt8) (hl : l.length ≤ 2) : (σ.put l).1.col ≤ σ.col + 128 := by
  rcases put_cases σ l with e | e
  · rw [e.1]; omega
  · rw [e.1]
    have h1 := renderL_col σ.o h.c0 l
    dsimp only; omega
theorem shows_len (σ : St) (c : UInt8) : (σ.shows c).length ≤ 2 := by unfold St.shows; split <;> simp
theorem echo1_frame (σ : St) (c : UInt8) : ∃ o k, σ.echo1 c = { σ with out := o, col := k } := by
  unfold St.echo1
  split
  · exact put_frame _ _
  · exact ⟨σ.out, σ.col, rfl⟩
theorem InvC.echo1 {C K : Int} {σ : St} (h : InvC C K σ) (c : UInt8) : InvC C K (σ.echo1 c) := by
  unfold St.echo1
  split
  · exact h.put _
  · exact h
theorem cells_bound {C K : Int} {σ : St} (h : InvC C K σ) (c : UInt8) : 0 ≤ σ.cellsOf c ∧ σ.cellsOf c ≤ 128 := by
  have : (σ.echo1 c).col ≤ σ.col + 128 := by
    unfold St.echo1
    split
    · exact put_col h _ (shows_len _ _)
    · omega
  unfold St.cellsOf
  split <;> omega
theorem InvC.inq_ {C K : Int} {σ : St} (h : InvC C K σ) (l : List Ent) (hl : l.length ≤ 256) (hc : ∀ e ∈ l, 0 ≤ e.cells ∧ e.cells ≤ 128) : InvC C K { σ with inq := l } :=
  ⟨h.s, h.c0, h.c1, h.out, hl, hc, h.urg, h.noted, h.data, h.n0, h.n1, h.w0, h.w1⟩
theorem InvC.wait_ {C K : Int} {σ : St} (h : InvC C K σ) : InvC C K { σ with wait := 0 } :=
  ⟨h.s, h.c0, h.c1, h.out, h.inq, h.cells, h.urg, h.noted, h.data, h.n0, h.n1, by simp, h.k0⟩
theorem InvC.quoted_ {C K : Int} {σ : St} (h : InvC C K σ) (q : Bool) : InvC C K { σ with quoted := q } :=
  ⟨h.s, h.c0, h.c1, h.out, h.inq, h.cells, h.urg, h.noted, h.data, h.n0, h.n1, h.w0, h.w1⟩
theorem InvC.stopped_ {C K : Int} {σ : St} (h : InvC C K σ) (q : Bool) : InvC C K { σ with stopped := q } :=
  ⟨h.s, h.c0, h.c1, h.out, h.inq, h.cells, h.urg, h.noted, h.data, h.n0, h.n1, h.w0, h.w1⟩
theorem InvC.held_ {C K : Int} {σ : St} (h : InvC C K σ) (q : Bool) : InvC C K { σ with held := q } :=
  ⟨h.s, h.c0, h.c1, h.out, h.inq, h.cells, h.urg, h.noted, h.data, h.n0, h.n1, h.w0, h.w1⟩
theorem most_le (σ : St) (f : Bool) : σ.most f ≤ 256 := by unfold St.most; split <;> omega
theorem InvC.lays {C K : Int} {σ : St} (h : InvC C K σ) (e : Ent) (he : 0 ≤ e.cells ∧ e.cells ≤ 128) : InvC C K (σ.lays e) := by
  have hm := most_le σ e.fin
  unfold St.lays
  split
  · split
    · exact h.put _
    · exact h
  · rename_i hn
    split
    · exact (h.inq_ (σ.inq ++ [e]) (by simp; omega) (by intro x hx; rcases List.mem_append.1 hx with q | q; exact h.cells x q; simp at q; subst q; exact he)).wait_
    · have h1 := h.echo1 e.b
      have h2 := cells_bound h e.b
      exact (h1.inq_ (σ.inq ++ [{ e with cells := σ.cellsOf e.b }]) (by simp; omega) (by intro x hx; rcases List.mem_append.1 hx with q | q; exact h.cells x q; simp at q; subst q; exact h2)).wait_
theorem InvC.plain {C K : Int} {σ : St} (h : InvC C K σ) (c : UInt8) : InvC C K (σ.plain c) := h.lays _ ⟨by simp, by simp⟩
theorem InvC.raise {C K : Int} {σ : St} (h : InvC C K σ) (n : Int) : InvC (C + 2048) (K + 2048) (σ.raise n) := by
  have := h.c1; have := h.out; have := h.urg; have := h.noted; have := h.w1
  unfold St.raise
  split
  · exact ⟨h.s, h.c0, by dsimp only; omega, h.out, h.inq, h.cells, by dsimp only; omega, by dsimp only; simp only [List.length_append, List.length_singleton]; omega, h.data, h.n0, h.n1, h.w0, by dsimp only; omega⟩
  · exact ⟨h.s, h.c0, by dsimp only; simp only [List.length_nil]; omega, by simp, by simp, by simp, by dsimp only; omega, by dsimp only; simp only [List.length_append, List.length_singleton]; omega, h.data, h.n0, h.n1, h.w0, by dsimp only; omega⟩
theorem InvC.dropLast {C K : Int} {σ : St} (h : InvC C K σ) : InvC C K { σ with inq := σ.inq.dropLast } :=
  h.inq_ _ (by have := h.inq; simp; omega) fun e he => h.cells e (List.dropLast_subset _ he)
theorem InvC.rub {C K : Int} (s : Bool) (n : Nat) : ∀ {σ : St}, InvC C K σ → InvC C K (St.rub s n σ) := by
  induction n with
  | zero => intro σ h; exact h
  | succ n ih =>
    intro σ h
    unfold St.rub
    split
    · exact h
    · apply ih
      split
      · exact h.dropLast.put _
      · exact h.dropLast
theorem InvC.rubs {C K : Int} {σ : St} (h : InvC C K σ) (n : Nat) (c : UInt8) : InvC C K (σ.rubs n c) := by
  unfold St.rubs
  split
  · exact (h.rub _ _).echo1 _
  · exact h.rub _ _
theorem InvC.kills {C K : Int} {σ : St} (h : InvC C K σ) (n : Nat) (c : UInt8) : InvC C K (σ.kills n c) := by
  unfold St.kills
  split
  · split
    · exact ((h.rub _ _).echo1 _).put _
    · exact (h.rub _ _).echo1 _
  · exact h.rub _ _
theorem InvC.rep {C K : Int} {σ : St} (h : InvC C K σ) (k : Nat) : InvC C K (σ.rep k) := by
  unfold St.rep
  split
  · exact h
  · rename_i e he
    have h2 := cells_bound h e.b
    refine (h.echo1 e.b).inq_ _ (by simpa using h.inq) fun x hx => ?_
    rcases List.mem_or_eq_of_mem_set hx with q | q
    · exact h.cells x q
    · subst q; exact h2
theorem InvC.reps {C K : Int} (n : Nat) : ∀ {σ : St} (k : Nat), InvC C K σ → InvC C K (St.reps n k σ) := by
  induction n with
  | zero => intro σ k h; exact h
  | succ n ih => intro σ k h; exact ih _ (h.rep k)
theorem InvC.edits {C K : Int} {σ : St} (h : InvC C K σ) (c : UInt8) : InvC C K (σ.edits c).1 := by
  unfold St.edits
  repeat' split
  · exact h.rubs _ _
  · exact h.kills _ _
  · exact h.rubs _ _
  · show InvC C K σ.quote
    unfold St.quote
    split
    · exact (h.quoted_ true).put _
    · exact h.quoted_ true
  · exact InvC.reps _ _ ((h.echo1 c).put _)
  · exact h.lays _ ⟨by simp, by simp⟩
  · exact h.lays _ ⟨by simp, by simp⟩
  · exact h
theorem InvC.line {C K : Int} {σ : St} (h : InvC C K σ) (c : UInt8) : InvC C K (σ.line c) := by
  unfold St.line
  repeat' split
  · exact h.edits c
  · exact h.plain c
  · exact h.plain c
theorem InvC.late {C K : Int} {σ : St} (h : InvC C K σ) (c : UInt8) : InvC C K (σ.late c) := by
  unfold St.late
  repeat' split
  · exact h
  all_goals exact h.line _
theorem InvC.flows {C K : Int} {σ : St} (h : InvC C K σ) (c : UInt8) : InvC C K (σ.flows c).1 := by
  unfold St.flows
  repeat' split
  all_goals first | exact h | exact h.stopped_ _
theorem InvC.sigs {C K : Int} {σ : St} (h : InvC C K σ) (c : UInt8) : InvC (C + 2048) (K + 2048) (σ.sigs c).1 := by
  unfold St.sigs
  repeat' split
  all_goals first | exact (h.raise _).echo1 _ | exact h.mono (by omega) (by omega)
theorem InvC.heed {C K : Int} {σ : St} (h : InvC C K σ) (c : UInt8) : InvC (C + 2048) (K + 2048) (σ.heed c) := by
  unfold St.heed
  repeat' split
  · exact (h.flows c).mono (by omega) (by omega)
  · exact (h.flows c).sigs c
  · exact ((h.flows c).late c).mono (by omega) (by omega)
theorem InvC.good2 {C K : Int} {σ : St} (h : InvC C K σ) (c : UInt8) : InvC (C + 2048) (K + 2048) (σ.good2 c) := by
  unfold St.good2
  split
  · exact ((h.quoted_ false).plain c).mono (by omega) (by omega)
  · exact h.heed c
theorem InvC.good {C K : Int} {σ : St} (h : InvC C K σ) (c : UInt8) : InvC (C + 2048) (K + 2048) (σ.good c) := by
  unfold St.good
  repeat' split
  · exact h.good2 _
  · exact ((h.plain _).plain _).mono (by omega) (by omega)
  · exact h.good2 _
theorem InvC.wrong {C K : Int} {σ : St} (h : InvC C K σ) (c : UInt8) : InvC (C + 2048) (K + 2048) (σ.wrong c) := by
  unfold St.wrong
  repeat' split
  · exact h.mono (by omega) (by omega)
  · exact (((h.plain _).plain _).plain _).mono (by omega) (by omega)
  · exact (h.plain _).mono (by omega) (by omega)
theorem InvC.broken {C K : Int} {σ : St} (h : InvC C K σ) : InvC (C + 2048) (K + 2048) σ.broken := by
  unfold St.broken
  repeat' split
  · exact h.mono (by omega) (by omega)
  · exact h.raise _
  · exact (((h.plain _).plain _).plain _).mono (by omega) (by omega)
  · exact (h.plain _).mono (by omega) (by omega)
theorem InvC.urge {C K : Int} {σ : St} (h : InvC C K σ) (k : Nat) : InvC (C + 1) (K + 1) (σ.urge k) := by
  have := h.c1; have := h.urg; have := h.noted; have := h.w1
  unfold St.urge
  split
  · exact h.mono (by omega) (by omega)
  · exact ⟨h.s, h.c0, by dsimp only; omega, h.out, h.inq, h.cells, by dsimp only; simp only [List.length_append, List.length_singleton]; omega, by dsimp only; omega, h.data, h.n0, h.n1, h.w0, by dsimp only; omega⟩
theorem InvC.hold {C K : Int} {σ : St} (h : InvC C K σ) : InvC (C + 1) (K + 1) σ.hold := by
  unfold St.hold
  repeat' split
  · exact (h.held_ true).urge 9
  · exact (h.held_ false).urge 8
  · exact h.mono (by omega) (by omega)
theorem fetch_inv (n : Int) (_hn0 : 0 ≤ n) : ∀ (l : List Ent) (d : List UInt8), (d.length : Int) ≤ n → (fetch n l d).1.length ≤ l.length ∧ (∀ e ∈ (fetch n l d).1, e ∈ l) ∧ ((fetch n l d).2.length : Int) ≤ n := by
  intro l
  induction l with
  | nil => intro d h; simp [fetch]; exact h
  | cons e r ih =>
    intro d h
    unfold fetch
    split
    · exact ⟨Nat.le_refl _, fun _ h => h, h⟩
    · rename_i hc
      have hd : ((if e.file then d else d ++ [e.b]).length : Int) ≤ n := by
        split
        · exact h
        · rename_i hf
          simp only [Bool.and_eq_true, Bool.not_eq_true', decide_eq_true_eq, not_and] at hc
          have := hc (by simpa using hf)
          simp only [List.length_append, List.length_singleton]; omega
      split
      · exact ⟨by simp, fun x hx => List.mem_cons_of_mem _ hx, hd⟩
      · obtain ⟨h1, h2, h3⟩ := ih _ hd
        exact ⟨by simp only [List.length_cons]; omega, fun x hx => List.mem_cons_of_mem _ (h2 x hx), h3⟩
theorem InvC.ends {C K : Int} {σ : St} (h : InvC C K σ) : InvC C K σ.ends := by
  unfold St.ends
  split
  · have := fetch_inv σ.n h.n0 σ.inq [] (by have := h.n0; simpa using this)
    have := h.n1; have := h.inq
    exact ⟨h.s, h.c0, h.c1, h.out, by dsimp only; omega, fun e he => h.cells e ((fetch_inv σ.n h.n0 σ.inq [] (by have := h.n0; simpa using this)).2.1 e he), h.urg, h.noted, by dsimp only; omega, h.n0, h.n1, h.w0, h.w1⟩
  · exact h
theorem InvC.look {C K : Int} {σ : St} (h : InvC C K σ) : InvC (C + 1) (K + 1) σ.look := h.ends.hold
theorem InvC.comes {f : St → UInt8 → St} (hf : ∀ {C K : Int} {σ : St} (c : UInt8), InvC C K σ → InvC (C + 2048) (K + 2048) (f σ c)) (l : List UInt8) : ∀ {C K : Int} {σ : St}, InvC C K σ → InvC (C + 2049 * l.length) (K + 2049 * l.length) (St.comes f σ l) := by
  induction l with
  | nil => intro C K σ h; simpa [St.comes] using h
  | cons c r ih =>
    intro C K σ h
    unfold St.comes
    refine (ih (hf c h).look).mono ?_ ?_ <;> (simp only [List.length_cons]; omega)
theorem InvC.receive {C K : Int} {σ : St} (h : InvC C K σ) (k : Int) (l : List UInt8) : InvC (C + 2049 * (l.length + 1)) (K + 2049 * (l.length + 1)) (σ.receive k l).1 := by
  unfold St.receive
  repeat' split
  · exact h.mono (by omega) (by omega)
  · exact h.broken.look.mono (by omega) (by omega)
  · exact (InvC.comes (fun c h => h.wrong c) l h).mono (by omega) (by omega)
  · exact (InvC.comes (fun c h => h.good c) l h).mono (by omega) (by omega)
theorem InvC.read {C K : Int} {σ : St} (h : InvC C K σ) (n : Int) : InvC (C + 1) (K + 1) (σ.read n).1 := by
  unfold St.read
  repeat' split
  · exact h.mono (by omega) (by omega)
  · exact h.mono (by omega) (by omega)
  · refine InvC.look ⟨h.s, h.c0, h.c1, h.out, h.inq, h.cells, h.urg, h.noted, h.data, by dsimp only; omega, by dsimp only; omega, by simp, h.k0⟩
theorem InvC.take {C K : Int} {σ : St} (h : InvC C K σ) : InvC C K σ.take.1 := by
  unfold St.take
  repeat' split
  all_goals first | exact h | exact ⟨h.s, h.c0, h.c1, h.out, h.inq, h.cells, h.urg, h.noted, h.data, h.n0, h.n1, h.w0, h.w1⟩
theorem InvC.tick {C K : Int} {σ : St} (h : InvC C K σ) : InvC (C + 2) (K + 2) σ.tick := by
  have := h.c1; have := h.urg; have := h.noted; have := h.w1; have := h.w0
  have : InvC (C + 1) (K + 1) { σ with wait := σ.wait + 1 } := ⟨h.s, h.c0, by dsimp only; omega, h.out, h.inq, h.cells, by dsimp only; omega, by dsimp only; omega, h.data, h.n0, h.n1, by dsimp only; omega, by dsimp only; omega⟩
  exact this.look.mono (by omega) (by omega)
theorem InvC.flush {C K : Int} {σ : St} (h : InvC C K σ) (k : Int) : InvC (C + 2049) (K + 2049) (σ.flush k).1 := by
  have := h.c1; have := h.urg; have := h.noted; have := h.w1; have := h.w0; have := h.out; have := h.inq
  unfold St.flush
  split
  · exact h.mono (by omega) (by omega)
  · have : InvC (C + 2048) (K + 2048) { σ with inq := if k = 2 then σ.inq else [], out := if k = 1 then σ.out else [] } := by
      refine ⟨h.s, h.c0, ?_, ?_, ?_, ?_, by dsimp only; omega, by dsimp only; omega, h.data, h.n0, h.n1, h.w0, by dsimp only; omega⟩
      · dsimp only; omega
      · dsimp only; split
        · omega
        · simp
      · dsimp only; split
        · omega
        · simp
      · dsimp only; split
        · exact h.cells
        · simp
    exact this.look.mono (by omega) (by omega)
theorem InvC.flow {C K : Int} {σ : St} (h : InvC C K σ) (k : Int) : InvC (C + 1) (K + 1) (σ.flow k).1 := by
  unfold St.flow
  repeat' split
  · exact (h.stopped_ _).mono (by omega) (by omega)
  · exact (h.stopped_ _).mono (by omega) (by omega)
  · exact h.urge _
  · exact h.urge _
  · exact h.mono (by omega) (by omega)
theorem InvC.signals {C K : Int} {σ : St} (h : InvC C K σ) : InvC C K σ.signals.1 :=
  ⟨h.s, h.c0, h.c1, h.out, h.inq, h.cells, h.urg, by have := h.k0; simpa [St.signals] using this, h.data, h.n0, h.n1, h.w0, h.w1⟩
theorem normS_sok (s : List Int) : Sok (normS s) := by
  have g0 := normS_get s 0 (by omega)
  have g1 := normS_get s 1 (by omega)
  have g2 := normS_get s 2 (by omega)
  have l0 : lim 0 = 8192 := rfl
  have l1 : lim 1 = 128 := rfl
  have l2 : lim 2 = 1024 := rfl
  refine ⟨normS_len _, ?_, ?_, ?_, ?_, ?_, ?_, fun k => ?_⟩
  · rw [g0, l0]; omega
  · rw [g0, l0]; omega
  · rw [g1, l1]; omega
  · rw [g1, l1]; omega
  · rw [g2, l2]; omega
  · rw [g2, l2]; omega
  · rcases Nat.lt_or_ge k 14 with hk | hk
    · rw [normS_get _ (3 + k) (by omega)]
      have : lim (3 + k) = 256 := by unfold lim; rw [if_neg (by omega), if_neg (by omega), if_neg (by omega)]
      rw [this]; omega
    · have : gt (normS s) (3 + k) = 0 := by
        unfold gt List.getD
        rw [List.getElem?_eq_none (by rw [normS_len]; omega)]
        rfl
      omega
theorem forget_len (l : List Ent) : (St.forget l).length ≤ l.length := by unfold St.forget; rw [List.length_map]; exact List.length_filter_le _ _
theorem forget_cells (l : List Ent) : ∀ e ∈ St.forget l, 0 ≤ e.cells ∧ e.cells ≤ 128 := by
  intro e he
  obtain ⟨x, _, rfl⟩ := List.mem_map.1 he
  exact ⟨by simp, by simp⟩
theorem InvC.change {C K : Int} {σ : St} (h : InvC C K σ) (s : List Int) : InvC C K (σ.change s) := by
  unfold St.change
  refine ⟨normS_sok s, h.c0, h.c1, h.out, ?_, ?_, h.urg, h.noted, h.data, h.n0, h.n1, h.w0, h.w1⟩
  · dsimp only; have := h.inq; have := forget_len σ.inq; split <;> omega
  · dsimp only; split
    · exact h.cells
    · exact forget_cells _
theorem InvC.set {C K : Int} {σ : St} (h : InvC C K σ) (s : List Int) (k : Int) : InvC (C + 1) (K + 1) (σ.set s k).1 := by
  unfold St.set
  repeat' split
  · exact h.mono (by omega) (by omega)
  · exact h.mono (by omega) (by omega)
  · exact InvC.look (InvC.change (h.inq_ [] (by simp) (by simp)) s)
  · exact InvC.look (InvC.change h s)
theorem write_frame (l : List UInt8) : ∀ σ : St, ∃ o k, (σ.write l).1 = { σ with out := o, col := k } := by
  induction l with
  | nil => intro σ; exact ⟨σ.out, σ.col, rfl⟩
  | cons c r ih =>
    intro σ
    unfold St.write
    split
    · obtain ⟨o, k, e⟩ := ih (σ.put [c]).1
      obtain ⟨o', k', e'⟩ := put_frame σ [c]
      exact ⟨o, k, by rw [e, e']⟩
    · exact ⟨σ.out, σ.col, rfl⟩
theorem InvC.write {C K : Int} (l : List UInt8) : ∀ {σ : St}, InvC C K σ → InvC C K (σ.write l).1 := by
  induction l with
  | nil => intro σ h; exact h
  | cons c r ih =>
    intro σ h
    unfold St.write
    split
    · exact ih (h.put _)
    · exact h
theorem InvC.drain {C K : Int} {σ : St} (h : InvC C K σ) (n : Nat) : InvC (C + 2048) (K + 2048) (σ.drain n).1 := by
  have := h.c1; have := h.urg; have := h.noted; have := h.w1; have := h.w0; have := h.out; have := h.inq
  unfold St.drain
  dsimp only
  split
  · exact ⟨h.s, h.c0, by dsimp only; omega, h.out, h.inq, h.cells, by dsimp only; simp only [List.length_drop]; omega, by dsimp only; omega, h.data, h.n0, h.n1, h.w0, by dsimp only; omega⟩
  · exact ⟨h.s, h.c0, by dsimp only; simp only [List.length_drop]; omega, by dsimp only; simp only [List.length_drop]; omega, h.inq, h.cells, by dsimp only; simp only [List.length_drop]; omega, by dsimp only; omega, h.data, h.n0, h.n1, h.w0, by dsimp only; omega⟩
theorem InvC.new : InvC 0 0 newS := by
  have h := IP.new
  exact ⟨⟨h.ok.len, h.ok.i0, h.ok.i1, h.ok.o0, h.ok.o1, h.ok.l0, h.ok.l1, h.ok.ch⟩, by decide, by decide, by decide, by decide, by simp [newS], by decide, by decide, by decide, by decide, by decide, by decide, by decide⟩
/-- What stands empty is bounded by nothing. -/
theorem InvC.reset {C K : Int} {σ : St} (h : InvC C K σ) (M : Int) (hM : 0 ≤ M) (hu : σ.urg = []) (hn : σ.noted = []) (hw : σ.wait ≤ M) : InvC C M σ :=
  ⟨h.s, h.c0, h.c1, h.out, h.inq, h.cells, by rw [hu]; simpa using hM, by rw [hn]; simpa using hM, h.data, h.n0, h.n1, h.w0, hw⟩
/-- One number for all: the column may be 2^19 times as great. -/
abbrev Inv (K : Int) (σ : St) : Prop := InvC (524288 * K) K σ
theorem Inv.mk {C K M : Int} {σ : St} (h : InvC C K σ) (hc : C ≤ 524288 * M) (hk : K ≤ M) : Inv M σ := h.mono hc hk
theorem Inv.ok {K : Int} {σ : St} (h : Inv K σ) : Ok σ (524288 * K + 2048) := InvC.ok h
theorem Inv.mono {K M : Int} {σ : St} (h : Inv K σ) (hd : K ≤ M) : Inv M σ := InvC.mono h (by omega) hd
theorem Inv.new : Inv 0 newS := InvC.new
theorem Inv.raise {K : Int} {σ : St} (h : Inv K σ) (n : Int) : Inv (K + 2048) (σ.raise n) := Inv.mk (InvC.raise h n) (by omega) (by omega)
theorem Inv.sigs {K : Int} {σ : St} (h : Inv K σ) (c : UInt8) : Inv (K + 2048) (σ.sigs c).1 := Inv.mk (InvC.sigs h c) (by omega) (by omega)
theorem Inv.heed {K : Int} {σ : St} (h : Inv K σ) (c : UInt8) : Inv (K + 2048) (σ.heed c) := Inv.mk (InvC.heed h c) (by omega) (by omega)
theorem Inv.good2 {K : Int} {σ : St} (h : Inv K σ) (c : UInt8) : Inv (K + 2048) (σ.good2 c) := Inv.mk (InvC.good2 h c) (by omega) (by omega)
theorem Inv.good {K : Int} {σ : St} (h : Inv K σ) (c : UInt8) : Inv (K + 2048) (σ.good c) := Inv.mk (InvC.good h c) (by omega) (by omega)
theorem Inv.wrong {K : Int} {σ : St} (h : Inv K σ) (c : UInt8) : Inv (K + 2048) (σ.wrong c) := Inv.mk (InvC.wrong h c) (by omega) (by omega)
theorem Inv.broken {K : Int} {σ : St} (h : Inv K σ) : Inv (K + 2048) σ.broken := Inv.mk (InvC.broken h ) (by omega) (by omega)
theorem Inv.urge {K : Int} {σ : St} (h : Inv K σ) (k : Nat) : Inv (K + 1) (σ.urge k) := Inv.mk (InvC.urge h k) (by omega) (by omega)
theorem Inv.hold {K : Int} {σ : St} (h : Inv K σ) : Inv (K + 1) σ.hold := Inv.mk (InvC.hold h ) (by omega) (by omega)
theorem Inv.look {K : Int} {σ : St} (h : Inv K σ) : Inv (K + 1) σ.look := Inv.mk (InvC.look h ) (by omega) (by omega)
theorem Inv.receive {K : Int} {σ : St} (h : Inv K σ) (k : Int) (l : List UInt8) : Inv (K + 2049 * (l.length + 1)) (σ.receive k l).1 := Inv.mk (InvC.receive h k l) (by omega) (by omega)
theorem Inv.read {K : Int} {σ : St} (h : Inv K σ) (n : Int) : Inv (K + 1) (σ.read n).1 := Inv.mk (InvC.read h n) (by omega) (by omega)
theorem Inv.tick {K : Int} {σ : St} (h : Inv K σ) : Inv (K + 2) σ.tick := Inv.mk (InvC.tick h ) (by omega) (by omega)
theorem Inv.flush {K : Int} {σ : St} (h : Inv K σ) (k : Int) : Inv (K + 2049) (σ.flush k).1 := Inv.mk (InvC.flush h k) (by omega) (by omega)
theorem Inv.flow {K : Int} {σ : St} (h : Inv K σ) (k : Int) : Inv (K + 1) (σ.flow k).1 := Inv.mk (InvC.flow h k) (by omega) (by omega)
theorem Inv.set {K : Int} {σ : St} (h : Inv K σ) (s : List Int) (k : Int) : Inv (K + 1) (σ.set s k).1 := Inv.mk (InvC.set h s k) (by omega) (by omega)
theorem Inv.drain {K : Int} {σ : St} (h : Inv K σ) (n : Nat) : Inv (K + 2048) (σ.drain n).1 := Inv.mk (InvC.drain h n) (by omega) (by omega)
theorem Inv.change {K : Int} {σ : St} (h : Inv K σ) (s : List Int) : Inv K (σ.change s) := InvC.change h s
theorem Inv.ends {K : Int} {σ : St} (h : Inv K σ) : Inv K σ.ends := InvC.ends h
theorem Inv.k0 {K : Int} {σ : St} (h : Inv K σ) : 0 ≤ K := InvC.k0 h
theorem Inv.comes {f : St → UInt8 → St} (hf : ∀ {K : Int} {σ : St} (c : UInt8), Inv K σ → Inv (K + 2048) (f σ c)) (l : List UInt8) : ∀ {K : Int} {σ : St}, Inv K σ → Inv (K + 2049 * l.length) (St.comes f σ l) := by
  induction l with
  | nil => intro K σ h; simpa [St.comes] using h
  | cons c r ih =>
    intro K σ h
    unfold St.comes
    refine (ih (hf c h).look).mono ?_
    simp only [List.length_cons]; omega
end Go.Clk
namespace Go.Clk
open Go
namespace St
/-- The same terminal with another read. -/
def ph (σ : St) (r e : Bool) (k : Int) (d : List UInt8) (g : Int → Int) : St := { σ with reads := r, ended := e, n := k, data := d, wait := g σ.wait }
end St
/-- What does not look at the read, and turns of it the wait alone, to 0. -/
def Comm (f : St → St) : Prop := ∀ (σ : St) (r e : Bool) (k : Int) (d : List UInt8) (g : Int → Int), g 0 = 0 → f (σ.ph r e k d g) = (f σ).ph r e k d g

theorem Comm.comp {f h : St → St} (hf : Comm f) (hh : Comm h) : Comm fun σ => f (h σ) := fun σ r e k d g hg => by
  show f (h (σ.ph r e k d g)) = _
  rw [hh σ r e k d g hg, hf _ r e k d g hg]
theorem Comm.id : Comm fun σ => σ := fun _ _ _ _ _ _ _ => rfl
theorem Comm.ite {f h : St → St} (c : St → Bool) (hc : ∀ (σ : St) r e k d g, c (σ.ph r e k d g) = c σ) (hf : Comm f) (hh : Comm h) : Comm fun σ => if c σ then f σ else h σ := fun σ r e k d g hg => by
  show (if c (σ.ph r e k d g) then _ else _) = _
  rw [hc]
  dsimp only
  split
  · exact hf σ r e k d g hg
  · exact hh σ r e k d g hg
/-- Its answer is the same, too. -/
def Comm2 {α : Type} (f : St → St × α) : Prop := ∀ (σ : St) (r e : Bool) (k : Int) (d : List UInt8) (g : Int → Int), g 0 = 0 → f (σ.ph r e k d g) = ((f σ).1.ph r e k d g, (f σ).2)
theorem Comm2.fst {α : Type} {f : St → St × α} (h : Comm2 f) : Comm fun σ => (f σ).1 := fun σ r e k d g hg => by show (f (σ.ph r e k d g)).1 = ((f σ).1).ph r e k d g; rw [h σ r e k d g hg]

theorem put_ph (l : List UInt8) (σ : St) (r e : Bool) (k : Int) (d : List UInt8) (g : Int → Int) (_hg : g 0 = 0) : (σ.ph r e k d g).put l = ((σ.put l).1.ph r e k d g, (σ.put l).2) := by
  unfold St.put
  rw [putAll_render, putAll_render]
  by_cases h : 256 < (σ.out ++ (renderL σ.o σ.col l).1).length
  · have h' : 256 < ((σ.ph r e k d g).out ++ (renderL (σ.ph r e k d g).o (σ.ph r e k d g).col l).1).length := h
    rw [if_pos h', if_pos h]
  · have h' : ¬ 256 < ((σ.ph r e k d g).out ++ (renderL (σ.ph r e k d g).o (σ.ph r e k d g).col l).1).length := h
    rw [if_neg h', if_neg h]
    rfl
theorem put_comm2 (l : List UInt8) : Comm2 fun σ => σ.put l := fun σ r e k d g hg => put_ph l σ r e k d g hg
theorem put_ph1 (l : List UInt8) (σ : St) (r e : Bool) (k : Int) (d : List UInt8) (g : Int → Int) (hg : g 0 = 0) : ((σ.ph r e k d g).put l).1 = (σ.put l).1.ph r e k d g := by rw [put_ph l σ r e k d g hg]
theorem put_comm (l : List UInt8) : Comm fun σ => (σ.put l).1 := (put_comm2 l).fst
theorem echo1_ph (c : UInt8) (σ : St) (r e : Bool) (k : Int) (d : List UInt8) (g : Int → Int) (hg : g 0 = 0) : (σ.ph r e k d g).echo1 c = (σ.echo1 c).ph r e k d g := by
  unfold St.echo1
  rw [show (σ.ph r e k d g).echoes c = σ.echoes c from rfl, show (σ.ph r e k d g).shows c = σ.shows c from rfl]
  split
  · exact put_ph1 _ σ r e k d g hg
  · rfl
theorem echo1_comm (c : UInt8) : Comm fun σ => σ.echo1 c := fun σ r e k d g hg => echo1_ph c σ r e k d g hg
theorem cells_ph (c : UInt8) (σ : St) (r e : Bool) (k : Int) (d : List UInt8) (g : Int → Int) (hg : g 0 = 0) : (σ.ph r e k d g).cellsOf c = σ.cellsOf c := by
  unfold St.cellsOf
  rw [echo1_ph c σ r e k d g hg]
  rfl
theorem lays_ph (a : Ent) (σ : St) (r e : Bool) (k : Int) (d : List UInt8) (g : Int → Int) (hg : g 0 = 0) : (σ.ph r e k d g).lays a = (σ.lays a).ph r e k d g := by
  unfold St.lays
  rw [show (σ.ph r e k d g).most a.fin = σ.most a.fin from rfl, show (σ.ph r e k d g).I 4096 = σ.I 4096 from rfl, cells_ph a.b σ r e k d g hg, echo1_ph a.b σ r e k d g hg, put_ph1 [7] σ r e k d g hg]
  by_cases h1 : σ.most a.fin ≤ σ.inq.length
  · have h1' : σ.most a.fin ≤ (σ.ph r e k d g).inq.length := h1
    rw [if_pos h1, if_pos h1']
    by_cases h2 : σ.I 4096 = true
    · rw [if_pos h2, if_pos h2]
    · rw [if_neg h2, if_neg h2]
  · have h1' : ¬ σ.most a.fin ≤ (σ.ph r e k d g).inq.length := h1
    rw [if_neg h1, if_neg h1']
    by_cases h2 : a.file = true
    · rw [if_pos h2, if_pos h2]
      dsimp only [St.ph]; rw [hg]
    · rw [if_neg h2, if_neg h2]
      dsimp only [St.ph]; rw [hg]
theorem lays_comm (a : Ent) : Comm fun σ => σ.lays a := fun σ r e k d g hg => lays_ph a σ r e k d g hg
theorem plain_ph (c : UInt8) (σ : St) (r e : Bool) (k : Int) (d : List UInt8) (g : Int → Int) (hg : g 0 = 0) : (σ.ph r e k d g).plain c = (σ.plain c).ph r e k d g := lays_ph _ σ r e k d g hg
theorem plain_comm (c : UInt8) : Comm fun σ => σ.plain c := lays_comm _
theorem raise_ph (n : Int) (σ : St) (r e : Bool) (k : Int) (d : List UInt8) (g : Int → Int) (_hg : g 0 = 0) : (σ.ph r e k d g).raise n = (σ.raise n).ph r e k d g := by
  unfold St.raise
  rw [show (σ.ph r e k d g).L 256 = σ.L 256 from rfl]
  split <;> rfl
theorem raise_comm (n : Int) : Comm fun σ => σ.raise n := fun σ r e k d g hg => raise_ph n σ r e k d g hg
theorem rub_ph (s : Bool) (n : Nat) (σ : St) (r e : Bool) (k : Int) (d : List UInt8) (g : Int → Int) (hg : g 0 = 0) : St.rub s n (σ.ph r e k d g) = (St.rub s n σ).ph r e k d g := by
  induction n generalizing σ with
  | zero => rfl
  | succ n ih =>
    unfold St.rub
    rw [show (σ.ph r e k d g).inq = σ.inq from rfl]
    cases σ.inq.getLast? with
    | none => rfl
    | some a =>
      dsimp only
      have h1 : ({ σ.ph r e k d g with inq := σ.inq.dropLast } : St) = ({ σ with inq := σ.inq.dropLast } : St).ph r e k d g := rfl
      rw [h1, put_ph1 (rubOne a) _ r e k d g hg]
      split
      · exact ih _
      · exact ih _
theorem rub_comm (s : Bool) (n : Nat) : Comm fun σ => St.rub s n σ := fun σ r e k d g hg => rub_ph s n σ r e k d g hg
theorem rubs_ph (n : Nat) (c : UInt8) (σ : St) (r e : Bool) (k : Int) (d : List UInt8) (g : Int → Int) (hg : g 0 = 0) : (σ.ph r e k d g).rubs n c = (σ.rubs n c).ph r e k d g := by
  unfold St.rubs
  rw [show (σ.ph r e k d g).L 4 = σ.L 4 from rfl, show (σ.ph r e k d g).L 8 = σ.L 8 from rfl, rub_ph _ n σ r e k d g hg, echo1_ph c _ r e k d g hg]
  split <;> rfl
theorem rubs_comm (n : Nat) (c : UInt8) : Comm fun σ => σ.rubs n c := fun σ r e k d g hg => rubs_ph n c σ r e k d g hg
theorem kills_ph (n : Nat) (c : UInt8) (σ : St) (r e : Bool) (k : Int) (d : List UInt8) (g : Int → Int) (hg : g 0 = 0) : (σ.ph r e k d g).kills n c = (σ.kills n c).ph r e k d g := by
  unfold St.kills
  rw [show (σ.ph r e k d g).L 4 = σ.L 4 from rfl, show (σ.ph r e k d g).L 8 = σ.L 8 from rfl, show (σ.ph r e k d g).L 128 = σ.L 128 from rfl, show (σ.ph r e k d g).L 16 = σ.L 16 from rfl, rub_ph _ n σ r e k d g hg, echo1_ph c _ r e k d g hg, put_ph1 [10] _ r e k d g hg]
  split
  · split <;> rfl
  · rfl
theorem kills_comm (n : Nat) (c : UInt8) : Comm fun σ => σ.kills n c := fun σ r e k d g hg => kills_ph n c σ r e k d g hg
theorem rep_ph (j : Nat) (σ : St) (r e : Bool) (k : Int) (d : List UInt8) (g : Int → Int) (hg : g 0 = 0) : (σ.ph r e k d g).rep j = (σ.rep j).ph r e k d g := by
  unfold St.rep
  rw [show (σ.ph r e k d g).inq = σ.inq from rfl]
  cases σ.inq[j]? with
  | none => rfl
  | some a =>
    dsimp only
    rw [cells_ph a.b σ r e k d g hg, echo1_ph a.b σ r e k d g hg]
    rfl
theorem rep_comm (j : Nat) : Comm fun σ => σ.rep j := fun σ r e k d g hg => rep_ph j σ r e k d g hg
theorem reps_ph (n : Nat) : ∀ (j : Nat) (σ : St) (r e : Bool) (k : Int) (d : List UInt8) (g : Int → Int) (_ : g 0 = 0), St.reps n j (σ.ph r e k d g) = (St.reps n j σ).ph r e k d g := by
  induction n with
  | zero => intro j σ r e k d g hg; rfl
  | succ n ih =>
    intro j σ r e k d g hg
    show St.reps n (j + 1) ((σ.ph r e k d g).rep j) = (St.reps n (j + 1) (σ.rep j)).ph r e k d g
    rw [rep_ph j σ r e k d g hg]
    exact ih (j + 1) _ r e k d g hg
theorem reps_comm (n j : Nat) : Comm fun σ => St.reps n j σ := fun σ r e k d g hg => reps_ph n j σ r e k d g hg
theorem reprint_ph (c : UInt8) (σ : St) (r e : Bool) (k : Int) (d : List UInt8) (g : Int → Int) (hg : g 0 = 0) : (σ.ph r e k d g).reprint c = (σ.reprint c).ph r e k d g := by
  unfold St.reprint
  rw [show (σ.ph r e k d g).inq = σ.inq from rfl, echo1_ph c σ r e k d g hg, put_ph1 [10] _ r e k d g hg]
  exact reps_ph _ _ _ r e k d g hg
theorem reprint_comm (c : UInt8) : Comm fun σ => σ.reprint c := fun σ r e k d g hg => reprint_ph c σ r e k d g hg
theorem quote_ph  (σ : St) (r e : Bool) (k : Int) (d : List UInt8) (g : Int → Int) (hg : g 0 = 0) : (σ.ph r e k d g).quote = (σ.quote).ph r e k d g := by
  unfold St.quote
  rw [show (σ.ph r e k d g).L 4 = σ.L 4 from rfl, show (σ.ph r e k d g).L 64 = σ.L 64 from rfl]
  have h1 : ({ σ.ph r e k d g with quoted := true } : St) = ({ σ with quoted := true } : St).ph r e k d g := rfl
  rw [h1, put_ph1 [94, 8] _ r e k d g hg]
  split <;> rfl
theorem quote_comm  : Comm fun σ => σ.quote := fun σ r e k d g hg => quote_ph  σ r e k d g hg
theorem edits_ph (c : UInt8) (σ : St) (r e : Bool) (k : Int) (d : List UInt8) (g : Int → Int) (hg : g 0 = 0) : (σ.ph r e k d g).edits c = ((σ.edits c).1.ph r e k d g, (σ.edits c).2) := by
  unfold St.edits
  simp only [show ∀ j, (σ.ph r e k d g).isC c j = σ.isC c j from fun _ => rfl, show ∀ j, (σ.ph r e k d g).L j = σ.L j from fun _ => rfl, show (σ.ph r e k d g).inq = σ.inq from rfl, rubs_ph _ c σ r e k d g hg, kills_ph _ c σ r e k d g hg, quote_ph σ r e k d g hg, reprint_ph c σ r e k d g hg, lays_ph _ σ r e k d g hg]
  repeat' split
  all_goals rfl
theorem edits_comm2 (c : UInt8) : Comm2 fun σ => σ.edits c := fun σ r e k d g hg => edits_ph c σ r e k d g hg
theorem flows_ph (c : UInt8) (σ : St) (r e : Bool) (k : Int) (d : List UInt8) (g : Int → Int) (_hg : g 0 = 0) : (σ.ph r e k d g).flows c = ((σ.flows c).1.ph r e k d g, (σ.flows c).2) := by
  unfold St.flows
  simp only [show ∀ j, (σ.ph r e k d g).isC c j = σ.isC c j from fun _ => rfl, show ∀ j, (σ.ph r e k d g).I j = σ.I j from fun _ => rfl]
  repeat' split
  all_goals rfl
theorem flows_comm2 (c : UInt8) : Comm2 fun σ => σ.flows c := fun σ r e k d g hg => flows_ph c σ r e k d g hg
theorem sigs_ph (c : UInt8) (σ : St) (r e : Bool) (k : Int) (d : List UInt8) (g : Int → Int) (hg : g 0 = 0) : (σ.ph r e k d g).sigs c = ((σ.sigs c).1.ph r e k d g, (σ.sigs c).2) := by
  unfold St.sigs
  simp only [show ∀ j, (σ.ph r e k d g).isC c j = σ.isC c j from fun _ => rfl, show ∀ j, (σ.ph r e k d g).L j = σ.L j from fun _ => rfl, raise_ph _ σ r e k d g hg, echo1_ph c _ r e k d g hg]
  repeat' split
  all_goals rfl
theorem sigs_comm2 (c : UInt8) : Comm2 fun σ => σ.sigs c := fun σ r e k d g hg => sigs_ph c σ r e k d g hg
theorem line_ph (c : UInt8) (σ : St) (r e : Bool) (k : Int) (d : List UInt8) (g : Int → Int) (hg : g 0 = 0) : (σ.ph r e k d g).line c = (σ.line c).ph r e k d g := by
  unfold St.line
  rw [show (σ.ph r e k d g).L 2 = σ.L 2 from rfl, edits_ph c σ r e k d g hg, plain_ph c σ r e k d g hg]
  repeat' split
  all_goals rfl
theorem line_comm (c : UInt8) : Comm fun σ => σ.line c := fun σ r e k d g hg => line_ph c σ r e k d g hg
theorem late_ph (c : UInt8) (σ : St) (r e : Bool) (k : Int) (d : List UInt8) (g : Int → Int) (hg : g 0 = 0) : (σ.ph r e k d g).late c = (σ.late c).ph r e k d g := by
  unfold St.late
  simp only [show ∀ j, (σ.ph r e k d g).I j = σ.I j from fun _ => rfl, line_ph _ σ r e k d g hg]
  repeat' split
  all_goals rfl
theorem late_comm (c : UInt8) : Comm fun σ => σ.late c := fun σ r e k d g hg => late_ph c σ r e k d g hg
theorem heed_ph (c : UInt8) (σ : St) (r e : Bool) (k : Int) (d : List UInt8) (g : Int → Int) (hg : g 0 = 0) : (σ.ph r e k d g).heed c = (σ.heed c).ph r e k d g := by
  unfold St.heed
  rw [flows_ph c σ r e k d g hg]
  dsimp only
  rw [sigs_ph c _ r e k d g hg, late_ph c _ r e k d g hg]
  repeat' split
  all_goals rfl
theorem heed_comm (c : UInt8) : Comm fun σ => σ.heed c := fun σ r e k d g hg => heed_ph c σ r e k d g hg
theorem good2_ph (c : UInt8) (σ : St) (r e : Bool) (k : Int) (d : List UInt8) (g : Int → Int) (hg : g 0 = 0) : (σ.ph r e k d g).good2 c = (σ.good2 c).ph r e k d g := by
  unfold St.good2
  have h1 : ({ σ.ph r e k d g with quoted := false } : St) = ({ σ with quoted := false } : St).ph r e k d g := rfl
  rw [show (σ.ph r e k d g).quoted = σ.quoted from rfl, h1, plain_ph c _ r e k d g hg, heed_ph c σ r e k d g hg]
  split <;> rfl
theorem good2_comm (c : UInt8) : Comm fun σ => σ.good2 c := fun σ r e k d g hg => good2_ph c σ r e k d g hg
theorem good_ph (c : UInt8) (σ : St) (r e : Bool) (k : Int) (d : List UInt8) (g : Int → Int) (hg : g 0 = 0) : (σ.ph r e k d g).good c = (σ.good c).ph r e k d g := by
  unfold St.good
  simp only [show ∀ j, (σ.ph r e k d g).I j = σ.I j from fun _ => rfl, show ∀ c, (σ.ph r e k d g).small c = σ.small c from fun _ => rfl, good2_ph _ σ r e k d g hg, plain_ph _ _ r e k d g hg]
  repeat' split
  all_goals rfl
theorem good_comm (c : UInt8) : Comm fun σ => σ.good c := fun σ r e k d g hg => good_ph c σ r e k d g hg
theorem wrong_ph (c : UInt8) (σ : St) (r e : Bool) (k : Int) (d : List UInt8) (g : Int → Int) (hg : g 0 = 0) : (σ.ph r e k d g).wrong c = (σ.wrong c).ph r e k d g := by
  unfold St.wrong
  simp only [show ∀ j, (σ.ph r e k d g).I j = σ.I j from fun _ => rfl, plain_ph _ _ r e k d g hg]
  repeat' split
  all_goals rfl
theorem wrong_comm (c : UInt8) : Comm fun σ => σ.wrong c := fun σ r e k d g hg => wrong_ph c σ r e k d g hg
theorem broken_ph  (σ : St) (r e : Bool) (k : Int) (d : List UInt8) (g : Int → Int) (hg : g 0 = 0) : (σ.ph r e k d g).broken = (σ.broken).ph r e k d g := by
  unfold St.broken
  simp only [show ∀ j, (σ.ph r e k d g).I j = σ.I j from fun _ => rfl, plain_ph _ _ r e k d g hg, raise_ph _ σ r e k d g hg]
  repeat' split
  all_goals rfl
theorem broken_comm  : Comm fun σ => σ.broken := fun σ r e k d g hg => broken_ph  σ r e k d g hg
theorem urge_ph (j : Nat) (σ : St) (r e : Bool) (k : Int) (d : List UInt8) (g : Int → Int) (_hg : g 0 = 0) : (σ.ph r e k d g).urge j = (σ.urge j).ph r e k d g := by
  unfold St.urge
  rw [show (σ.ph r e k d g).ch j = σ.ch j from rfl]
  split <;> rfl
theorem urge_comm (j : Nat) : Comm fun σ => σ.urge j := fun σ r e k d g hg => urge_ph j σ r e k d g hg
theorem hold_ph  (σ : St) (r e : Bool) (k : Int) (d : List UInt8) (g : Int → Int) (hg : g 0 = 0) : (σ.ph r e k d g).hold = (σ.hold).ph r e k d g := by
  unfold St.hold
  rw [show (σ.ph r e k d g).I 2048 = σ.I 2048 from rfl, show (σ.ph r e k d g).held = σ.held from rfl]
  by_cases h1 : (σ.I 2048 && (!σ.held && decide (192 ≤ σ.inq.length))) = true
  · have h1' : (σ.I 2048 && (!σ.held && decide (192 ≤ (σ.ph r e k d g).inq.length))) = true := h1
    rw [if_pos h1, if_pos h1']
    exact urge_ph 9 { σ with held := true } r e k d g hg
  · have h1' : ¬ (σ.I 2048 && (!σ.held && decide (192 ≤ (σ.ph r e k d g).inq.length))) = true := h1
    rw [if_neg h1, if_neg h1']
    by_cases h2 : (σ.held && (!σ.I 2048 || decide (σ.inq.length ≤ 64))) = true
    · have h2' : (σ.held && (!σ.I 2048 || decide ((σ.ph r e k d g).inq.length ≤ 64))) = true := h2
      rw [if_pos h2, if_pos h2']
      exact urge_ph 8 { σ with held := false } r e k d g hg
    · have h2' : ¬ (σ.held && (!σ.I 2048 || decide ((σ.ph r e k d g).inq.length ≤ 64))) = true := h2
      rw [if_neg h2, if_neg h2']
theorem hold_comm  : Comm fun σ => σ.hold := fun σ r e k d g hg => hold_ph  σ r e k d g hg
theorem write_ph (l : List UInt8) : ∀ (σ : St) (r e : Bool) (k : Int) (d : List UInt8) (g : Int → Int) (_ : g 0 = 0), (σ.ph r e k d g).write l = ((σ.write l).1.ph r e k d g, (σ.write l).2) := by
  induction l with
  | nil => intro σ r e k d g hg; rfl
  | cons c l ih =>
    intro σ r e k d g hg
    unfold St.write
    rw [put_ph [c] σ r e k d g hg]
    dsimp only
    rw [ih (σ.put [c]).1 r e k d g hg]
    split <;> rfl
theorem write_comm2 (l : List UInt8) : Comm2 fun σ => σ.write l := fun σ r e k d g hg => write_ph l σ r e k d g hg
theorem drain_ph (n : Nat) (σ : St) (r e : Bool) (k : Int) (d : List UInt8) (g : Int → Int) (_hg : g 0 = 0) : (σ.ph r e k d g).drain n = ((σ.drain n).1.ph r e k d g, (σ.drain n).2) := by
  obtain ⟨ss, inq, out, urg, col, stopped, held, quoted, noted, reads, ended, n', data, wait⟩ := σ
  cases stopped <;> rfl
theorem drain_comm2 (n : Nat) : Comm2 fun σ => σ.drain n := fun σ r e k d g hg => drain_ph n σ r e k d g hg
theorem change_ph (s : List Int) (σ : St) (r e : Bool) (k : Int) (d : List UInt8) (g : Int → Int) (_hg : g 0 = 0) : (σ.ph r e k d g).change s = (σ.change s).ph r e k d g := rfl
theorem change_comm (s : List Int) : Comm fun σ => σ.change s := fun σ r e k d g hg => change_ph s σ r e k d g hg
theorem signals_ph  (σ : St) (r e : Bool) (k : Int) (d : List UInt8) (g : Int → Int) (_hg : g 0 = 0) : (σ.ph r e k d g).signals = ((σ.signals).1.ph r e k d g, (σ.signals).2) := rfl
theorem signals_comm2  : Comm2 fun σ => σ.signals := fun σ r e k d g hg => signals_ph  σ r e k d g hg
theorem flow_ph (n : Int) (σ : St) (r e : Bool) (k : Int) (d : List UInt8) (g : Int → Int) (hg : g 0 = 0) : (σ.ph r e k d g).flow n = ((σ.flow n).1.ph r e k d g, (σ.flow n).2) := by
  unfold St.flow
  rw [urge_ph 9 σ r e k d g hg, urge_ph 8 σ r e k d g hg]
  repeat' split
  all_goals rfl

theorem flow_comm2 (n : Int) : Comm2 fun σ => σ.flow n := fun σ r e k d g hg => flow_ph n σ r e k d g hg
/-- The program's terminal ρ stands as the document's σ. -/
def Sim (ρ σ : St) : Prop := ∃ r e k d g, ρ = σ.ph r e k d g ∧ (∀ v, 0 ≤ v → 0 ≤ g v ∧ g v ≤ v ∧ g v ≤ 255) ∧ d.length ≤ 256 ∧ k = (if σ.reads then σ.n else 0) ∧ e = (σ.reads && σ.ended) ∧
  (σ.reads = true → σ.ended = true → d = σ.data) ∧ (σ.reads = true → 0 < σ.n ∧ ∀ v, 0 ≤ v → g v = min v 255)

theorem Comm.frame {f : St → St} (hf : Comm f) (σ : St) : (f σ).reads = σ.reads ∧ (f σ).ended = σ.ended ∧ (f σ).n = σ.n ∧ (f σ).data = σ.data := by
  have h := hf σ σ.reads σ.ended σ.n σ.data (fun v => v) rfl
  have h0 : σ.ph σ.reads σ.ended σ.n σ.data (fun v => v) = σ := rfl
  rw [h0] at h
  rw [h]
  exact ⟨rfl, rfl, rfl, rfl⟩
theorem Comm.sim {f : St → St} (hf : Comm f) {ρ σ : St} (h : Sim ρ σ) : Sim (f ρ) (f σ) := by
  obtain ⟨r, e, k, d, g, rfl, hg, hd, hk, he, h1, h2⟩ := h
  obtain ⟨f1, f2, f3, f4⟩ := hf.frame σ
  have hg0 : g 0 = 0 := by have := hg 0 (by omega); omega
  exact ⟨r, e, k, d, g, hf σ r e k d g hg0, hg, hd, by rw [f1, f3]; exact hk, by rw [f1, f2]; exact he, by rw [f1, f2, f4]; exact h1, by rw [f1, f3]; exact h2⟩
theorem Comm2.sim {α : Type} {f : St → St × α} (hf : Comm2 f) {ρ σ : St} (h : Sim ρ σ) : Sim (f ρ).1 (f σ).1 ∧ (f ρ).2 = (f σ).2 := by
  refine ⟨hf.fst.sim h, ?_⟩
  obtain ⟨r, e, k, d, g, rfl, hg, _⟩ := h
  have hg0 : g 0 = 0 := by have := hg 0 (by omega); omega
  rw [hf σ r e k d g hg0]
theorem Sim.inv {K : Int} {ρ σ : St} (h : Sim ρ σ) (ok : Inv K σ) : Inv K ρ := by
  obtain ⟨r, e, k, d, g, rfl, hg, hd, rfl, rfl, h1, h2⟩ := h
  have hw := hg σ.wait ok.w0
  have := ok.w1
  refine ⟨ok.s, ok.c0, ok.c1, ok.out, ok.inq, ok.cells, ok.urg, ok.noted, hd, ?_, ?_, hw.1, ?_⟩
  · have := ok.n0
    dsimp only [St.ph]; split <;> omega
  · have := ok.n1
    dsimp only [St.ph]; split <;> omega
  · dsimp only [St.ph]; omega
theorem Sim.new : Sim newS newS := ⟨false, false, 0, [], fun v => min v 255, rfl, fun v hv => by dsimp only; omega, by simp, rfl, rfl, fun h => by simp [newS] at h, fun h => by simp [newS] at h⟩

namespace St
def pready (ρ : St) : Bool :=
  if ρ.L 2 then ρ.inq.any (·.fin)
  else if ρ.ch 12 = 0 then decide (0 < ρ.inq.length) || decide (ρ.ch 13 ≤ ρ.wait)
  else if ρ.ch 13 = 0 then decide (min (ρ.ch 12) ρ.n ≤ ρ.inq.length)
  else decide (min (ρ.ch 12) ρ.n ≤ ρ.inq.length) || (decide (0 < ρ.inq.length) && decide (ρ.ch 13 ≤ ρ.wait))
def pends (ρ : St) : St :=
  if decide (0 < ρ.n) && (!ρ.ended && ρ.pready) then { ρ with ended := true, inq := (fetch ρ.n ρ.inq []).1, data := (fetch ρ.n ρ.inq []).2 } else ρ
def plook (ρ : St) : St := ρ.pends.hold
def pread (ρ : St) (n : Int) : St × Int :=
  if n < 1 ∨ 256 < n then (ρ, 2)
  else if 0 < ρ.n then (ρ, 3)
  else (({ ρ with n := n, wait := 0, ended := false, data := [] } : St).plook, 0)
def ptake (ρ : St) : St × List UInt8 × Bool × Int :=
  if 0 < ρ.n then (if ρ.ended then ({ ρ with n := 0, wait := 0, ended := false, data := [] }, ρ.data, true, 0) else (ρ, [], false, 0)) else (ρ, [], false, 4)
def ptick (ρ : St) : St := ({ ρ with wait := min (ρ.wait + 1) 255 } : St).plook
def pcomes (f : St → UInt8 → St) : St → List UInt8 → St
  | ρ, [] => ρ
  | ρ, c :: r => pcomes f (f ρ c).plook r
def preceive (ρ : St) (k : Int) (s : List UInt8) : St × Int :=
  if k < 0 ∨ 2 < k then (ρ, 1)
  else if k = 2 then (ρ.broken.plook, 0)
  else if k = 1 then (pcomes wrong ρ s, 0)
  else (pcomes good ρ s, 0)
def pflush (ρ : St) (k : Int) : St × Int :=
  if k < 1 ∨ 3 < k then (ρ, 1)
  else (({ ρ with inq := if k = 2 then ρ.inq else [], out := if k = 1 then ρ.out else [] } : St).plook, 0)
def pset (ρ : St) (s : List Int) (k : Int) : St × Int :=
  if k < 0 ∨ 2 < k then (ρ, 1)
  else if 0 < k ∧ ρ.out ≠ [] then (ρ, 3)
  else ((({ ρ with inq := if k = 2 then [] else ρ.inq } : St).change s).plook, 0)
end St

theorem Sim.ready {K : Int} {ρ σ : St} (h : Sim ρ σ) (ok : Inv K σ) (hr : σ.reads = true) : ρ.pready = σ.ready := by
  obtain ⟨r, e, k, d, g, rfl, hg, hd, rfl, rfl, h1, h2⟩ := h
  obtain ⟨hn, hw⟩ := h2 hr
  have e1 : (σ.ph r (σ.reads && σ.ended) (if σ.reads then σ.n else 0) d g).n = σ.n := by dsimp only [St.ph]; rw [if_pos hr]
  have e2 : (σ.ph r (σ.reads && σ.ended) (if σ.reads then σ.n else 0) d g).wait = min σ.wait 255 := hw _ ok.w0
  unfold St.pready St.ready
  rw [e1, e2]
  have ht := ok.s.ch 13
  have ht' : 0 ≤ σ.ch 13 ∧ σ.ch 13 < 256 := ht
  have e3 : decide (σ.ch 13 ≤ min σ.wait 255) = decide (σ.ch 13 ≤ σ.wait) := by
    apply decide_eq_decide.2; omega
  show (if σ.L 2 then _ else if σ.ch 12 = 0 then _ || decide (σ.ch 13 ≤ min σ.wait 255) else if σ.ch 13 = 0 then _ else _ || (_ && decide (σ.ch 13 ≤ min σ.wait 255))) = _
  rw [e3]
  by_cases hl : σ.L 2 = true
  · rw [if_pos hl, if_pos hl]; rfl
  · rw [if_neg hl, if_neg hl]
    by_cases h12 : σ.ch 12 = 0
    · rw [if_pos h12, if_pos h12]
      by_cases h13 : σ.ch 13 = 0
      · rw [if_pos h13]
        have := ok.w0
        have : decide (σ.ch 13 ≤ σ.wait) = true := decide_eq_true (by omega)
        rw [this, Bool.or_true]
      · rw [if_neg h13]; rfl
    · rw [if_neg h12, if_neg h12]
      by_cases h13 : σ.ch 13 = 0
      · rw [if_pos h13]
        have : decide (0 < σ.ch 13) = false := decide_eq_false (by omega)
        rw [this, Bool.false_and, Bool.or_false]; rfl
      · rw [if_neg h13]
        have : decide (0 < σ.ch 13) = true := decide_eq_true (by omega)
        rw [this, Bool.true_and]; rfl
theorem Sim.ends {K : Int} {ρ σ : St} (h : Sim ρ σ) (ok : Inv K σ) : Sim ρ.pends σ.ends := by
  by_cases hr : σ.reads = true
  · have hq := h.ready ok hr
    obtain ⟨r, e, k, d, g, rfl, hg, hd, rfl, rfl, h1, h2⟩ := h
    obtain ⟨hn, hw⟩ := h2 hr
    have e1 : (σ.ph r (σ.reads && σ.ended) (if σ.reads then σ.n else 0) d g).n = σ.n := by dsimp only [St.ph]; rw [if_pos hr]
    have e2 : (σ.ph r (σ.reads && σ.ended) (if σ.reads then σ.n else 0) d g).ended = σ.ended := by dsimp only [St.ph]; rw [hr, Bool.true_and]
    unfold St.pends St.ends
    rw [hq, e1, e2, hr]
    have : decide (0 < σ.n) = true := decide_eq_true hn
    rw [this, Bool.true_and, Bool.true_and]
    by_cases hc : (!σ.ended && σ.ready) = true
    · rw [if_pos hc, if_pos hc]
      have hf := fetch_inv σ.n ok.n0 σ.inq [] (by simpa using ok.n0)
      refine ⟨r, true, σ.n, (fetch σ.n σ.inq []).2, g, ?_, hg, ?_, ?_, ?_, fun _ _ => rfl, fun _ => ⟨hn, hw⟩⟩
      · rfl
      · have := ok.n1; have := hf.2.2; omega
      · rfl
      · rfl
    · rw [if_neg hc, if_neg hc]
      exact ⟨r, _, _, d, g, rfl, hg, hd, by rw [hr], by rw [hr]; rfl, h1, fun _ => ⟨hn, hw⟩⟩
  · have hrf : σ.reads = false := by simpa using hr
    have e0 : σ.ends = σ := by unfold St.ends; rw [hrf]; rfl
    have e1 : ρ.n = 0 := by
      obtain ⟨r, e, k, d, g, rfl, hg, hd, rfl, _⟩ := h
      dsimp only [St.ph]; rw [hrf]; rfl
    have e2 : ρ.pends = ρ := by unfold St.pends; rw [e1]; rfl
    rw [e0, e2]; exact h
theorem Sim.look {K : Int} {ρ σ : St} (h : Sim ρ σ) (ok : Inv K σ) : Sim ρ.plook σ.look := hold_comm.sim (h.ends ok)
theorem Sim.n0 {ρ σ : St} (h : Sim ρ σ) : (0 < ρ.n ↔ σ.reads = true) ∧ (σ.reads = true → ρ.ended = σ.ended) := by
  obtain ⟨r, e, k, d, g, rfl, hg, hd, rfl, rfl, h1, h2⟩ := h
  dsimp only [St.ph]
  cases hr : σ.reads with
  | true => simp [(h2 hr).1]
  | false => simp
theorem Sim.read {K : Int} {ρ σ : St} (h : Sim ρ σ) (ok : Inv K σ) (n : Int) : Sim (ρ.pread n).1 (σ.read n).1 ∧ (ρ.pread n).2 = (σ.read n).2 := by
  have hn := h.n0
  unfold St.pread St.read
  by_cases h1 : n < 1 ∨ 256 < n
  · rw [if_pos h1, if_pos h1]; exact ⟨h, rfl⟩
  · rw [if_neg h1, if_neg h1]
    by_cases h2 : σ.reads = true
    · rw [if_pos (hn.1.2 h2), if_pos h2]; exact ⟨h, rfl⟩
    · rw [if_neg (fun c => h2 (hn.1.1 c)), if_neg h2]
      refine ⟨?_, rfl⟩
      refine Sim.look (K := K) ?_ ⟨ok.s, ok.c0, ok.c1, ok.out, ok.inq, ok.cells, ok.urg, ok.noted, ok.data, by dsimp only; omega, by dsimp only; omega, by simp, ok.k0⟩
      obtain ⟨r, e, k, d, g, rfl, hg, hd, rfl, rfl, h3, h4⟩ := h
      exact ⟨r, false, n, [], fun v => min v 255, rfl, fun v hv => by dsimp only; omega, by simp, rfl, rfl, fun _ h => by simp at h, fun _ => ⟨by dsimp only; omega, fun _ _ => rfl⟩⟩
theorem Sim.take {K : Int} {ρ σ : St} (h : Sim ρ σ) (_ok : Inv K σ) : Sim ρ.ptake.1 σ.take.1 ∧ ρ.ptake.2 = σ.take.2 := by
  have hn := h.n0
  unfold St.ptake St.take
  by_cases h2 : σ.reads = true
  · rw [if_pos (hn.1.2 h2), if_pos h2, hn.2 h2]
    by_cases h3 : σ.ended = true
    · rw [if_pos h3, if_pos h3]
      obtain ⟨r, e, k, d, g, rfl, hg, hd, rfl, rfl, h5, h4⟩ := h
      refine ⟨⟨r, false, 0, [], fun _ => 0, rfl, fun v hv => by dsimp only; omega, by simp, rfl, rfl, fun h => by simp at h, fun h => by simp at h⟩, ?_⟩
      dsimp only [St.ph]
      rw [h5 h2 h3]
    · rw [if_neg h3, if_neg h3]; exact ⟨h, rfl⟩
  · rw [if_neg (fun c => h2 (hn.1.1 c)), if_neg h2]; exact ⟨h, rfl⟩
theorem Sim.tick {K : Int} {ρ σ : St} (h : Sim ρ σ) (ok : Inv K σ) : Sim ρ.ptick σ.tick := by
  unfold St.ptick St.tick
  have hw0 := ok.w0
  refine Sim.look (K := K + 1) ?_ ⟨ok.s, ok.c0, by have := ok.c1; dsimp only; omega, ok.out, ok.inq, ok.cells, by have := ok.urg; dsimp only; omega, by have := ok.noted; dsimp only; omega, ok.data, ok.n0, ok.n1, by dsimp only; omega, by have := ok.w1; dsimp only; omega⟩
  obtain ⟨r, e, k, d, g, rfl, hg, hd, rfl, rfl, h3, h4⟩ := h
  have h5 := hg σ.wait hw0
  by_cases hr : σ.reads = true
  · obtain ⟨hn, hw⟩ := h4 hr
    refine ⟨r, _, _, d, g, ?_, hg, hd, rfl, rfl, h3, h4⟩
    dsimp only [St.ph]
    congr 1
    rw [hw _ hw0, hw _ (by omega)]
    omega
  · refine ⟨r, _, _, d, fun v => min (min (g σ.wait + 1) 255) v, ?_, fun v hv => by dsimp only; omega, hd, rfl, rfl, h3, fun h => (hr h).elim⟩
    dsimp only [St.ph]
    congr 1
    omega
theorem Sim.comes {f : St → UInt8 → St} (hf : ∀ c, Comm fun σ => f σ c) (hi : ∀ {K : Int} {σ : St} (c : UInt8), Inv K σ → Inv (K + 2048) (f σ c)) (l : List UInt8) : ∀ {K : Int} {ρ σ : St}, Sim ρ σ → Inv K σ → Sim (St.pcomes f ρ l) (St.comes f σ l) := by
  induction l with
  | nil => intro K ρ σ h _; exact h
  | cons c l ih =>
    intro K ρ σ h ok
    exact ih (((hf c).sim h).look (hi c ok)) (hi c ok).look
theorem Sim.receive {K : Int} {ρ σ : St} (h : Sim ρ σ) (ok : Inv K σ) (k : Int) (s : List UInt8) : Sim (ρ.preceive k s).1 (σ.receive k s).1 ∧ (ρ.preceive k s).2 = (σ.receive k s).2 := by
  unfold St.preceive St.receive
  by_cases h1 : k < 0 ∨ 2 < k
  · rw [if_pos h1, if_pos h1]; exact ⟨h, rfl⟩
  · rw [if_neg h1, if_neg h1]
    by_cases h2 : k = 2
    · rw [if_pos h2, if_pos h2]; exact ⟨(broken_comm.sim h).look ok.broken, rfl⟩
    · rw [if_neg h2, if_neg h2]
      by_cases h3 : k = 1
      · rw [if_pos h3, if_pos h3]; exact ⟨Sim.comes wrong_comm (fun c h => h.wrong c) s h ok, rfl⟩
      · rw [if_neg h3, if_neg h3]; exact ⟨Sim.comes good_comm (fun c h => h.good c) s h ok, rfl⟩
theorem Sim.core {ρ σ : St} (h : Sim ρ σ) : ρ.ss = σ.ss ∧ ρ.inq = σ.inq ∧ ρ.out = σ.out ∧ ρ.urg = σ.urg ∧ ρ.col = σ.col ∧ ρ.stopped = σ.stopped ∧ ρ.held = σ.held ∧ ρ.quoted = σ.quoted ∧ ρ.noted = σ.noted := by
  obtain ⟨r, e, k, d, g, rfl, _⟩ := h
  exact ⟨rfl, rfl, rfl, rfl, rfl, rfl, rfl, rfl, rfl⟩
theorem inq_comm (l : List Ent) : Comm fun σ => { σ with inq := l } := fun _ _ _ _ _ _ _ => rfl
theorem io_comm (a b : Bool) : Comm fun σ => { σ with inq := if a then σ.inq else [], out := if b then σ.out else [] } := fun _ _ _ _ _ _ _ => rfl
theorem Sim.set {K : Int} {ρ σ : St} (h : Sim ρ σ) (ok : Inv K σ) (s : List Int) (k : Int) : Sim (ρ.pset s k).1 (σ.set s k).1 ∧ (ρ.pset s k).2 = (σ.set s k).2 := by
  unfold St.pset St.set
  obtain ⟨_, c2, c3, _⟩ := h.core
  by_cases h1 : k < 0 ∨ 2 < k
  · rw [if_pos h1, if_pos h1]; exact ⟨h, rfl⟩
  · rw [if_neg h1, if_neg h1, c3]
    by_cases h2 : 0 < k ∧ σ.out ≠ []
    · rw [if_pos h2, if_pos h2]; exact ⟨h, rfl⟩
    · rw [if_neg h2, if_neg h2, c2]
      refine ⟨?_, rfl⟩
      have h3 := (change_comm s).sim ((inq_comm (if k = 2 then [] else σ.inq)).sim h)
      rw [c3] at h3
      refine Sim.look (K := K) h3 (Inv.change (ok.inq_ _ ?_ ?_) s)
      · have := ok.inq; split <;> simp <;> omega
      · intro e he; split at he
        · cases he
        · exact ok.cells e he
theorem Sim.flush {K : Int} {ρ σ : St} (h : Sim ρ σ) (ok : Inv K σ) (k : Int) : Sim (ρ.pflush k).1 (σ.flush k).1 ∧ (ρ.pflush k).2 = (σ.flush k).2 := by
  unfold St.pflush St.flush
  obtain ⟨_, c2, c3, _⟩ := h.core
  by_cases h1 : k < 1 ∨ 3 < k
  · rw [if_pos h1, if_pos h1]; exact ⟨h, rfl⟩
  · rw [if_neg h1, if_neg h1, c2, c3]
    refine ⟨?_, rfl⟩
    have hc : Comm fun τ => { τ with inq := if k = 2 then σ.inq else [], out := if k = 1 then σ.out else [] } := fun _ _ _ _ _ _ _ => rfl
    have h3 := hc.sim h
    refine Sim.look (K := K + 2048) h3 ?_
    have i1 := ok.c1; have i2 := ok.out; have i3 := ok.urg; have i4 := ok.noted; have i5 := ok.w1; have i6 := ok.inq
    refine ⟨ok.s, ok.c0, by dsimp only; omega, ?_, ?_, ?_, by dsimp only; omega, by dsimp only; omega, ok.data, ok.n0, ok.n1, ok.w0, by dsimp only; omega⟩
    · dsimp only; split <;> first | omega | simp
    · dsimp only; split <;> first | omega | simp
    · intro e he; dsimp only at he; split at he
      · exact ok.cells e he
      · cases he
end Go.Clk
namespace Go.Clk
open Go
/-- How many entries the first line has; 0: none. -/
def fline : List Ent → Nat
  | [] => 0
  | e :: r => if e.fin then 1 else if fline r = 0 then 0 else fline r + 1
theorem fline_le (l : List Ent) : fline l ≤ l.length := by
  induction l with
  | nil => simp [fline]
  | cons e r ih => unfold fline; repeat' split
                   all_goals simp
                   all_goals omega
theorem fline_any (l : List Ent) : decide (0 < fline l) = l.any (·.fin) := by
  induction l with
  | nil => rfl
  | cons e r ih =>
    unfold fline
    cases he : e.fin with
    | true => simp [he]
    | false =>
      rw [if_neg (by decide)]
      simp only [List.any_cons, he, Bool.false_or]
      rw [← ih]
      split
      · rename_i h; rw [h]
      · rename_i h
        rw [decide_eq_true (by omega), decide_eq_true (by omega)]
theorem fline_at (l : List Ent) (j : Nat) (hj : j < l.length) (h0 : ∀ k, (h : k < l.length) → k < j → l[k].fin = false) (h1 : l[j].fin = true) : fline l = j + 1 := by
  induction l generalizing j with
  | nil => simp at hj
  | cons e r ih =>
    cases j with
    | zero => unfold fline; rw [if_pos (by simpa using h1)]
    | succ j =>
      have := ih j (by simpa using hj) (fun k hk hkj => by have := h0 (k + 1) (by simp; omega) (by omega); simpa using this) (by simpa using h1)
      unfold fline
      have he : e.fin = false := by have := h0 0 (by simp) (by omega); simpa using this
      rw [he, if_neg (by decide), if_neg (by omega), this]
theorem fline_none (l : List Ent) (h0 : ∀ k, (h : k < l.length) → l[k].fin = false) : fline l = 0 := by
  induction l with
  | nil => rfl
  | cons e r ih =>
    have := ih (fun k hk => by have := h0 (k + 1) (by simp; omega); simpa using this)
    unfold fline
    have he : e.fin = false := by have := h0 0 (by simp); simpa using this
    rw [he, if_neg (by decide), if_pos this]
/-- The bytes of these entries. -/
def bytesOf (l : List Ent) : List UInt8 := (l.filter fun e => !e.file).map (·.b)
theorem bytesOf_snoc_file (l : List Ent) (e : Ent) (h : e.file = true) : bytesOf (l ++ [e]) = bytesOf l := by simp [bytesOf, h]
theorem bytesOf_snoc_byte (l : List Ent) (e : Ent) (h : e.file = false) : bytesOf (l ++ [e]) = bytesOf l ++ [e.b] := by simp [bytesOf, h]
theorem bytesOf_len (l : List Ent) : (bytesOf l).length ≤ l.length := by unfold bytesOf; rw [List.length_map]; exact List.length_filter_le _ _

/-- Ends of a file end a line; without Lines nothing does. -/
def Well (σ : St) : Prop := ∀ e ∈ σ.inq, (e.file = true → e.fin = true) ∧ (σ.L 2 = false → e.fin = false)
/-- What the entries of τ come from. -/
def From (σ τ : St) : Prop := τ.ss = σ.ss ∧ ∀ e ∈ τ.inq, (∃ e' ∈ σ.inq, e.fin = e'.fin ∧ e.file = e'.file) ∨ (e.fin = false ∧ e.file = false) ∨ (σ.L 2 = true ∧ e.fin = true)
theorem From.refl (σ : St) : From σ σ := ⟨rfl, fun e he => .inl ⟨e, he, rfl, rfl⟩⟩
theorem From.trans {σ τ υ : St} (h : From σ τ) (k : From τ υ) : From σ υ := by
  refine ⟨k.1.trans h.1, fun e he => ?_⟩
  have hL : τ.L 2 = σ.L 2 := by unfold St.L St.l; rw [h.1]
  rcases k.2 e he with ⟨e', he', h1, h2⟩ | h1 | h1
  · rcases h.2 e' he' with ⟨e2, he2, h3, h4⟩ | h3 | h3
    · exact .inl ⟨e2, he2, h1.trans h3, h2.trans h4⟩
    · exact .inr (.inl ⟨h1.trans h3.1, h2.trans h3.2⟩)
    · exact .inr (.inr ⟨h3.1, h1.trans h3.2⟩)
  · exact .inr (.inl h1)
  · exact .inr (.inr ⟨hL ▸ h1.1, h1.2⟩)
theorem From.well {σ τ : St} (h : From σ τ) (hw : Well σ) : Well τ := by
  intro e he
  have hL : τ.L 2 = σ.L 2 := by unfold St.L St.l; rw [h.1]
  rcases h.2 e he with ⟨e', he', h1, h2⟩ | ⟨h1, h2⟩ | ⟨h1, h2⟩
  · have := hw e' he'
    rw [h1, h2, hL]; exact this
  · rw [h1, h2]; exact ⟨fun h => (by cases h), fun _ => rfl⟩
  · rw [h2, hL, h1]; exact ⟨fun _ => rfl, fun h => (by cases h)⟩
theorem From.inq {σ τ : St} (h1 : τ.ss = σ.ss) (h2 : ∀ e ∈ τ.inq, e ∈ σ.inq) : From σ τ := ⟨h1, fun e he => .inl ⟨e, h2 e he, rfl, rfl⟩⟩
theorem from_put (σ : St) (l : List UInt8) : From σ (σ.put l).1 := by
  obtain ⟨o, k, e⟩ := put_frame σ l
  rw [e]; exact .inq rfl fun _ h => h
theorem from_echo1 (σ : St) (c : UInt8) : From σ (σ.echo1 c) := by
  obtain ⟨o, k, e⟩ := echo1_frame σ c
  rw [e]; exact .inq rfl fun _ h => h
theorem from_lays (σ : St) (a : Ent) (h : (a.fin = false ∧ a.file = false) ∨ (σ.L 2 = true ∧ a.fin = true)) : From σ (σ.lays a) := by
  unfold St.lays
  split
  · split
    · exact from_put _ _
    · exact .refl _
  · split
    · refine ⟨rfl, fun e he => ?_⟩
      rcases List.mem_append.1 he with q | q
      · exact .inl ⟨e, q, rfl, rfl⟩
      · simp at q; subst q; exact .inr h
    · obtain ⟨o, k, h9⟩ := echo1_frame σ a.b
      refine ⟨by rw [h9], fun e he => ?_⟩
      rcases List.mem_append.1 he with q | q
      · exact .inl ⟨e, q, rfl, rfl⟩
      · simp at q; subst q; exact .inr h
theorem from_plain (σ : St) (c : UInt8) : From σ (σ.plain c) := from_lays σ _ (.inl ⟨rfl, rfl⟩)
theorem from_raise (σ : St) (n : Int) : From σ (σ.raise n) := by
  unfold St.raise
  split
  · exact .inq rfl fun _ h => h
  · exact .inq rfl fun _ h => by cases h
theorem from_rub (s : Bool) (n : Nat) : ∀ σ : St, From σ (St.rub s n σ) := by
  induction n with
  | zero => intro σ; exact .refl _
  | succ n ih =>
    intro σ
    unfold St.rub
    cases hq : σ.inq.getLast? with
    | none => exact .refl _
    | some a =>
      dsimp only
      have h1 : From σ ({ σ with inq := σ.inq.dropLast } : St) := .inq rfl fun e h => List.dropLast_subset _ h
      split
      · exact (h1.trans (from_put _ _)).trans (ih _)
      · exact h1.trans (ih _)
theorem from_rubs (σ : St) (n : Nat) (c : UInt8) : From σ (σ.rubs n c) := by
  unfold St.rubs
  split
  · exact (from_rub _ _ _).trans (from_echo1 _ _)
  · exact from_rub _ _ _
theorem from_kills (σ : St) (n : Nat) (c : UInt8) : From σ (σ.kills n c) := by
  unfold St.kills
  split
  · split
    · exact ((from_rub _ _ _).trans (from_echo1 _ _)).trans (from_put _ _)
    · exact (from_rub _ _ _).trans (from_echo1 _ _)
  · exact from_rub _ _ _
theorem from_rep (σ : St) (j : Nat) : From σ (σ.rep j) := by
  unfold St.rep
  cases hq : σ.inq[j]? with
  | none => exact .refl _
  | some a =>
    obtain ⟨o, k, h9⟩ := echo1_frame σ a.b
    refine ⟨by dsimp only; rw [h9], fun e he => .inl ?_⟩
    dsimp only at he
    rcases List.mem_or_eq_of_mem_set he with h | h
    · exact ⟨e, h, rfl, rfl⟩
    · subst h; exact ⟨a, List.mem_of_getElem? hq, rfl, rfl⟩
theorem from_reps (n : Nat) : ∀ (j : Nat) (σ : St), From σ (St.reps n j σ) := by
  induction n with
  | zero => intro j σ; exact .refl _
  | succ n ih => intro j σ; exact (from_rep σ j).trans (ih (j + 1) _)
theorem from_quote (σ : St) : From σ σ.quote := by
  unfold St.quote
  have h1 : From σ ({ σ with quoted := true } : St) := .inq rfl fun _ h => h
  split
  · exact h1.trans (from_put _ _)
  · exact h1
theorem from_reprint (σ : St) (c : UInt8) : From σ (σ.reprint c) := ((from_echo1 σ c).trans (from_put _ _)).trans (from_reps _ _ _)
theorem from_edits (σ : St) (c : UInt8) (hL : σ.L 2 = true) : From σ (σ.edits c).1 := by
  unfold St.edits
  repeat' split
  · exact from_rubs _ _ _
  · exact from_kills _ _ _
  · exact from_rubs _ _ _
  · exact from_quote _
  · exact from_reprint _ _
  · exact from_lays _ _ (.inr ⟨hL, rfl⟩)
  · exact from_lays _ _ (.inr ⟨hL, rfl⟩)
  · exact .refl _
theorem from_line (σ : St) (c : UInt8) : From σ (σ.line c) := by
  unfold St.line
  split
  · rename_i h
    split
    · exact from_edits σ c h
    · exact from_plain _ _
  · exact from_plain _ _
theorem from_late (σ : St) (c : UInt8) : From σ (σ.late c) := by
  unfold St.late
  repeat' split
  · exact .refl _
  all_goals exact from_line _ _
theorem from_flows (σ : St) (c : UInt8) : From σ (σ.flows c).1 := by
  unfold St.flows
  repeat' split
  all_goals first | exact .refl _ | exact .inq rfl fun _ h => h
theorem from_sigs (σ : St) (c : UInt8) : From σ (σ.sigs c).1 := by
  unfold St.sigs
  repeat' split
  all_goals first | exact .refl _ | exact (from_raise _ _).trans (from_echo1 _ _)
theorem from_heed (σ : St) (c : UInt8) : From σ (σ.heed c) := by
  unfold St.heed
  repeat' split
  · exact from_flows _ _
  · exact (from_flows _ _).trans (from_sigs _ _)
  · exact (from_flows _ _).trans (from_late _ _)
theorem from_good2 (σ : St) (c : UInt8) : From σ (σ.good2 c) := by
  unfold St.good2
  split
  · exact From.trans (.inq rfl fun _ h => h : From σ ({ σ with quoted := false } : St)) (from_plain _ _)
  · exact from_heed _ _
theorem from_good (σ : St) (c : UInt8) : From σ (σ.good c) := by
  unfold St.good
  repeat' split
  · exact from_good2 _ _
  · exact (from_plain _ _).trans (from_plain _ _)
  · exact from_good2 _ _
theorem from_wrong (σ : St) (c : UInt8) : From σ (σ.wrong c) := by
  unfold St.wrong
  repeat' split
  · exact .refl _
  · exact ((from_plain _ _).trans (from_plain _ _)).trans (from_plain _ _)
  · exact from_plain _ _
theorem from_broken (σ : St) : From σ σ.broken := by
  unfold St.broken
  repeat' split
  · exact .refl _
  · exact from_raise _ _
  · exact ((from_plain _ _).trans (from_plain _ _)).trans (from_plain _ _)
  · exact from_plain _ _
theorem from_urge (σ : St) (k : Nat) : From σ (σ.urge k) := by
  unfold St.urge
  split
  · exact .refl _
  · exact .inq rfl fun _ h => h
theorem from_hold (σ : St) : From σ σ.hold := by
  unfold St.hold
  repeat' split
  · exact From.trans (.inq rfl fun _ h => h : From σ ({ σ with held := true } : St)) (from_urge _ _)
  · exact From.trans (.inq rfl fun _ h => h : From σ ({ σ with held := false } : St)) (from_urge _ _)
  · exact .refl _
theorem fetch_mem (n : Int) : ∀ (l : List Ent) (d : List UInt8), ∀ e ∈ (fetch n l d).1, e ∈ l := by
  intro l
  induction l with
  | nil => intro d e he; simp [fetch] at he
  | cons a l ih =>
    intro d e he
    unfold fetch at he
    by_cases h1 : (!a.file && decide ((d.length : Int) = n)) = true
    · rw [if_pos h1] at he; exact he
    · rw [if_neg h1] at he
      by_cases h2 : a.fin = true
      · rw [if_pos h2] at he; exact .tail _ he
      · rw [if_neg h2] at he; exact .tail _ (ih _ _ he)
theorem from_ends (σ : St) : From σ σ.ends := by
  unfold St.ends
  split
  · exact .inq rfl fun e h => fetch_mem _ _ _ e h
  · exact .refl _
theorem from_pends (σ : St) : From σ σ.pends := by
  unfold St.pends
  split
  · exact .inq rfl fun e h => fetch_mem _ _ _ e h
  · exact .refl _
theorem from_look (σ : St) : From σ σ.look := (from_ends σ).trans (from_hold _)
theorem from_plook (σ : St) : From σ σ.plook := (from_pends σ).trans (from_hold _)
theorem from_comes {f : St → UInt8 → St} (hf : ∀ σ c, From σ (f σ c)) (l : List UInt8) : ∀ σ : St, From σ (St.comes f σ l) := by
  induction l with
  | nil => intro σ; exact .refl _
  | cons c l ih => intro σ; exact ((hf σ c).trans (from_look _)).trans (ih _)
theorem from_receive (σ : St) (k : Int) (s : List UInt8) : From σ (σ.receive k s).1 := by
  unfold St.receive
  repeat' split
  · exact .refl _
  · exact (from_broken _).trans (from_look _)
  · exact from_comes from_wrong _ _
  · exact from_comes from_good _ _
theorem from_read (σ : St) (n : Int) : From σ (σ.read n).1 := by
  unfold St.read
  repeat' split
  · exact .refl _
  · exact .refl _
  · exact From.trans (.inq rfl fun _ h => h : From σ ({ σ with reads := true, ended := false, n := n, wait := 0 } : St)) (from_look _)
theorem from_take (σ : St) : From σ σ.take.1 := by
  unfold St.take
  repeat' split
  all_goals first | exact .refl _ | exact .inq rfl fun _ h => h
theorem from_tick (σ : St) : From σ σ.tick := From.trans (.inq rfl fun _ h => h : From σ ({ σ with wait := σ.wait + 1 } : St)) (from_look _)
theorem from_flush (σ : St) (k : Int) : From σ (σ.flush k).1 := by
  unfold St.flush
  split
  · exact .refl _
  · refine From.trans (.inq rfl fun e h => ?_ : From σ ({ σ with inq := if k = 2 then σ.inq else [], out := if k = 1 then σ.out else [] } : St)) (from_look _)
    dsimp only at h
    split at h
    · exact h
    · cases h
theorem from_flow (σ : St) (k : Int) : From σ (σ.flow k).1 := by
  unfold St.flow
  repeat' split
  all_goals first | exact .refl _ | exact from_urge _ _ | exact .inq rfl fun _ h => h
theorem from_write (l : List UInt8) (σ : St) : From σ (σ.write l).1 := by
  obtain ⟨o, k, e⟩ := write_frame l σ
  rw [e]; exact .inq rfl fun _ h => h
theorem from_drain (σ : St) (n : Nat) : From σ (σ.drain n).1 := by
  unfold St.drain
  dsimp only
  split <;> exact .inq rfl fun _ h => h
theorem Well.change {τ : St} (h1 : Well τ) (s : List Int) : Well (τ.change s) := by
  have hg : gt (normS s) 2 = gt s 2 % 1024 := by
    have := partS_get [] s 17 2 (by omega)
    rw [partS_all] at this
    rw [this]; rfl
  have hL : (τ.change s).L 2 = bit (gt s 2 % 1024) 2 := by show bit (gt (normS s) 2) 2 = _; rw [hg]
  intro e he
  unfold St.change at he
  dsimp only at he
  rw [hL]
  split at he
  · rename_i h2
    rw [← h2]; exact h1 e he
  · unfold St.forget at he
    obtain ⟨e', _, rfl⟩ := List.mem_map.1 he
    exact ⟨fun h => (by cases h), fun _ => rfl⟩
theorem Well.set {σ : St} (h : Well σ) (s : List Int) (k : Int) : Well (σ.set s k).1 := by
  unfold St.set
  split
  · exact h
  · split
    · exact h
    · refine (from_look _).well ?_
      have h1 : Well ({ σ with inq := if k = 2 then [] else σ.inq } : St) := by
        intro e he
        dsimp only at he
        split at he
        · cases he
        · exact h e he
      exact h1.change s
theorem Well.new : Well newS := by intro e he; cases he
theorem Well.signals {σ : St} (h : Well σ) : Well σ.signals.1 := h

/-- How many entries a read of r bytes more takes. -/
def takeN : Nat → List Ent → Nat
  | _, [] => 0
  | 0, e :: _ => if e.file then 1 else 0
  | r + 1, e :: l => if e.fin then 1 else 1 + takeN r l
theorem fetch_takeN (n : Int) : ∀ (l : List Ent) (r : Nat) (d : List UInt8), (∀ e ∈ l, e.file = true → e.fin = true) → (d.length : Int) + r = n → fetch n l d = (l.drop (takeN r l), d ++ bytesOf (l.take (takeN r l))) := by
  intro l
  induction l with
  | nil => intro r d _ _; cases r <;> simp [fetch, takeN, bytesOf]
  | cons a l ih =>
    intro r d hw hd
    have ha := hw a (by simp)
    unfold fetch
    cases r with
    | zero =>
      have hd' : (d.length : Int) = n := by simpa using hd
      unfold takeN
      cases hf : a.file with
      | true =>
        rw [ha hf]
        simp [bytesOf, hf]
      | false => simp [hd', bytesOf]
    | succ r =>
      have hd' : ¬ (d.length : Int) = n := by omega
      unfold takeN
      rw [decide_eq_false hd', Bool.and_false, if_neg (by decide)]
      cases hfin : a.fin with
      | true =>
        rw [if_pos rfl, if_pos rfl]
        cases hf : a.file with
        | true => simp [bytesOf, hf]
        | false => simp [bytesOf, hf]
      | false =>
        have hf : a.file = false := by
          cases h : a.file with
          | false => rfl
          | true => rw [ha h] at hfin; cases hfin
        simp only [hf, Bool.false_eq_true, if_false]
        rw [ih r (d ++ [a.b]) (fun e he => hw e (by simp [he])) (by simp; omega)]
        rw [Nat.add_comm 1 (takeN r l), List.drop_succ_cons, List.take_succ_cons]
        simp [bytesOf, hf]
theorem takeN_bytes : ∀ (l : List Ent) (r : Nat), (∀ e ∈ l, e.fin = false ∧ e.file = false) → takeN r l = min r l.length := by
  intro l
  induction l with
  | nil => intro r _; cases r <;> simp [takeN]
  | cons a l ih =>
    intro r hw
    have ha := hw a (by simp)
    cases r with
    | zero => unfold takeN; rw [ha.2]; simp
    | succ r =>
      unfold takeN
      rw [ha.1, if_neg (by decide), ih r (fun e he => hw e (by simp [he]))]
      simp; omega
/-- Is the entry at a place the end of a file? -/
def fileAt (l : List Ent) (n : Nat) : Bool := match l[n]? with
  | none => false
  | some e => e.file
theorem takeN_lines : ∀ (n : Nat) (l : List Ent), (∀ e ∈ l, e.file = true → e.fin = true) → 0 < fline l → takeN n l = min (if decide (n < fline l) && fileAt l n then n + 1 else n) (fline l) := by
  intro n
  induction n with
  | zero =>
    intro l hw hf
    cases l with
    | nil => simp [fline] at hf
    | cons a l =>
      unfold takeN
      rw [decide_eq_true hf]
      show (if a.file then 1 else 0) = min (if (true && a.file) = true then 1 else 0) _
      rw [Bool.true_and]
      split <;> omega
  | succ n ih =>
    intro l hw hf
    cases l with
    | nil => simp [fline] at hf
    | cons a l =>
      unfold takeN
      cases hfin : a.fin with
      | true =>
        have e1 : fline (a :: l) = 1 := by unfold fline; rw [if_pos hfin]
        rw [e1, if_pos rfl, decide_eq_false (by omega), Bool.false_and, if_neg (by decide)]
        omega
      | false =>
        have e1 : fline (a :: l) = if fline l = 0 then 0 else fline l + 1 := by unfold fline; rw [hfin, if_neg (by decide)]; cases l <;> rfl
        by_cases h0 : fline l = 0
        · rw [e1, if_pos h0] at hf; omega
        · rw [if_neg h0] at e1
          rw [if_neg (by decide), ih l (fun e he => hw e (by simp [he])) (by omega), e1]
          have e2 : fileAt (a :: l) (n + 1) = fileAt l n := by unfold fileAt; rw [List.getElem?_cons_succ]
          have e3 : decide (n + 1 < fline l + 1) = decide (n < fline l) := by apply decide_eq_decide.2; omega
          rw [e2, e3]
          split <;> omega
end Go.Clk
namespace Go.Clk
open Go Go.RowKit
/-- How many entries are left of a word whose reading has begun (d: or still of the gap ahead of it). -/
def wordW (d : Bool) (l : List Ent) : Nat := if d then (l.takeWhile fun e => !gap e).length else wordR l
theorem wordW_nil (d : Bool) : wordW d [] = 0 := by cases d <;> rfl
theorem wordW_stop (e : Ent) (l : List Ent) (h : gap e = true) : wordW true (e :: l) = 0 := by simp [wordW, h]
theorem wordW_gap (e : Ent) (l : List Ent) (h : gap e = true) : wordW false (e :: l) = 1 + wordW false l := by
  simp [wordW, wordR, h]; omega
theorem wordW_in (d : Bool) (e : Ent) (l : List Ent) (h : gap e = false) : wordW d (e :: l) = 1 + wordW true l := by
  cases d <;> simp [wordW, wordR, h] <;> omega
theorem back_drop (l : List Ent) (p j q : Nat) (hp : p ≤ l.length) (hj : j < p) (hq : q + 1 + j = l.length) : (l.reverse.take p).drop j = l[q] :: (l.reverse.take p).drop (j + 1) := by
  rw [List.drop_eq_getElem_cons (by simp; omega)]
  congr 1
  rw [List.getElem_take, List.getElem_reverse]
  congr 1
  omega
theorem pend_le (l : List Ent) : pend l ≤ l.length := by
  unfold pend
  have := (List.takeWhile_sublist (fun e : Ent => !e.fin) (l := l.reverse)).length_le
  simpa using this
theorem takeWhile_all {α : Type} (p : α → Bool) : ∀ (l : List α) (a : α), a ∈ l.takeWhile p → p a = true
  | [], a, h => by simp at h
  | b :: l, a, h => by
    by_cases hb : p b = true
    · have e1 : (b :: l).takeWhile p = b :: l.takeWhile p := by simp [hb]
      rw [e1] at h
      rcases List.mem_cons.1 h with rfl | h
      · exact hb
      · exact takeWhile_all p l a h
    · have e1 : (b :: l).takeWhile p = [] := by simp [hb]
      rw [e1] at h; cases h
theorem takeWhile_stop {α : Type} (p : α → Bool) : ∀ (l : List α) (h : (l.takeWhile p).length < l.length), p (l[(l.takeWhile p).length]'h) = false
  | [], h => by simp at h
  | a :: l, h => by
    by_cases ha : p a = true
    · have e1 : (a :: l).takeWhile p = a :: l.takeWhile p := by simp [ha]
      have h' : (l.takeWhile p).length < l.length := by rw [e1] at h; simpa using h
      have := takeWhile_stop p l h'
      simpa [e1] using this
    · have e1 : (a :: l).takeWhile p = [] := by simp [ha]
      simp [e1]; simpa using ha
theorem pend_in (l : List Ent) (j q : Nat) (hj : j < pend l) (hq : q + 1 + j = l.length) : (l[q]'(by omega)).fin = false := by
  have h1 : (l.reverse.takeWhile fun e => !e.fin)[j]'hj = l[q]'(by omega) := by
    have hp := List.takeWhile_prefix (fun e : Ent => !e.fin) (l := l.reverse)
    rw [List.IsPrefix.getElem hp hj, List.getElem_reverse]
    congr 1
    omega
  have h2 := List.getElem_mem hj
  have h3 : (!((l.reverse.takeWhile fun e => !e.fin)[j]'hj).fin) = true := takeWhile_all (fun e : Ent => !e.fin) _ _ h2
  rw [h1] at h3
  simpa using h3
theorem pend_end (l : List Ent) (q : Nat) (hq : q + 1 + pend l = l.length) : (l[q]'(by omega)).fin = true := by
  have h1 : (l.reverse.takeWhile fun e => !e.fin).length < l.reverse.length := by show pend l < _; simp; omega
  have h2 := takeWhile_stop (fun e : Ent => !e.fin) l.reverse h1
  rw [List.getElem_reverse] at h2
  have h3 : l.length - 1 - (l.reverse.takeWhile fun e => !e.fin).length = q := by show l.length - 1 - pend l = q; omega
  simp only [h3] at h2
  simpa using h2
theorem forget_snoc (l : List Ent) (e : Ent) : St.forget (l ++ [e]) = St.forget l ++ (if e.file then [] else [⟨e.b, false, false, 0⟩]) := by
  unfold St.forget
  rw [List.filter_append, List.map_append]
  cases hf : e.file <;> simp [hf]
theorem forget_snoc_file (l : List Ent) (e : Ent) (h : e.file = true) : St.forget (l ++ [e]) = St.forget l := by rw [forget_snoc, if_pos h, List.append_nil]
theorem forget_snoc_byte (l : List Ent) (e : Ent) (h : e.file = false) : St.forget (l ++ [e]) = St.forget l ++ [⟨e.b, false, false, 0⟩] := by rw [forget_snoc, if_neg (by rw [h]; decide)]
theorem Blk.alloc {w : World} {b : Nat} {e : TypeId} {cs : List Value} (h : Blk w b e cs) (o : Obj) : Blk (w.alloc o) b e cs := by
  unfold Blk; rw [Below.heap_alloc w o b h.lt]; exact h
def piece (t : Bool) : List UInt8 := if t then [8] else [8, 32, 8]
def rubN (t : Bool) (n : Nat) : List UInt8 := (List.replicate n (piece t)).flatten
theorem rubN_succ (t : Bool) (n : Nat) : rubN t (n + 1) = rubN t n ++ piece t := by
  unfold rubN
  rw [List.replicate_succ', List.flatten_append]; simp
theorem rubN_len (t : Bool) (n : Nat) : (rubN t n).length ≤ n * 3 := by
  unfold rubN
  rw [List.length_flatten, List.map_replicate, List.sum_replicate_nat]
  have : (piece t).length ≤ 3 := by cases t <;> simp [piece]
  exact Nat.mul_le_mul_left _ this
theorem rubOne_eq (e : Ent) : rubOne e = rubN ((e.b.toNat : Int) == 9) e.cells.toNat := by
  unfold rubOne rubN piece; rfl
theorem rub_step (s : Bool) (n : Nat) (σ : St) (h : 0 < σ.inq.length) : St.rub s (n + 1) σ = St.rub s n (if s then (({ σ with inq := σ.inq.dropLast } : St).put (rubOne (σ.inq[σ.inq.length - 1]))).1 else { σ with inq := σ.inq.dropLast }) := by
  conv => lhs; unfold St.rub
  rw [List.getLast?_eq_getElem?, List.getElem?_eq_getElem (by omega)]
theorem wordR_le (r : List Ent) : wordR r ≤ r.length := by
  unfold wordR
  have h1 := (List.takeWhile_sublist (fun e : Ent => !gap e) (l := r.dropWhile gap)).length_le
  have h2 := congrArg List.length (List.takeWhile_append_dropWhile (p := gap) (l := r))
  rw [List.length_append] at h2
  omega
/-- One cell of an owned slice is turned. -/
theorem Sl.poke {w : World} {e : TypeId} {size g off n cap : Nat} {xs : List Value} {o : Option Nat} (h : Sl w e size (.slice (some ⟨g, off, none⟩) n cap) n xs o) (j : Nat) (u : Value) :
    Sl (w.setCell ⟨g, off + j, none⟩ u) e size (.slice (some ⟨g, off, none⟩) n cap) n (xs.set j u) o := by
  refine ⟨by rw [List.length_set]; exact h.1, ?_⟩
  rcases h.2 with ⟨h1, _⟩ | ⟨g', off', cap', cur, h1, h2, h3, h4, h5, h6, h7⟩
  · cases h1
  · cases h1
    refine .inr ⟨g, off, cap, cur.setIfInBounds (off + j) u, rfl, h2, heap_setCell_same w g (off + j) cur e u h3, h4, h5, by simpa using h6, ?_⟩
    rw [← h7]
    rw [Array.toList_setIfInBounds, List.drop_set, if_neg (by omega), show off + j - off = j by omega, List.take_set]
theorem grownBy_set (w : World) (g k : Nat) (v : Value) : w.grownBy (w.setCell ⟨g, k, none⟩ v) (some g) :=
  ⟨rfl, rfl, rfl, by simp, fun j _ hne => heap_setCell_other w ⟨g, k, none⟩ j v fun e => hne (by rw [e])⟩
/-- A slice is given away: its field is nil, and its block is kept clear of. -/
theorem AtO.give {S0 : List Nat} {w0 w : World} {x : List Nat} {b : Nat} {e : TypeId} {cs : List Value} {fs : List Fld} (h : AtO S0 w0 x b e cs fs w) (k : Nat) {f : Fld} (hf : fs[k]? = some f) :
    ∃ o, f.at w o ∧ (∀ g, o = some g → g ≠ b ∧ g ∉ x ∧ (g ∈ S0 ∨ w0.heap.size ≤ g)) ∧ AtO S0 w0 (o.toList ++ x) b e cs (fs.set k ⟨f.e, f.size, .slice none 0 0, 0, []⟩) w := by
  obtain ⟨os, h, hk, hb, ht, hx⟩ := h
  have hkl : k < fs.length := (List.getElem?_eq_some_iff.1 hf).1
  have hko : k < os.length := by rw [h.len]; exact hkl
  obtain ⟨o, ho⟩ : ∃ o, os[k]? = some o := ⟨os[k], List.getElem?_eq_getElem hko⟩
  have hat := h.sl k f o hf ho
  have key : ∀ j, (os.set k none)[j]? = if j = k then some none else os[j]? := fun j => by
    by_cases hj : j = k
    · subst hj; rw [if_pos rfl, List.getElem?_set_self hko]
    · rw [if_neg hj, List.getElem?_set_ne (Ne.symm hj)]
  have keyf : ∀ j, (fs.set k ⟨f.e, f.size, .slice none 0 0, 0, []⟩)[j]? = if j = k then some ⟨f.e, f.size, .slice none 0 0, 0, []⟩ else fs[j]? := fun j => by
    by_cases hj : j = k
    · subst hj; rw [if_pos rfl, List.getElem?_set_self hkl]
    · rw [if_neg hj, List.getElem?_set_ne (Ne.symm hj)]
  refine ⟨o, hat, fun g hg => ⟨fun c => h.notB k (by rw [ho, hg, c]), fun c => (hx g c).2.2 k (by rw [ho, hg]), ht k g (by rw [ho, hg])⟩, os.set k none, ⟨h.blk, by rw [List.length_set, List.length_set]; exact h.len, ?_, ?_, ?_⟩, hk, hb, ?_, ?_⟩
  · intro j f1 o1 hf1 ho1
    rw [key] at ho1; rw [keyf] at hf1
    by_cases hj : j = k
    · rw [if_pos hj] at ho1 hf1; cases ho1; cases hf1; exact Sl.nil _ _ _
    · rw [if_neg hj] at ho1 hf1; exact h.sl j f1 o1 hf1 ho1
  · intro j c
    rw [key] at c
    split at c
    · cases c
    · exact h.notB j c
  · intro i j g hi hj
    rw [key] at hi hj
    split at hi
    · cases hi
    · split at hj
      · cases hj
      · exact h.inj i j g hi hj
  · intro j g c
    rw [key] at c
    split at c
    · cases c
    · exact ht j g c
  · intro g hg
    rcases List.mem_append.1 hg with h1 | h1
    · have hog : o = some g := by simpa using h1
      refine ⟨hat.lt hog, fun c => h.notB k (by rw [ho, hog, c]), fun j c => ?_⟩
      rw [key] at c
      split at c
      · cases c
      · rename_i hj; exact hj (h.inj j k g c (by rw [ho, hog]))
    · refine ⟨(hx g h1).1, (hx g h1).2.1, fun j c => ?_⟩
      rw [key] at c
      split at c
      · cases c
      · exact (hx g h1).2.2 j c
end Go.Clk
namespace Go.Proofs.YtfnglkhhmplejaaGreat
open Go Go.RowKit Go.Clk

theorem cell_tail {S0 : List Nat} {w0 w : World} {x : List Nat} {b : Nat} {e : TypeId} {ss : List Int} {tl : List Value} {fs : List Fld} (h : AtO S0 w0 x b e (i64s ss ++ tl) fs w) (hl : ss.length = 17) (k : Nat) {v : Value} (hv : tl[k]? = some v) :
    w.cell? ⟨b, 17 + k, none⟩ = some v := by
  refine h.cell (17 + k) ?_
  have : (i64s ss).length = 17 := by rw [i64s_len, hl]
  rw [List.getElem?_append_right (by omega), this, Nat.add_sub_cancel_left, hv]
theorem cell_head {S0 : List Nat} {w0 w : World} {x : List Nat} {b : Nat} {e : TypeId} {ss : List Int} {tl : List Value} {fs : List Fld} (h : AtO S0 w0 x b e (i64s ss ++ tl) fs w) (hl : ss.length = 17) (k : Nat) (hk : k < 17) :
    w.cell? ⟨b, k, none⟩ = some (.int .i64 (gt ss k)) := by
  refine h.cell k ?_
  have : (i64s ss).length = 17 := by rw [i64s_len, hl]
  rw [List.getElem?_append_left (by omega), i64s, List.getElem?_map, List.getElem?_eq_getElem (by rw [hl]; omega)]
  simp [gt, List.getD, List.getElem?_eq_getElem (show k < ss.length by rw [hl]; omega)]
theorem set_tail {S0 : List Nat} {w0 w : World} {x : List Nat} {b : Nat} {e : TypeId} {ss : List Int} {tl : List Value} {fs : List Fld} (h : AtO S0 w0 x b e (i64s ss ++ tl) fs w) (hl : ss.length = 17) (k : Nat) (v : Value) :
    AtO S0 w0 x b e (i64s ss ++ tl.set k v) fs (w.setCell ⟨b, 17 + k, none⟩ v) := by
  have hl : (i64s ss).length = 17 := by rw [i64s_len, hl]
  have := h.set (17 + k) v
  rwa [List.set_append_right _ _ (by omega), hl, Nat.add_sub_cancel_left] at this
theorem set_head {S0 : List Nat} {w0 w : World} {x : List Nat} {b : Nat} {e : TypeId} {ss : List Int} {tl : List Value} {fs : List Fld} (h : AtO S0 w0 x b e (i64s ss ++ tl) fs w) (hl : ss.length = 17) (k : Nat) (hk : k < 17) (n : Int) :
    AtO S0 w0 x b e (i64s (ss.set k n) ++ tl) fs (w.setCell ⟨b, k, none⟩ (.int .i64 n)) := by
  have hl : (i64s ss).length = 17 := by rw [i64s_len, hl]
  have := h.set k (.int .i64 n)
  rw [List.set_append_left _ _ (by omega)] at this
  have e1 : (i64s ss).set k (.int .i64 n) = i64s (ss.set k n) := by simp [i64s, List.map_set]
  rwa [e1] at this
theorem info_u8 : (Tryz.prog.info? 5).map (fun i => (i.zero, i.size, i.bytes)) = some (some (.int .u8 0), 1, 1) := by kernel_rfl
theorem info_int : (Tryz.prog.info? 3).map (fun i => (i.zero, i.size, i.bytes)) = some (some (.int .i64 0), 1, 8) := by kernel_rfl
def statusV (σ : St) : Value := .agg #[.int .i64 (σ.inq.length : Nat), .int .i64 (σ.out.length : Nat), .int .i64 σ.col, .bool σ.stopped, .bool σ.held, .bool σ.quoted]
theorem byte_of (n : Int) (h0 : 0 ≤ n) (h1 : n < 256) : ((UInt8.ofNat n.toNat).toNat : Int) = n := by
  rw [UInt8.toNat_ofNat']; omega
end Go.Proofs.YtfnglkhhmplejaaGreat
