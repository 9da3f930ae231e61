/- Of the terminal alone: what typing does to the pending line, whatever is echoed. -/
import Derived.Test.YtfnglkhhmplejaaGreatBase2
namespace Go.Clk
open Go

/-- Two states that part at most in what goes out and in the column. -/
def Same (σ τ : St) : Prop := ∃ o k, τ = { σ with out := o, col := k }
theorem Same.refl (σ : St) : Same σ σ := ⟨σ.out, σ.col, rfl⟩
theorem Same.trans {σ τ υ : St} (h : Same σ τ) (k : Same τ υ) : Same σ υ := by
  obtain ⟨o, c, rfl⟩ := h
  obtain ⟨o', c', rfl⟩ := k
  exact ⟨o', c', rfl⟩
theorem Same.put (σ : St) (l : List UInt8) : Same σ (σ.put l).1 := put_frame σ l
theorem Same.echo (σ : St) (c : UInt8) : Same σ (σ.echo1 c) := echo1_frame σ c
theorem Same.inq {σ τ : St} (h : Same σ τ) : τ.inq = σ.inq := by obtain ⟨o, c, rfl⟩ := h; rfl
theorem Same.ss {σ τ : St} (h : Same σ τ) : τ.ss = σ.ss := by obtain ⟨o, c, rfl⟩ := h; rfl
theorem Same.with_inq {σ τ : St} (h : Same σ τ) (l : List Ent) : Same { σ with inq := l } { τ with inq := l } := by obtain ⟨o, c, rfl⟩ := h; exact ⟨o, c, rfl⟩

/-- A line that is being typed: entries that end nothing, with these bytes. -/
def Typing (l : List Ent) (p : List UInt8) : Prop := l.map (·.b) = p ∧ ∀ e ∈ l, e.fin = false ∧ e.file = false
theorem Typing.nil : Typing [] [] := ⟨rfl, by simp⟩
theorem Typing.len {l : List Ent} {p : List UInt8} (h : Typing l p) : l.length = p.length := by rw [← h.1, List.length_map]
theorem takeWhile_true {α : Type} (f : α → Bool) : ∀ l : List α, (∀ a ∈ l, f a = true) → l.takeWhile f = l
  | [], _ => rfl
  | a :: l, h => by
    rw [List.takeWhile_cons_of_pos (h a (by simp)), takeWhile_true f l fun b hb => h b (by simp [hb])]
theorem Typing.pend {l : List Ent} {p : List UInt8} (h : Typing l p) : pend l = l.length := by
  unfold Go.Clk.pend
  rw [takeWhile_true _ _ (fun e he => by rw [(h.2 e (List.mem_reverse.1 he)).1]; rfl), List.length_reverse]
theorem Typing.snoc {l : List Ent} {p : List UInt8} (h : Typing l p) (c : UInt8) (k : Int) : Typing (l ++ [⟨c, false, false, k⟩]) (p ++ [c]) := by
  refine ⟨by rw [List.map_append, h.1]; rfl, fun e he => ?_⟩
  rcases List.mem_append.1 he with q | q
  · exact h.2 e q
  · simp at q; subst q; exact ⟨rfl, rfl⟩
theorem Typing.take {l : List Ent} {p : List UInt8} (h : Typing l p) (n : Nat) : Typing (l.take n) (p.take n) :=
  ⟨by rw [List.map_take, h.1], fun e he => h.2 e (List.mem_of_mem_take he)⟩
theorem Typing.any {l : List Ent} {p : List UInt8} (h : Typing l p) : l.any (·.fin) = false := by
  rw [List.any_eq_false]; intro e he; rw [(h.2 e he).1]; simp

/-- Entries are rubbed out at the end. -/
theorem rub_same (s : Bool) (n : Nat) : ∀ (σ : St), n ≤ σ.inq.length → Same { σ with inq := σ.inq.take (σ.inq.length - n) } (St.rub s n σ) := by
  induction n with
  | zero => intro σ _; rw [Nat.sub_zero, List.take_length]; exact Same.refl _
  | succ n ih =>
    intro σ h
    have hne : σ.inq ≠ [] := by intro e; rw [e] at h; simp at h
    unfold St.rub
    rw [List.getLast?_eq_some_getLast hne]
    dsimp only
    have key : ∀ τ : St, Same { σ with inq := σ.inq.dropLast } τ → Same { σ with inq := σ.inq.take (σ.inq.length - (n + 1)) } (St.rub s n τ) := by
      intro τ ht
      have hi : τ.inq = σ.inq.dropLast := ht.inq
      have h1 := ih τ (by rw [hi, List.length_dropLast]; omega)
      have h2 := ht.with_inq (τ.inq.take (τ.inq.length - n))
      have e1 : τ.inq.take (τ.inq.length - n) = σ.inq.take (σ.inq.length - (n + 1)) := by
        rw [hi, List.length_dropLast, List.dropLast_eq_take, List.take_take]
        congr 1; omega
      rw [e1] at h2 h1
      exact h2.trans h1
    split
    · exact key _ (Same.put _ _)
    · exact key _ (Same.refl _)
theorem rubs_same (σ : St) (n : Nat) (c : UInt8) (h : n ≤ σ.inq.length) : Same { σ with inq := σ.inq.take (σ.inq.length - n) } (σ.rubs n c) := by
  unfold St.rubs
  split
  · exact (rub_same _ n σ h).trans (Same.echo _ _)
  · exact rub_same _ n σ h
theorem kills_same (σ : St) (n : Nat) (c : UInt8) (h : n ≤ σ.inq.length) : Same { σ with inq := σ.inq.take (σ.inq.length - n) } (σ.kills n c) := by
  unfold St.kills
  split
  · split
    · exact ((rub_same _ n σ h).trans (Same.echo _ _)).trans (Same.put _ _)
    · exact (rub_same _ n σ h).trans (Same.echo _ _)
  · exact rub_same _ n σ h
/-- A byte is laid down where there is room. -/
theorem plain_same (σ : St) (c : UInt8) (h : σ.inq.length < 255) : ∃ k, Same { σ with inq := σ.inq ++ [⟨c, false, false, k⟩], wait := 0 } (σ.plain c) := by
  refine ⟨σ.cellsOf c, ?_⟩
  unfold St.plain St.lays
  have hm : ¬ σ.most false ≤ σ.inq.length := by unfold St.most; split <;> omega
  dsimp only
  rw [if_neg hm, if_neg (by simp)]
  obtain ⟨o, k, e⟩ := echo1_frame σ c
  rw [e]
  exact ⟨o, k, rfl⟩
/-- A byte that ends a line is laid down where there is room. -/
theorem lays_fin_same (σ : St) (c : UInt8) (h : σ.inq.length < 256) : ∃ k, Same { σ with inq := σ.inq ++ [⟨c, true, false, k⟩], wait := 0 } (σ.lays ⟨c, true, false, 0⟩) := by
  refine ⟨σ.cellsOf c, ?_⟩
  unfold St.lays
  have hm : ¬ σ.most true ≤ σ.inq.length := by unfold St.most; simp; omega
  dsimp only
  rw [if_neg hm, if_neg (by simp)]
  obtain ⟨o, k, e⟩ := echo1_frame σ c
  rw [e]
  exact ⟨o, k, rfl⟩
theorem lays_file_same (σ : St) (h : σ.inq.length < 256) : σ.lays ⟨0, true, true, 0⟩ = { σ with inq := σ.inq ++ [⟨0, true, true, 0⟩], wait := 0 } := by
  unfold St.lays
  have hm : ¬ σ.most true ≤ σ.inq.length := by unfold St.most; simp; omega
  dsimp only
  rw [if_neg hm, if_pos rfl]
/-- What a read of a whole line has. -/
theorem fetch_typing (n : Int) : ∀ (l : List Ent) (p : List UInt8) (d : List UInt8) (e : Ent), Typing l p → e.fin = true → e.file = false → (d.length + p.length : Int) < n → fetch n (l ++ [e]) d = ([], d ++ p ++ [e.b])
  | [], p, d, e, h, h1, h2, hn => by
    have : p = [] := by rw [← h.1]; rfl
    subst this
    have hd : ¬ ((d.length : Int) = n) := by simp at hn; omega
    simp [fetch, h1, h2, hd]
  | a :: l, p, d, e, h, h1, h2, hn => by
    cases p with
    | nil => have := h.1; simp at this
    | cons q r =>
      have ha := h.2 a (by simp)
      have hb : a.b = q := by have := h.1; simp at this; exact this.1
      have ht : Typing l r := ⟨by have := h.1; simp at this; exact this.2, fun x hx => h.2 x (by simp [hx])⟩
      have hd : ¬ ((d.length : Int) = n) := by simp at hn; omega
      rw [List.cons_append]
      unfold fetch
      rw [ha.1, ha.2]
      simp only [hd, Bool.not_false, decide_false, Bool.and_false, Bool.false_eq_true, if_false]
      rw [fetch_typing n l r (d ++ [a.b]) e ht h1 h2 (by simp at hn ⊢; omega), hb]
      simp
theorem fetch_file (n : Int) : ∀ (l : List Ent) (p : List UInt8) (d : List UInt8) (e : Ent), Typing l p → e.fin = true → e.file = true → (d.length + p.length : Int) ≤ n → fetch n (l ++ [e]) d = ([], d ++ p)
  | [], p, d, e, h, h1, h2, hn => by
    have : p = [] := by rw [← h.1]; rfl
    subst this
    simp [fetch, h1, h2]
  | a :: l, p, d, e, h, h1, h2, hn => by
    cases p with
    | nil => have := h.1; simp at this
    | cons q r =>
      have ha := h.2 a (by simp)
      have hb : a.b = q := by have := h.1; simp at this; exact this.1
      have ht : Typing l r := ⟨by have := h.1; simp at this; exact this.2, fun x hx => h.2 x (by simp [hx])⟩
      have hd : ¬ ((d.length : Int) = n) := by simp at hn; omega
      rw [List.cons_append]
      unfold fetch
      rw [ha.1, ha.2]
      simp only [hd, Bool.not_false, decide_false, Bool.and_false, Bool.false_eq_true, if_false]
      rw [fetch_file n l r (d ++ [a.b]) e ht h1 h2 (by simp at hn ⊢; omega), hb]
      simp
end Go.Clk
namespace Go.Clk
open Go

def gapB (c : UInt8) : Bool := ((c.toNat : Int) == 32) || ((c.toNat : Int) == 9)
/-- The last word of a line and the gap behind it; the last byte comes first here. -/
def wordB (r : List UInt8) : Nat := (r.takeWhile gapB).length + ((r.dropWhile gapB).takeWhile fun c => !gapB c).length
theorem wordR_map (r : List Ent) : wordR r = wordB (r.map (·.b)) := by
  unfold wordR wordB
  have e1 : (r.map (·.b)).takeWhile gapB = (r.takeWhile gap).map (·.b) := by
    rw [List.takeWhile_map]; rfl
  have e2 : (r.map (·.b)).dropWhile gapB = (r.dropWhile gap).map (·.b) := by
    rw [List.dropWhile_map]; rfl
  rw [e1, e2, List.takeWhile_map]
  simp only [List.length_map]
  rfl
theorem Typing.word {l : List Ent} {p : List UInt8} (h : Typing l p) : wordR (l.reverse.take (Go.Clk.pend l)) = wordB p.reverse := by
  rw [h.pend, List.take_of_length_le (by simp), wordR_map, List.map_reverse, h.1]
theorem wordB_le (r : List UInt8) : wordB r ≤ r.length := by
  unfold wordB
  have h1 := (List.takeWhile_sublist (fun c : UInt8 => !gapB c) (l := r.dropWhile gapB)).length_le
  have h2 := congrArg List.length (List.takeWhile_append_dropWhile (p := gapB) (l := r))
  rw [List.length_append] at h2
  omega

/-- What a byte makes of the pending line; is it ended; is it so by the end of a file. -/
def typed (words files : Bool) (p : List UInt8) (c : UInt8) : List UInt8 × Bool × Bool :=
  if c.toNat = 127 then (p.take (p.length - 1), false, false)
  else if c.toNat = 21 then ([], false, false)
  else if c.toNat = 23 ∧ words = true then (p.take (p.length - wordB p.reverse), false, false)
  else if c.toNat = 4 ∧ files = true then (p, true, true)
  else if c.toNat = 10 ∨ c.toNat = 13 then (p, true, false)
  else (p ++ [c], false, false)

/-- A byte that nothing takes ahead of the line. -/
theorem good_line (σ : St) (c : UInt8) (h16 : σ.I 16 = false) (h8 : σ.I 8 = false) (h256 : σ.I 256 = false) (hq : σ.quoted = false) (hf : σ.flows c = (σ, false)) (hs : σ.sigs c = (σ, false))
    (h64 : σ.I 64 = false) (h128 : σ.I 128 = true) (h32 : σ.I 32 = false) : σ.good c = σ.line (if c.toNat = 13 then 10 else c) := by
  have e1 : σ.good c = σ.good2 c := by unfold St.good St.small; simp [h16, h8, h256]
  have e2 : σ.good2 c = σ.heed c := by unfold St.good2; simp [hq]
  have e3 : σ.heed c = σ.late c := by unfold St.heed; simp [hf, hs]
  rw [e1, e2, e3]
  unfold St.late
  by_cases h : c.toNat = 13
  · simp [h, h64, h128]
  · have : ((c.toNat : Int) == 13) = false := beq_eq_false_iff_ne.2 (by omega)
    simp [h, this, h32]
theorem line_cr (c : UInt8) : (if c.toNat = 13 then (10 : UInt8) else c).toNat = if c.toNat = 13 then 10 else c.toNat := by split <;> simp [*]
theorem isC_iff (σ : St) (c : UInt8) (k : Int) : σ.isC c k = true ↔ c.toNat ≠ 0 ∧ (c.toNat : Int) = σ.ch k.toNat := by
  unfold St.isC
  simp only [Bool.and_eq_true, bne_iff_ne, ne_eq, beq_iff_eq]
  omega
theorem isC_false (σ : St) (c : UInt8) (k : Int) (h : c.toNat = 0 ∨ (c.toNat : Int) ≠ σ.ch k.toNat) : σ.isC c k = false := by
  rw [Bool.eq_false_iff]
  intro h'
  have := (isC_iff σ c k).1 h'
  omega

/-- What a line makes of a byte: the words (x: Extended, with Werase 23; f: Eof 4) that it knows. -/
theorem line_typed (σ : St) (p : List UInt8) (c : UInt8) (x f : Bool) (hl : σ.L 2 = true) (hp : Typing σ.inq p) (hlen : p.length < 255)
    (c3 : σ.ch 3 = 127) (c5 : σ.ch 5 = 21) (c7 : σ.ch 7 = 0) (hx : σ.L 512 = x) (c4 : σ.ch 4 = 23) (c10 : x = true → (c.toNat : Int) ≠ σ.ch 10) (c11 : x = true → (c.toNat : Int) ≠ σ.ch 11) (c6 : if f = true then σ.ch 6 = 4 else σ.ch 6 = 0) (h13 : c.toNat ≠ 13) :
    ∃ l, Same { σ with inq := l, wait := (σ.line c).wait } (σ.line c) ∧
      (if (typed x f p c).2.1 = true then ∃ e : Ent, l = σ.inq ++ [e] ∧ e.fin = true ∧ e.file = (typed x f p c).2.2 ∧ (e.file = false → e.b = c) ∧ (typed x f p c).1 = p else Typing l (typed x f p c).1) ∧
      ((σ.line c).wait = σ.wait ∨ (σ.line c).wait = 0) := by
  have hpl := hp.len
  have hpd := hp.pend
  have wsame : ∀ {τ : St} {l : List Ent}, Same { σ with inq := l } τ → Same { σ with inq := l, wait := τ.wait } τ ∧ (τ.wait = σ.wait ∨ τ.wait = 0) := by
    rintro τ l ⟨o, k, rfl⟩
    exact ⟨⟨o, k, rfl⟩, .inl rfl⟩
  have w0same : ∀ {τ : St} {l : List Ent}, Same { σ with inq := l, wait := 0 } τ → Same { σ with inq := l, wait := τ.wait } τ ∧ (τ.wait = σ.wait ∨ τ.wait = 0) := by
    rintro τ l ⟨o, k, rfl⟩
    exact ⟨⟨o, k, rfl⟩, .inr rfl⟩
  have hline : σ.line c = if (σ.edits c).2 then (σ.edits c).1 else σ.plain c := by unfold St.line; rw [if_pos hl]
  by_cases e3 : c.toNat = 127
  · have i3 : σ.isC c 3 = true := (isC_iff σ c 3).2 ⟨by omega, by show (c.toNat : Int) = σ.ch 3; omega⟩
    have hL : σ.line c = σ.rubs (min 1 (pend σ.inq)) c := by
      have hE : σ.edits c = (σ.rubs (min 1 (pend σ.inq)) c, true) := by unfold St.edits; rw [if_pos i3]
      rw [hline, hE]; rfl
    have ht : typed x f p c = (p.take (p.length - 1), false, false) := by unfold typed; rw [if_pos e3]
    rw [hL, ht]
    have h1 := rubs_same σ (min 1 (pend σ.inq)) c (by rw [hpd]; omega)
    refine ⟨_, (wsame h1).1, ?_, (wsame h1).2⟩
    rw [if_neg (by simp)]
    have h2 := hp.take (σ.inq.length - min 1 (pend σ.inq))
    have e1 : p.take (σ.inq.length - min 1 (pend σ.inq)) = p.take (p.length - 1) := by congr 1; omega
    rw [e1] at h2; exact h2
  have i3 : σ.isC c 3 = false := isC_false σ c 3 (.inr (by show (c.toNat : Int) ≠ σ.ch 3; omega))
  by_cases e5 : c.toNat = 21
  · have i5 : σ.isC c 5 = true := (isC_iff σ c 5).2 ⟨by omega, by show (c.toNat : Int) = σ.ch 5; omega⟩
    have hL : σ.line c = σ.kills (pend σ.inq) c := by
      have hE : σ.edits c = (σ.kills (pend σ.inq) c, true) := by unfold St.edits; simp [i3, i5]
      rw [hline, hE]; rfl
    have ht : typed x f p c = ([], false, false) := by unfold typed; rw [if_neg e3, if_pos e5]
    rw [hL, ht]
    have h1 := kills_same σ (pend σ.inq) c (by omega)
    refine ⟨_, (wsame h1).1, ?_, (wsame h1).2⟩
    rw [if_neg (by simp)]
    have h2 := hp.take (σ.inq.length - pend σ.inq)
    have e1 : p.take (σ.inq.length - pend σ.inq) = [] := by rw [hpd, Nat.sub_self]; rfl
    rw [e1] at h2; exact h2
  have i5 : σ.isC c 5 = false := isC_false σ c 5 (.inr (by show (c.toNat : Int) ≠ σ.ch 5; omega))
  by_cases e4 : c.toNat = 23 ∧ x = true
  · have i4 : σ.isC c 4 = true := (isC_iff σ c 4).2 ⟨by omega, by show (c.toNat : Int) = σ.ch 4; omega⟩
    have hL : σ.line c = σ.rubs (wordR (σ.inq.reverse.take (pend σ.inq))) c := by
      have hE : σ.edits c = (σ.rubs (wordR (σ.inq.reverse.take (pend σ.inq))) c, true) := by unfold St.edits; simp [i3, i5, i4, hx, e4.2]
      rw [hline, hE]; rfl
    have ht : typed x f p c = (p.take (p.length - wordB p.reverse), false, false) := by unfold typed; rw [if_neg e3, if_neg e5, if_pos e4]
    rw [hL, ht, hp.word]
    have hw := wordB_le p.reverse
    rw [List.length_reverse] at hw
    have h1 := rubs_same σ (wordB p.reverse) c (by omega)
    refine ⟨_, (wsame h1).1, ?_, (wsame h1).2⟩
    rw [if_neg (by simp)]
    have h2 := hp.take (σ.inq.length - wordB p.reverse)
    rw [hpl] at h2 ⊢; exact h2
  have i4 : (σ.L 512 && σ.isC c 4) = false := by
    rw [hx]
    cases x with
    | false => rfl
    | true => rw [isC_false σ c 4 (.inr (by show (c.toNat : Int) ≠ σ.ch 4; have : c.toNat ≠ 23 := fun h => e4 ⟨h, rfl⟩; omega))]; rfl
  have i10 : (σ.L 512 && σ.isC c 10) = false := by
    rw [hx]
    cases x with
    | false => rfl
    | true => rw [isC_false σ c 10 (.inr (c10 rfl))]; rfl
  have i11 : (σ.L 512 && (σ.L 4 && σ.isC c 11)) = false := by
    rw [hx]
    cases x with
    | false => rfl
    | true => rw [isC_false σ c 11 (.inr (c11 rfl))]; simp
  have i7 : σ.isC c 7 = false := isC_false σ c 7 (by show _ ∨ (c.toNat : Int) ≠ σ.ch 7; omega)
  by_cases e6 : c.toNat = 4 ∧ f = true
  · have i6 : σ.isC c 6 = true := (isC_iff σ c 6).2 ⟨by omega, by show (c.toNat : Int) = σ.ch 6; rw [if_pos e6.2] at c6; omega⟩
    have hL : σ.line c = { σ with inq := σ.inq ++ [⟨0, true, true, 0⟩], wait := 0 } := by
      have hE : σ.edits c = (σ.lays ⟨0, true, true, 0⟩, true) := by unfold St.edits; simp only [i3, i5, i4, i10, i11, i6]; rfl
      rw [hline, hE, ← lays_file_same σ (by omega)]; rfl
    have ht : typed x f p c = (p, true, true) := by unfold typed; rw [if_neg e3, if_neg e5, if_neg e4, if_pos e6]
    rw [hL, ht]
    refine ⟨σ.inq ++ [⟨0, true, true, 0⟩], Same.refl _, ?_, .inr rfl⟩
    rw [if_pos rfl]
    exact ⟨_, rfl, rfl, rfl, (fun h => by cases h), rfl⟩
  have i6 : σ.isC c 6 = false := by
    cases f with
    | false => rw [if_neg (by decide)] at c6; exact isC_false σ c 6 (by show _ ∨ (c.toNat : Int) ≠ σ.ch 6; omega)
    | true => rw [if_pos rfl] at c6; exact isC_false σ c 6 (.inr (by show (c.toNat : Int) ≠ σ.ch 6; have : c.toNat ≠ 4 := fun h => e6 ⟨h, rfl⟩; omega))
  by_cases e10 : c.toNat = 10
  · have hL : σ.line c = σ.lays ⟨c, true, false, 0⟩ := by
      have b10 : ((c.toNat : Int) == 10) = true := beq_iff_eq.2 (by omega)
      have hE : σ.edits c = (σ.lays ⟨c, true, false, 0⟩, true) := by unfold St.edits; simp only [i3, i5, i4, i10, i11, i6, b10]; rfl
      rw [hline, hE]; rfl
    have ht : typed x f p c = (p, true, false) := by unfold typed; rw [if_neg e3, if_neg e5, if_neg e4, if_neg e6, if_pos (.inl e10)]
    obtain ⟨k, h1⟩ := lays_fin_same σ c (by omega)
    rw [hL, ht]
    refine ⟨_, (w0same h1).1, ?_, (w0same h1).2⟩
    rw [if_pos rfl]
    exact ⟨_, rfl, rfl, rfl, fun _ => rfl, rfl⟩
  · have hL : σ.line c = σ.plain c := by
      have h10 : ((c.toNat : Int) == 10) = false := beq_eq_false_iff_ne.2 (by omega)
      have hE : σ.edits c = (σ, false) := by unfold St.edits; simp only [i3, i5, i4, i10, i11, i6, h10, i7]; rfl
      rw [hline, hE]; rfl
    have ht : typed x f p c = (p ++ [c], false, false) := by unfold typed; rw [if_neg e3, if_neg e5, if_neg e4, if_neg e6, if_neg (by omega)]
    obtain ⟨k, h1⟩ := plain_same σ c (by omega)
    rw [hL, ht]
    refine ⟨_, (w0same h1).1, ?_, (w0same h1).2⟩
    rw [if_neg (by simp)]
    exact hp.snoc c k
end Go.Clk
namespace Go.Clk
open Go

structure Scr where
  row : List UInt8
  at_ : Nat

namespace Scr
/-- The row, with blanks up to this place. -/
def pad (row : List UInt8) (n : Nat) : List UInt8 := row ++ List.replicate (n + 1 - row.length) 32
def show1 (s : Scr) (c : UInt8) : Scr :=
  if c.toNat = 8 then ⟨s.row, s.at_ - 1⟩
  else if c.toNat = 13 then ⟨s.row, 0⟩
  else if c.toNat = 10 then ⟨[], s.at_⟩
  else ⟨(pad s.row s.at_).set s.at_ c, s.at_ + 1⟩
def shows (s : Scr) (l : List UInt8) : Scr := l.foldl show1 s
theorem shows_app (s : Scr) (l k : List UInt8) : s.shows (l ++ k) = (s.shows l).shows k := by simp [shows]
end Scr

/-- How a byte looks at a column. -/
def pieceR (k : Nat) (c : UInt8) : List UInt8 :=
  if c.toNat = 9 then List.replicate (8 - k % 8) 32 else if c.toNat < 32 then [94, c + 64] else if c.toNat = 127 then [94, 63] else [c]
/-- How a line looks from a column on. -/
def rendF : Nat → List UInt8 → List UInt8
  | _, [] => []
  | k, c :: r => pieceR k c ++ rendF (k + (pieceR k c).length) r
def rend (p : List UInt8) : List UInt8 := rendF 0 p
theorem rendF_app (p q : List UInt8) : ∀ k, rendF k (p ++ q) = rendF k p ++ rendF (k + (rendF k p).length) q := by
  induction p with
  | nil => intro k; simp [rendF]
  | cons c r ih =>
    intro k
    simp only [List.cons_append, rendF, ih, List.length_append, List.append_assoc, Nat.add_assoc]
theorem rend_snoc (p : List UInt8) (c : UInt8) : rend (p ++ [c]) = rend p ++ pieceR (rend p).length c := by
  unfold rend
  rw [rendF_app]
  simp [rendF]
theorem pieceR_len (k : Nat) (c : UInt8) : 1 ≤ (pieceR k c).length ∧ (pieceR k c).length ≤ 8 := by
  unfold pieceR
  repeat' split
  all_goals simp
  omega
theorem pieceR_len2 (k : Nat) (c : UInt8) (h : c.toNat ≠ 9) : (pieceR k c).length ≤ 2 := by
  unfold pieceR
  rw [if_neg h]
  repeat' split
  all_goals simp
theorem rendF_len (p : List UInt8) : ∀ k, (rendF k p).length ≤ 8 * p.length := by
  induction p with
  | nil => intro k; simp [rendF]
  | cons c r ih =>
    intro k
    have := (pieceR_len k c).2
    have := ih (k + (pieceR k c).length)
    simp only [rendF, List.length_append, List.length_cons]; omega
theorem pieceR_shown (k : Nat) (c : UInt8) (h : c.toNat ≠ 10 ∧ c.toNat ≠ 13) : ∀ b ∈ pieceR k c, b.toNat ≠ 8 ∧ b.toNat ≠ 10 ∧ b.toNat ≠ 13 := by
  intro b hb
  unfold pieceR at hb
  split at hb
  · have := (List.mem_replicate.1 hb).2; subst this; decide
  · split at hb
    · simp at hb
      rcases hb with rfl | rfl
      · decide
      · rename_i h2
        have e : (c + 64).toNat = c.toNat + 64 := by rw [UInt8.toNat_add]; have : (64 : UInt8).toNat = 64 := rfl; omega
        omega
    · split at hb
      · simp at hb; rcases hb with rfl | rfl <;> decide
      · simp at hb; subst hb; omega

/-- The screen shows a line, and blanks behind it; the next byte goes there. -/
def Seen (s : Scr) (want : List UInt8) : Prop := s.at_ = want.length ∧ ∃ n, s.row = want ++ List.replicate n 32

theorem set_pad (A : List UInt8) (n : Nat) (c : UInt8) : (Scr.pad (A ++ List.replicate n 32) A.length).set A.length c = A ++ [c] ++ List.replicate (n - 1) 32 := by
  unfold Scr.pad
  rw [List.append_assoc, List.replicate_append_replicate, List.set_append_right _ _ (Nat.le_refl _), Nat.sub_self, List.length_append, List.length_replicate]
  have : n + (A.length + 1 - (A.length + n)) = (n - 1) + 1 := by omega
  rw [this, List.replicate_succ]
  simp
theorem seen_show1 {s : Scr} {A : List UInt8} (h : Seen s A) (c : UInt8) (hc : c.toNat ≠ 8 ∧ c.toNat ≠ 10 ∧ c.toNat ≠ 13) : Seen (s.show1 c) (A ++ [c]) := by
  obtain ⟨h1, n, h2⟩ := h
  unfold Scr.show1
  rw [if_neg hc.1, if_neg hc.2.2, if_neg hc.2.1]
  refine ⟨by simp [h1], n - 1, ?_⟩
  show (Scr.pad s.row s.at_).set s.at_ c = _
  rw [h1, h2, set_pad]
theorem seen_shows (l : List UInt8) : ∀ {s : Scr} {A : List UInt8}, Seen s A → (∀ b ∈ l, b.toNat ≠ 8 ∧ b.toNat ≠ 10 ∧ b.toNat ≠ 13) → Seen (s.shows l) (A ++ l) := by
  induction l with
  | nil => intro s A h _; simpa [Scr.shows] using h
  | cons b r ih =>
    intro s A h hb
    have := ih (seen_show1 h b (hb b (by simp))) (fun x hx => hb x (by simp [hx]))
    simpa [Scr.shows] using this
/-- The last sign is taken off. -/
theorem seen_back {s : Scr} {A : List UInt8} (b : UInt8) (h : Seen s (A ++ [b])) : Seen (s.shows [8, 32, 8]) A := by
  obtain ⟨h1, n, h2⟩ := h
  have e1 : s.at_ - 1 = A.length := by rw [h1]; simp
  refine ⟨?_, n + 1, ?_⟩
  · simp [Scr.shows, Scr.show1, e1]
  · show ((Scr.pad s.row (s.at_ - 1)).set (s.at_ - 1) 32) = _
    rw [e1, h2]
    unfold Scr.pad
    rw [List.append_assoc, List.append_assoc, List.set_append_right _ _ (Nat.le_refl _), Nat.sub_self]
    have : A.length + 1 - (A ++ [b] ++ List.replicate n 32).length = 0 := by simp
    rw [this]
    simp [List.replicate_succ]
theorem seen_backs (B : List UInt8) : ∀ {s : Scr} {A : List UInt8}, Seen s (A ++ B) → Seen (s.shows ((List.replicate B.length [(8 : UInt8), 32, 8]).flatten)) A := by
  induction hn : B.length generalizing B with
  | zero => intro s A h; have : B = [] := List.eq_nil_of_length_eq_zero hn; subst this; simpa [Scr.shows] using h
  | succ n ih =>
    intro s A h
    rcases List.eq_nil_or_concat B with rfl | ⟨C, b, rfl⟩
    · simp at hn
    · rw [List.concat_eq_append, ← List.append_assoc] at h
      have h1 := seen_back b h
      have h2 := ih C (by simpa using hn) h1
      rw [List.replicate_succ, List.flatten_cons, Scr.shows_app]
      exact h2
/-- Blanks are gone back over. -/
theorem seen_tabs (m : Nat) : ∀ {s : Scr} {A : List UInt8}, Seen s (A ++ List.replicate m 32) → Seen (s.shows ((List.replicate m [(8 : UInt8)]).flatten)) A := by
  induction m with
  | zero => intro s A h; simpa [Scr.shows] using h
  | succ m ih =>
    intro s A h
    obtain ⟨h1, n, h2⟩ := h
    rw [List.replicate_succ, List.flatten_cons, Scr.shows_app]
    refine ih ⟨?_, n + 1, ?_⟩
    · show s.at_ - 1 = _
      rw [h1]; simp
    · show s.row = _
      rw [h2, List.replicate_succ', List.replicate_succ]; simp
theorem seen_nl (s : Scr) : Seen (s.shows [13, 10]) [] := by
  refine ⟨rfl, 0, rfl⟩
end Go.Clk
namespace Go.Clk
open Go

/-- The entries of a line, with the cells that it has from a column on. -/
def entsF : Nat → List UInt8 → List Ent
  | _, [] => []
  | k, c :: r => ⟨c, false, false, ((pieceR k c).length : Nat)⟩ :: entsF (k + (pieceR k c).length) r
theorem entsF_app (p q : List UInt8) : ∀ k, entsF k (p ++ q) = entsF k p ++ entsF (k + (rendF k p).length) q := by
  induction p with
  | nil => intro k; simp [entsF, rendF]
  | cons c r ih =>
    intro k
    simp only [List.cons_append, entsF, ih, rendF, List.length_append, Nat.add_assoc]
theorem entsF_len (p : List UInt8) : ∀ k, (entsF k p).length = p.length := by
  induction p with
  | nil => intro k; rfl
  | cons c r ih => intro k; simp [entsF, ih]
theorem entsF_typing (p : List UInt8) : ∀ k, Typing (entsF k p) p := by
  induction p with
  | nil => intro k; exact Typing.nil
  | cons c r ih =>
    intro k
    have h := ih (k + (pieceR k c).length)
    refine ⟨by simp [entsF, h.1], fun e he => ?_⟩
    simp only [entsF, List.mem_cons] at he
    rcases he with rfl | he
    · exact ⟨rfl, rfl⟩
    · exact h.2 e he

/-- Flags of what goes out with which a line is seen as it is. -/
structure Plain (f : Int) : Prop where
  p : bit f 1 = true
  n : bit f 2 = true
  t : bit f 64 = true
  u : bit f 32 = false

/-- Bytes that are put out as themselves. -/
def asIs (c : UInt8) : Prop := c.toNat ≠ 9 ∧ c.toNat ≠ 10 ∧ c.toNat ≠ 13
theorem become_asIs {f : Int} (h : Plain f) (col : Int) {c : UInt8} (hc : asIs c) : become f col c = [c] := by
  unfold become
  obtain ⟨h9, h10, h13⟩ := hc
  simp [h.u, h9, h10, h13]
theorem renderL_one (f col : Int) (c : UInt8) : renderL f col [c] = (become f col c, moves f col (become f col c)) := by simp [renderL]
theorem renderL_acc (f : Int) (l : List UInt8) : ∀ p : List UInt8 × Int, l.foldl (fun p c => (p.1 ++ become f p.2 c, moves f p.2 (become f p.2 c))) p = (p.1 ++ (renderL f p.2 l).1, (renderL f p.2 l).2) := by
  induction l with
  | nil => intro p; simp [renderL]
  | cons c l ih =>
    intro p
    unfold renderL
    simp only [List.foldl_cons]
    rw [ih, ih]
    simp
theorem renderL_cons (f col : Int) (c : UInt8) (l : List UInt8) : renderL f col (c :: l) = (become f col c ++ (renderL f (moves f col (become f col c)) l).1, (renderL f (moves f col (become f col c)) l).2) := by
  conv => lhs; unfold renderL
  simp only [List.foldl_cons]
  rw [renderL_acc]
  simp
theorem renderL_asIs {f : Int} (h : Plain f) (l : List UInt8) : ∀ col : Int, (∀ c ∈ l, asIs c) → renderL f col l = (l, moves f col l) := by
  induction l with
  | nil => intro col _; rfl
  | cons c l ih =>
    intro col hc
    rw [renderL_cons, become_asIs h _ (hc c (by simp)), ih _ (fun x hx => hc x (by simp [hx]))]
    rfl
theorem moved_print (f col : Int) (c : UInt8) (h : 32 ≤ c.toNat ∧ c.toNat ≠ 127) : moved f col c = col + 1 := by
  unfold moved
  rw [if_neg (by omega), if_neg (by omega), if_neg (by omega), if_neg (by omega), if_neg (by omega)]
theorem moves_cons (f col : Int) (c : UInt8) (l : List UInt8) : moves f col (c :: l) = moves f (moved f col c) l := rfl
theorem moved_bs (f col : Int) (h : 0 < col) : moved f col 8 = col - 1 := by
  unfold moved
  simp [h]
theorem moves_rub (f : Int) (t : Bool) (n : Nat) : ∀ col : Int, (n : Int) ≤ col → moves f col ((List.replicate n (if t = true then [(8 : UInt8)] else [8, 32, 8])).flatten) = col - n := by
  induction n with
  | zero => intro col _; simp [moves]
  | succ n ih =>
    intro col h
    rw [List.replicate_succ, List.flatten_cons, moves_app]
    have e1 : moves f col (if t = true then [(8 : UInt8)] else [8, 32, 8]) = col - 1 := by
      cases t with
      | true => show moved f col 8 = _; exact moved_bs f col (by omega)
      | false =>
        show moved f (moved f (moved f col 8) 32) 8 = _
        rw [moved_bs f col (by omega), moved_print f _ 32 (by decide), moved_bs f _ (by omega)]
        omega
    rw [e1, ih (col - 1) (by omega)]
    omega
theorem xor64_small (c : UInt8) (h : c.toNat < 32) : c ^^^ 64 = c + 64 := by
  have : ∀ n : Fin 32, (UInt8.ofNat n.val ^^^ 64) = UInt8.ofNat n.val + 64 := by decide
  have := this ⟨c.toNat, h⟩
  simpa using this
/-- What the echo of a byte comes to. -/
theorem echo_piece {f : Int} (h : Plain f) (σ : St) (k : Nat) (c : UInt8) (hl : σ.L 64 = true) (hc : c.toNat ≠ 10 ∧ c.toNat ≠ 13) : renderL f (k : Int) (σ.shows c) = (pieceR k c, (k : Int) + (pieceR k c).length) := by
  have hlt := UInt8.toNat_lt c
  unfold St.shows St.two
  rw [hl]
  by_cases h9 : c.toNat = 9
  · obtain rfl : c = 9 := UInt8.toNat_inj.1 (by simpa using h9)
    have e1 : pieceR k 9 = List.replicate (8 - k % 8) 32 := rfl
    have e2 : become f k 9 = List.replicate (8 - (k : Int) % 8).toNat 32 := by unfold become; simp [h.p, h.u, h.t]
    have e3 : (8 - (k : Int) % 8).toNat = 8 - k % 8 := by omega
    rw [if_neg (by simp), renderL_one, e2, e3, e1, moves_blanks]
    simp
  · have b9 : ((c.toNat : Int) != 9) = true := bne_iff_ne.2 (by omega)
    have b10 : ((c.toNat : Int) != 10) = true := bne_iff_ne.2 (by omega)
    by_cases h32 : c.toNat < 32
    · have d1 : decide ((c.toNat : Int) < 32) = true := decide_eq_true (by omega)
      rw [if_pos (by rw [b9, b10, d1]; rfl), xor64_small c h32]
      have e : (c + 64).toNat = c.toNat + 64 := by rw [UInt8.toNat_add]; have : (64 : UInt8).toNat = 64 := rfl; omega
      rw [renderL_asIs h [94, c + 64] k (by intro x hx; simp at hx; rcases hx with rfl | rfl; exact ⟨by decide, by decide, by decide⟩; exact ⟨by omega, by omega, by omega⟩)]
      have e1 : pieceR k c = [94, c + 64] := by unfold pieceR; rw [if_neg h9, if_pos h32]
      rw [e1, moves_cons, moves_cons, moved_print f _ 94 (by decide), moved_print f _ (c + 64) ⟨by omega, by omega⟩]
      simp [moves]; omega
    · by_cases h127 : c.toNat = 127
      · obtain rfl : c = 127 := UInt8.toNat_inj.1 (by simpa using h127)
        have e1 : pieceR k 127 = [94, 63] := rfl
        have e2 : (127 : UInt8) ^^^ 64 = 63 := by decide
        rw [if_pos (by decide), e2, renderL_asIs h [94, 63] k (by intro x hx; simp at hx; rcases hx with rfl | rfl <;> exact ⟨by decide, by decide, by decide⟩), e1, moves_cons, moves_cons, moved_print f _ 94 (by decide), moved_print f _ 63 (by decide)]
        simp [moves]; omega
      · have d1 : decide ((c.toNat : Int) < 32) = false := decide_eq_false (by omega)
        have d2 : ((c.toNat : Int) == 127) = false := beq_eq_false_iff_ne.2 (by omega)
        rw [if_neg (by rw [d1, d2]; simp), renderL_asIs h [c] k (by intro x hx; simp at hx; subst hx; exact ⟨h9, hc.1, hc.2⟩)]
        have e1 : pieceR k c = [c] := by unfold pieceR; rw [if_neg h9, if_neg h32, if_neg h127]
        rw [e1, moves_cons, moved_print f _ c ⟨by omega, h127⟩]
        simp [moves]
end Go.Clk
namespace Go.Clk
open Go

def shSet (f : Int) : List Int := [128, f, 206, 3, 28, 26, 127, 23, 21, 0, 0, 17, 19, 22, 18, 1, 0]
/-- A line is being typed, and all that was put out is sent. -/
structure Sh (f : Int) (p : List UInt8) (σ : St) : Prop where
  ss : σ.ss = shSet f
  inq : σ.inq = entsF 0 p
  out : σ.out = []
  urg : σ.urg = []
  col : σ.col = ((rend p).length : Nat)
  stopped : σ.stopped = false
  held : σ.held = false
  quoted : σ.quoted = false
  noted : σ.noted = []
  reads : σ.reads = false

theorem look_idle (σ : St) (hr : σ.reads = false) (hh : σ.held = false) (hf : σ.I 2048 = false) : σ.look = σ := by
  have e1 : σ.ends = σ := by unfold St.ends; simp [hr]
  unfold St.look
  rw [e1]
  unfold St.hold
  simp [hh, hf]
theorem put_room (σ : St) (l r : List UInt8) (k : Int) (h : renderL σ.o σ.col l = (r, k)) (hr : σ.out.length + r.length ≤ 256) : (σ.put l).1 = { σ with out := σ.out ++ r, col := k } := by
  rcases put_cases σ l with e | e
  · exfalso
    have := e.2
    unfold St.put at this
    rw [putAll_render, h] at this
    dsimp only at this
    rw [if_neg (by rw [List.length_append]; omega)] at this
    cases this
  · rw [e.1, h]
section
variable {f : Int} {p : List UInt8} {σ : St}
theorem Sh.i (h : Sh f p σ) : σ.i = 128 := by unfold St.i; rw [h.ss]; rfl
theorem Sh.o (h : Sh f p σ) : σ.o = f := by unfold St.o; rw [h.ss]; rfl
theorem Sh.l (h : Sh f p σ) : σ.l = 206 := by unfold St.l; rw [h.ss]; rfl
theorem Sh.ch (h : Sh f p σ) (k : Nat) : σ.ch k = gt (shSet f) (3 + k) := by unfold St.ch; rw [h.ss]
theorem Sh.I_ (h : Sh f p σ) (k : Int) : σ.I k = bit 128 k := by unfold St.I; rw [h.i]
theorem Sh.L_ (h : Sh f p σ) (k : Int) : σ.L k = bit 206 k := by unfold St.L; rw [h.l]
theorem Sh.flows (h : Sh f p σ) (c : UInt8) : σ.flows c = (σ, false) := by
  unfold St.flows; rw [h.I_ 512]; rfl
theorem Sh.sigs (h : Sh f p σ) (c : UInt8) : σ.sigs c = (σ, false) := by
  unfold St.sigs; rw [h.L_ 1]; rfl
theorem Sh.good (h : Sh f p σ) (c : UInt8) : σ.good c = σ.line (if c.toNat = 13 then 10 else c) :=
  good_line σ c (by rw [h.I_]; decide) (by rw [h.I_]; decide) (by rw [h.I_]; decide) h.quoted (h.flows c) (h.sigs c) (by rw [h.I_]; decide) (by rw [h.I_]; decide) (by rw [h.I_]; decide)
theorem Sh.pl (h : Sh f p σ) : pend σ.inq = p.length := by rw [h.inq, (entsF_typing p 0).pend, entsF_len]
/-- The line is left with fewer bytes, and all that was put out is sent. -/
theorem Sh.mk_ (h : Sh f p σ) (q : List UInt8) (w : Int) : Sh f q { σ with inq := entsF 0 q, out := [], col := ((rend q).length : Nat), wait := w } :=
  ⟨h.ss, rfl, rfl, h.urg, rfl, h.stopped, h.held, h.quoted, h.noted, h.reads⟩

theorem Sh.line_plain (h : Sh f p σ) (hf : Plain f) (c : UInt8) (hp : p.length < 200) (hc : c.toNat ≠ 127 ∧ c.toNat ≠ 21 ∧ c.toNat ≠ 10 ∧ c.toNat ≠ 13) :
    σ.line c = { σ with inq := entsF 0 (p ++ [c]), out := pieceR (rend p).length c, col := ((rend (p ++ [c])).length : Nat), wait := 0 } := by
  have hE : σ.edits c = (σ, false) := by
    have i3 : σ.isC c 3 = false := isC_false σ c 3 (.inr (by rw [h.ch]; show (c.toNat : Int) ≠ 127; omega))
    have i5 : σ.isC c 5 = false := isC_false σ c 5 (.inr (by rw [h.ch]; show (c.toNat : Int) ≠ 21; omega))
    have i6 : σ.isC c 6 = false := isC_false σ c 6 (by rw [h.ch]; show _ ∨ (c.toNat : Int) ≠ 0; omega)
    have i7 : σ.isC c 7 = false := isC_false σ c 7 (by rw [h.ch]; show _ ∨ (c.toNat : Int) ≠ 0; omega)
    have hX : σ.L 512 = false := by rw [h.L_]; decide
    have h10 : ((c.toNat : Int) == 10) = false := beq_eq_false_iff_ne.2 (by omega)
    unfold St.edits; simp only [i3, i5, hX, i6, h10, i7]; rfl
  have hL : σ.line c = σ.plain c := by unfold St.line; rw [hE]; simp
  have hrd : renderL σ.o σ.col (σ.shows c) = (pieceR (rend p).length c, ((rend p).length : Int) + (pieceR (rend p).length c).length) := by
    rw [h.o, h.col]; exact echo_piece hf σ _ c (by rw [h.L_]; decide) ⟨hc.2.2.1, hc.2.2.2⟩
  have hw := pieceR_len (rend p).length c
  have hecho : σ.echo1 c = { σ with out := pieceR (rend p).length c, col := ((rend p).length : Int) + (pieceR (rend p).length c).length } := by
    unfold St.echo1
    have he : σ.echoes c = true := by unfold St.echoes; rw [h.L_ 4]; rfl
    rw [if_pos he, put_room σ _ _ _ hrd (by rw [h.out]; simp; omega), h.out]; rfl
  have hcl : σ.cellsOf c = ((pieceR (rend p).length c).length : Nat) := by
    unfold St.cellsOf; rw [hecho]; dsimp only; rw [h.col]; rw [if_pos (by omega)]; omega
  have hm : ¬ σ.most false ≤ σ.inq.length := by
    have := entsF_len p 0
    rw [h.inq, this]; unfold St.most; split <;> omega
  rw [hL]
  unfold St.plain St.lays
  dsimp only
  rw [if_neg hm, if_neg (by simp), hecho, hcl, h.inq]
  have e1 : entsF 0 (p ++ [c]) = entsF 0 p ++ [⟨c, false, false, ((pieceR (rend p).length c).length : Nat)⟩] := by rw [entsF_app]; simp [entsF, rend]
  have e2 : ((rend (p ++ [c])).length : Int) = ((rend p).length : Int) + (pieceR (rend p).length c).length := by rw [rend_snoc]; simp
  rw [e1, e2]
theorem seen_plain {s : Scr} (hs : Seen s (rend p)) (c : UInt8) (hc : c.toNat ≠ 10 ∧ c.toNat ≠ 13) : Seen (s.shows (pieceR (rend p).length c)) (rend (p ++ [c])) := by
  rw [rend_snoc]; exact seen_shows _ hs (pieceR_shown _ c hc)

/-- What takes the echo of a byte at a column off. -/
def offB (k : Nat) (c : UInt8) : List UInt8 := (List.replicate (pieceR k c).length (if c.toNat = 9 then [(8 : UInt8)] else [8, 32, 8])).flatten
theorem offB_len (k : Nat) (c : UInt8) : (offB k c).length ≤ 8 := by
  unfold offB
  by_cases h : c.toNat = 9
  · rw [if_pos h]
    have := (pieceR_len k c).2
    rw [List.length_flatten, List.map_replicate, List.sum_replicate_nat]; simp; omega
  · rw [if_neg h]
    have := pieceR_len2 k c h
    rw [List.length_flatten, List.map_replicate, List.sum_replicate_nat]; simp; omega
theorem rubOne_off (k : Nat) (c : UInt8) : rubOne ⟨c, false, false, ((pieceR k c).length : Nat)⟩ = offB k c := by
  unfold rubOne offB
  dsimp only
  rw [Int.toNat_natCast]
  by_cases h : c.toNat = 9
  · rw [if_pos h, if_pos (by simp; omega)]
  · rw [if_neg h, if_neg (by simp; omega)]
theorem offB_asIs (k : Nat) (c : UInt8) : ∀ b ∈ offB k c, asIs b := by
  intro b hb
  unfold offB at hb
  obtain ⟨l, hl, hbl⟩ := List.mem_flatten.1 hb
  have := (List.mem_replicate.1 hl).2
  subst this
  split at hbl
  · simp at hbl; subst hbl; exact ⟨by decide, by decide, by decide⟩
  · simp at hbl; rcases hbl with rfl | rfl | rfl <;> exact ⟨by decide, by decide, by decide⟩
theorem offB_moves (g : Int) (k : Nat) (c : UInt8) (col : Int) (h : ((pieceR k c).length : Int) ≤ col) : moves g col (offB k c) = col - (pieceR k c).length := by
  unfold offB
  by_cases h9 : c.toNat = 9
  · rw [if_pos h9]; exact moves_rub g true _ col h
  · rw [if_neg h9]; exact moves_rub g false _ col h
theorem seen_off {s : Scr} (c : UInt8) (hs : Seen s (rend (p ++ [c]))) : Seen (s.shows (offB (rend p).length c)) (rend p) := by
  rw [rend_snoc] at hs
  unfold offB
  by_cases h9 : c.toNat = 9
  · rw [if_pos h9]
    have e1 : pieceR (rend p).length c = List.replicate (8 - (rend p).length % 8) 32 := by unfold pieceR; rw [if_pos h9]
    rw [e1] at hs ⊢
    rw [List.length_replicate]
    exact seen_tabs _ hs
  · rw [if_neg h9]; exact seen_backs _ hs

/-- The last entry of a line is rubbed out, and it is seen. -/
theorem rub_last (hf : Plain f) (τ : St) (q : List UInt8) (c : UInt8) (n : Nat) (ho : τ.o = f) (hi : τ.inq = entsF 0 (q ++ [c])) (hc : τ.col = ((rend (q ++ [c])).length : Nat)) (hr : τ.out.length + 8 ≤ 256) :
    St.rub true (n + 1) τ = St.rub true n { τ with inq := entsF 0 q, out := τ.out ++ offB (rend q).length c, col := ((rend q).length : Nat) } := by
  have e1 : entsF 0 (q ++ [c]) = entsF 0 q ++ [⟨c, false, false, ((pieceR (rend q).length c).length : Nat)⟩] := by rw [entsF_app]; simp [entsF, rend]
  have hl : τ.inq.getLast? = some ⟨c, false, false, ((pieceR (rend q).length c).length : Nat)⟩ := by rw [hi, e1]; simp
  conv => lhs; unfold St.rub
  rw [hl]
  dsimp only
  rw [if_pos rfl]
  congr 1
  have hd : τ.inq.dropLast = entsF 0 q := by rw [hi, e1]; simp
  have hlen : ((rend (q ++ [c])).length : Int) = ((rend q).length : Int) + (pieceR (rend q).length c).length := by rw [rend_snoc]; simp
  rw [rubOne_off]
  have hrd : renderL ({ τ with inq := τ.inq.dropLast } : St).o ({ τ with inq := τ.inq.dropLast } : St).col (offB (rend q).length c) = (offB (rend q).length c, ((rend q).length : Int)) := by
    show renderL τ.o τ.col _ = _
    rw [ho, hc, renderL_asIs hf _ _ (offB_asIs _ c), offB_moves f _ c _ (by omega)]
    congr 1; omega
  have := offB_len (rend q).length c
  rw [put_room _ _ _ _ hrd (by show τ.out.length + _ ≤ _; omega), hd]

/-- What takes a whole line off: its last byte first. -/
def offAll : List UInt8 → List UInt8 → List UInt8
  | _, [] => []
  | q, c :: r => offAll (q ++ [c]) r ++ offB (rend q).length c
theorem offAll_snoc (r : List UInt8) (c : UInt8) : ∀ q, offAll q (r ++ [c]) = offB (rend (q ++ r)).length c ++ offAll q r := by
  induction r with
  | nil => intro q; simp [offAll]
  | cons a r ih => intro q; simp only [List.cons_append, offAll, ih, List.append_assoc, List.nil_append]
theorem offAll_len (r : List UInt8) : ∀ q, (offAll q r).length ≤ 8 * r.length := by
  induction r with
  | nil => intro q; simp [offAll]
  | cons a r ih =>
    intro q
    have := offB_len (rend q).length a
    have := ih (q ++ [a])
    simp only [offAll, List.length_append, List.length_cons]; omega
theorem rub_all (hf : Plain f) (m : Nat) : ∀ (τ : St) (q : List UInt8), q.length = m → τ.o = f → τ.inq = entsF 0 q → τ.col = ((rend q).length : Nat) → τ.out.length + 8 * m ≤ 256 →
    St.rub true m τ = { τ with inq := [], out := τ.out ++ offAll [] q, col := 0 } := by
  induction m with
  | zero =>
    intro τ q hq ho hi hc hr
    have : q = [] := List.eq_nil_of_length_eq_zero hq
    subst this
    have e1 : τ.inq = [] := hi
    have e2 : τ.col = 0 := hc
    simp [St.rub, offAll, ← e1, ← e2]
  | succ m ih =>
    intro τ q hq ho hi hc hr
    rcases List.eq_nil_or_concat q with rfl | ⟨r, c, rfl⟩
    · simp at hq
    · rw [List.concat_eq_append] at hq hi hc ⊢
      rw [rub_last hf τ r c m ho hi hc (by omega)]
      have hb := offB_len (rend r).length c
      rw [ih { τ with inq := entsF 0 r, out := τ.out ++ offB (rend r).length c, col := ((rend r).length : Nat) } r (by simpa using hq) ho rfl rfl (by dsimp only; rw [List.length_append]; omega)]
      rw [offAll_snoc]
      simp
theorem seen_all (m : Nat) : ∀ (q : List UInt8) (s : Scr), q.length = m → Seen s (rend q) → Seen (s.shows (offAll [] q)) [] := by
  induction m with
  | zero =>
    intro q s hq hs
    have : q = [] := List.eq_nil_of_length_eq_zero hq
    subst this
    exact hs
  | succ m ih =>
    intro q s hq hs
    rcases List.eq_nil_or_concat q with rfl | ⟨r, c, rfl⟩
    · simp at hq
    · rw [List.concat_eq_append] at hq hs ⊢
      rw [offAll_snoc, Scr.shows_app, List.nil_append]
      exact ih r _ (by simpa using hq) (seen_off c hs)

theorem Sh.line_erase0 (h : Sh f [] σ) : σ.line 127 = σ := by
  have i3 : σ.isC 127 3 = true := (isC_iff σ 127 3).2 ⟨by decide, by rw [h.ch]; rfl⟩
  have hi : σ.inq = [] := h.inq
  have hE : σ.edits 127 = (σ, true) := by
    unfold St.edits
    rw [if_pos i3, hi]
    have : min 1 (pend []) = 0 := rfl
    rw [this]; unfold St.rubs; simp [St.rub]
  unfold St.line
  rw [hE, h.L_ 2]; rfl
theorem Sh.line_erase {q : List UInt8} {c : UInt8} (h : Sh f (q ++ [c]) σ) (hf : Plain f) : σ.line 127 = { σ with inq := entsF 0 q, out := offB (rend q).length c, col := ((rend q).length : Nat) } := by
  have i3 : σ.isC 127 3 = true := (isC_iff σ 127 3).2 ⟨by decide, by rw [h.ch]; rfl⟩
  have hpl := h.pl
  have hE : σ.edits 127 = (σ.rubs 1 127, true) := by
    unfold St.edits
    rw [if_pos i3, hpl]
    have : min 1 (q ++ [c]).length = 1 := by simp
    rw [this]
  have h4 : σ.L 4 = true := by rw [h.L_]; decide
  have h8 : σ.L 8 = true := by rw [h.L_]; decide
  have hR : σ.rubs 1 127 = St.rub true 1 σ := by unfold St.rubs; rw [h4, h8]; rfl
  unfold St.line
  rw [hE, h.L_ 2, hR, rub_last hf σ q c 0 h.o h.inq h.col (by rw [h.out]; simp), h.out]
  rfl
theorem Sh.line_kill (h : Sh f p σ) (hf : Plain f) (hp : p.length ≤ 32) : σ.line 21 = { σ with inq := [], out := offAll [] p, col := 0 } := by
  have i3 : σ.isC 21 3 = false := isC_false σ 21 3 (.inr (by rw [h.ch]; show (21 : Int) ≠ 127; decide))
  have i5 : σ.isC 21 5 = true := (isC_iff σ 21 5).2 ⟨by decide, by rw [h.ch]; rfl⟩
  have hE : σ.edits 21 = (σ.kills p.length 21, true) := by unfold St.edits; rw [h.pl]; simp [i3, i5]
  have h4 : σ.L 4 = true := by rw [h.L_]; decide
  have h8 : σ.L 8 = true := by rw [h.L_]; decide
  have h128 : σ.L 128 = true := by rw [h.L_]; decide
  have hR : σ.kills p.length 21 = St.rub true p.length σ := by unfold St.kills; rw [h4, h8, h128]; rfl
  unfold St.line
  rw [hE, h.L_ 2, hR, rub_all hf p.length σ p rfl h.o h.inq h.col (by rw [h.out]; simp; omega), h.out]
  rfl
theorem Sh.line_nl (h : Sh f p σ) (hf : Plain f) (hp : p.length < 200) : ∃ k, σ.line 10 = { σ with inq := entsF 0 p ++ [⟨10, true, false, k⟩], out := [13, 10], col := 0, wait := 0 } := by
  have i3 : σ.isC 10 3 = false := isC_false σ 10 3 (.inr (by rw [h.ch]; show (10 : Int) ≠ 127; decide))
  have i5 : σ.isC 10 5 = false := isC_false σ 10 5 (.inr (by rw [h.ch]; show (10 : Int) ≠ 21; decide))
  have i6 : σ.isC 10 6 = false := isC_false σ 10 6 (.inr (by rw [h.ch]; show (10 : Int) ≠ 0; decide))
  have hX : σ.L 512 = false := by rw [h.L_]; decide
  have hE : σ.edits 10 = (σ.lays ⟨10, true, false, 0⟩, true) := by unfold St.edits; simp only [i3, i5, hX, i6]; rfl
  have hrd : renderL σ.o σ.col (σ.shows 10) = ([13, 10], 0) := by
    have e1 : σ.shows 10 = [10] := by unfold St.shows St.two; simp
    have e2 : become σ.o σ.col 10 = [13, 10] := by rw [h.o]; unfold become; simp [hf.p, hf.n]
    have e3 : moves σ.o σ.col [13, 10] = 0 := by
      rw [moves_cons, moves_cons]
      have : moved σ.o σ.col 13 = 0 := by unfold moved; simp
      rw [this]
      unfold moved moves; simp
    rw [e1, renderL_one, e2, e3]
  have hecho : σ.echo1 10 = { σ with out := [13, 10], col := 0 } := by
    unfold St.echo1
    have he : σ.echoes 10 = true := by unfold St.echoes; rw [h.L_ 4]; rfl
    rw [if_pos he, put_room σ _ _ _ hrd (by rw [h.out]; simp), h.out]; rfl
  have hm : ¬ σ.most true ≤ σ.inq.length := by
    have := entsF_len p 0
    rw [h.inq, this]; unfold St.most; simp; omega
  refine ⟨σ.cellsOf 10, ?_⟩
  unfold St.line
  rw [hE, h.L_ 2]
  show σ.lays ⟨10, true, false, 0⟩ = _
  unfold St.lays
  dsimp only
  rw [if_neg hm, if_neg (by simp), hecho, h.inq]
end
end Go.Clk
namespace Go.Clk
open Go

theorem drain_all (σ : St) (n : Nat) (hu : σ.urg = []) (hs : σ.stopped = false) (ho : σ.out.length ≤ n) : σ.drain n = ({ σ with out := [] }, σ.out) := by
  unfold St.drain
  rw [hu, hs]
  simp only [List.take_nil, List.drop_nil, List.length_nil, Nat.sub_zero, List.nil_append, Bool.false_eq_true, if_false]
  rw [List.drop_eq_nil_of_le ho, List.take_of_length_le ho, ← hu]
theorem receive_one (σ : St) (c : UInt8) : σ.receive 0 [c] = ((σ.good c).look, 0) := rfl
/-- A line that was ended is read whole. -/
theorem read_line (σ : St) (l : List Ent) (p : List UInt8) (e : Ent) (hl : σ.L 2 = true) (hi : σ.inq = l ++ [e]) (ht : Typing l p) (he : e.fin = true) (hp : p.length < 256) (hr : σ.reads = false) (hh : σ.held = false) (hf : σ.I 2048 = false) :
    σ.read 256 = ({ σ with reads := true, ended := true, n := 256, wait := 0, inq := [], data := p ++ (if e.file then [] else [e.b]) }, 0) := by
  unfold St.read
  rw [if_neg (by omega), if_neg (by rw [hr]; decide)]
  have hrd : ({ σ with reads := true, ended := false, n := 256, wait := 0 } : St).ready = true := by
    unfold St.ready
    rw [if_pos (by exact hl)]
    show σ.inq.any (·.fin) = true
    rw [hi]; simp [he]
  have hfe : fetch 256 σ.inq [] = ([], p ++ (if e.file then [] else [e.b])) := by
    rw [hi]
    cases hfi : e.file with
    | true => rw [fetch_file 256 l p [] e ht he hfi (by simp; omega)]; simp
    | false => rw [fetch_typing 256 l p [] e ht he hfi (by simp; omega)]; simp
  have hends : ({ σ with reads := true, ended := false, n := 256, wait := 0 } : St).ends = { σ with reads := true, ended := true, n := 256, wait := 0, inq := [], data := p ++ (if e.file then [] else [e.b]) } := by
    unfold St.ends
    rw [hrd, if_pos (by rfl)]
    show ({ σ with reads := true, ended := true, n := 256, wait := 0, inq := (fetch 256 σ.inq []).1, data := (fetch 256 σ.inq []).2 } : St) = _
    rw [hfe]
  have hI : ({ σ with reads := true, ended := true, n := 256, wait := 0, inq := [], data := p ++ (if e.file then [] else [e.b]) } : St).I 2048 = false := hf
  unfold St.look
  rw [hends]
  unfold St.hold
  rw [hI]
  simp [hh]
theorem take_ended (σ : St) (hr : σ.reads = true) (he : σ.ended = true) : σ.take = ({ σ with reads := false }, σ.data, true, 0) := by
  unfold St.take; rw [if_pos hr, if_pos he]

/-- THE SCREEN SHOWS THE LINE: a byte that ends none. -/
theorem shown_step {f : Int} {p : List UInt8} {σ : St} (hf : Plain f) (h : Sh f p σ) (c : UInt8) (s : Scr) (hs : Seen s (rend p)) (hp : p.length < 30 ∨ p.length ≤ 30 ∧ (c.toNat = 127 ∨ c.toNat = 21)) (hn : (typed false false p c).2.1 = false) :
    Sh f (typed false false p c).1 { (σ.good c).look with out := [] } ∧ Seen (s.shows (σ.good c).look.out) (rend (typed false false p c).1) ∧ (σ.good c).look.urg = [] ∧ (σ.good c).look.stopped = false ∧ (σ.good c).look.out.length ≤ 256 := by
  have idle : ∀ τ : St, τ.ss = σ.ss → τ.reads = false → τ.held = false → τ.look = τ := fun τ h1 h2 h3 => look_idle τ h2 h3 (by unfold St.I St.i; rw [h1, h.ss]; rfl)
  have go : ∀ (c' : UInt8) (τ : St), σ.line c' = τ → τ.ss = σ.ss → τ.reads = false → τ.held = false → (σ.line c').look = τ := fun c' τ e h1 h2 h3 => by rw [e]; exact idle τ h1 h2 h3
  rw [h.good]
  by_cases e127 : c.toNat = 127
  · have ht : typed false false p c = (p.take (p.length - 1), false, false) := by unfold typed; rw [if_pos e127]
    obtain rfl : c = 127 := UInt8.toNat_inj.1 (by simpa using e127)
    rw [if_neg (by decide), ht]
    rcases List.eq_nil_or_concat p with rfl | ⟨q, d, rfl⟩
    · rw [go _ _ h.line_erase0 rfl h.reads h.held, h.out]
      refine ⟨?_, hs, h.urg, h.stopped, by simp⟩
      exact ⟨h.ss, h.inq, rfl, h.urg, h.col, h.stopped, h.held, h.quoted, h.noted, h.reads⟩
    · rw [List.concat_eq_append] at h hs ⊢
      have e1 : (q ++ [d]).take ((q ++ [d]).length - 1) = q := by simp
      rw [go _ _ (h.line_erase hf) rfl h.reads h.held]
      dsimp only
      rw [e1]
      refine ⟨⟨h.ss, rfl, rfl, h.urg, rfl, h.stopped, h.held, h.quoted, h.noted, h.reads⟩, seen_off d hs, h.urg, h.stopped, ?_⟩
      have := offB_len (rend q).length d; omega
  by_cases e21 : c.toNat = 21
  · have ht : typed false false p c = ([], false, false) := by unfold typed; rw [if_neg e127, if_pos e21]
    obtain rfl : c = 21 := UInt8.toNat_inj.1 (by simpa using e21)
    rw [if_neg (by decide), ht, go _ _ (h.line_kill hf (by omega)) rfl h.reads h.held]
    dsimp only
    refine ⟨⟨h.ss, rfl, rfl, h.urg, rfl, h.stopped, h.held, h.quoted, h.noted, h.reads⟩, seen_all p.length p s rfl hs, h.urg, h.stopped, ?_⟩
    have := offAll_len p []; omega
  · have hne : c.toNat ≠ 10 ∧ c.toNat ≠ 13 := by
      unfold typed at hn
      rw [if_neg e127, if_neg e21, if_neg (by simp), if_neg (by simp)] at hn
      by_cases h1 : c.toNat = 10 ∨ c.toNat = 13
      · rw [if_pos h1] at hn; cases hn
      · omega
    have ht : typed false false p c = (p ++ [c], false, false) := by unfold typed; rw [if_neg e127, if_neg e21, if_neg (by simp), if_neg (by simp), if_neg (by omega)]
    rw [if_neg hne.2, ht, go _ _ (h.line_plain hf c (by omega) ⟨e127, e21, hne.1, hne.2⟩) rfl h.reads h.held]
    dsimp only
    refine ⟨⟨h.ss, rfl, rfl, h.urg, rfl, h.stopped, h.held, h.quoted, h.noted, h.reads⟩, seen_plain hs c hne, h.urg, h.stopped, ?_⟩
    have := (pieceR_len (rend p).length c).2; omega
/-- THE SCREEN SHOWS THE LINE: a byte that ends it, and the line is read. -/
theorem shown_end {f : Int} {p : List UInt8} {σ : St} (hf : Plain f) (h : Sh f p σ) (c : UInt8) (s : Scr) (hp : p.length ≤ 30) (hn : (typed false false p c).2.1 = true) :
    (typed false false p c).1 = p ∧ (typed false false p c).2.2 = false ∧ (σ.good c).look.urg = [] ∧ (σ.good c).look.stopped = false ∧ (σ.good c).look.out = [13, 10] ∧ Seen (s.shows [13, 10]) (rend []) ∧
    (({ (σ.good c).look with out := [] } : St).read 256).2 = 0 ∧ (({ (σ.good c).look with out := [] } : St).read 256).1.take.2 = (p ++ [10], true, 0) ∧ Sh f [] (({ (σ.good c).look with out := [] } : St).read 256).1.take.1 := by
  have hc : c.toNat = 10 ∨ c.toNat = 13 := by
    unfold typed at hn
    split at hn
    · cases hn
    · split at hn
      · cases hn
      · rw [if_neg (by simp), if_neg (by simp)] at hn
        split at hn
        · assumption
        · cases hn
  have ht : typed false false p c = (p, true, false) := by
    unfold typed; rw [if_neg (by omega), if_neg (by omega), if_neg (by simp), if_neg (by simp), if_pos hc]
  have hg : (if c.toNat = 13 then (10 : UInt8) else c) = 10 := by
    rcases hc with h1 | h1
    · rw [if_neg (by omega)]; exact UInt8.toNat_inj.1 (by simpa using h1)
    · rw [if_pos h1]
  obtain ⟨k, hk⟩ := h.line_nl hf (by omega)
  have hlk : (σ.line 10).look = { σ with inq := entsF 0 p ++ [⟨10, true, false, k⟩], out := [13, 10], col := 0, wait := 0 } := by
    rw [hk]; exact look_idle _ h.reads h.held (by show bit (gt σ.ss 0) 2048 = false; rw [h.ss]; rfl)
  rw [h.good, hg, hlk, ht]
  dsimp only
  have hrl := read_line ({ σ with inq := entsF 0 p ++ [⟨10, true, false, k⟩], out := [], col := 0, wait := 0 } : St) (entsF 0 p) p ⟨10, true, false, k⟩ (by show bit (gt σ.ss 2) 2 = true; rw [h.ss]; rfl) rfl (entsF_typing p 0) rfl (by omega) h.reads h.held (by show bit (gt σ.ss 0) 2048 = false; rw [h.ss]; rfl)
  refine ⟨rfl, rfl, h.urg, h.stopped, rfl, seen_nl s, ?_, ?_, ?_⟩
  · rw [hrl]
  · rw [hrl, take_ended _ rfl rfl]; rfl
  · rw [hrl, take_ended _ rfl rfl]
    exact ⟨h.ss, rfl, rfl, h.urg, rfl, h.stopped, h.held, h.quoted, h.noted, rfl⟩
end Go.Clk
namespace Go.Clk
open Go

def edSet (l : Int) : List Int := [640, 3, l, 3, 28, 26, 127, 23, 21, 4, 0, 17, 19, 22, 18, 1, 0]
/-- A line is being typed; q: the next byte is quoted; ns: the signals that were noted. -/
structure Ed (l : Int) (p : List UInt8) (q : Bool) (ns : List Int) (σ : St) : Prop where
  ss : σ.ss = edSet l
  l1 : bit l 1 = true
  l2 : bit l 2 = true
  l512 : bit l 512 = true
  inq : Typing σ.inq p
  urg : σ.urg = []
  stopped : σ.stopped = false
  held : σ.held = false
  quoted : σ.quoted = q
  noted : σ.noted = ns
  reads : σ.reads = false
section
variable {l : Int} {p : List UInt8} {q : Bool} {ns : List Int} {σ : St}
theorem Ed.I_ (h : Ed l p q ns σ) (k : Int) : σ.I k = bit 640 k := by unfold St.I St.i; rw [h.ss]; rfl
theorem Ed.L_ (h : Ed l p q ns σ) (k : Int) : σ.L k = bit l k := by unfold St.L St.l; rw [h.ss]; rfl
theorem Ed.ch (h : Ed l p q ns σ) (k : Nat) : σ.ch k = gt (edSet l) (3 + k) := by unfold St.ch; rw [h.ss]
theorem Ed.idle (h : Ed l p q ns σ) {τ : St} (h1 : τ.ss = σ.ss) (h2 : τ.reads = false) (h3 : τ.held = false) : τ.look = τ := look_idle τ h2 h3 (by unfold St.I St.i; rw [h1, h.ss]; rfl)
/-- What parts from it only in what goes out, the column and the wait. -/
theorem Ed.of (h : Ed l p q ns σ) {τ : St} {i : List Ent} {w : Int} {q' : Bool} {ns' : List Int} {p' : List UInt8} (hs : Same { σ with inq := i, wait := w, quoted := q', noted := ns' } τ) (ht : Typing i p') : Ed l p' q' ns' τ ∧ Ed l p' q' ns' { τ with out := [] } := by
  obtain ⟨o, k, rfl⟩ := hs
  exact ⟨⟨h.ss, h.l1, h.l2, h.l512, ht, h.urg, h.stopped, h.held, rfl, rfl, h.reads⟩, ⟨h.ss, h.l1, h.l2, h.l512, ht, h.urg, h.stopped, h.held, rfl, rfl, h.reads⟩⟩
theorem Ed.flows (h : Ed l p q ns σ) (c : UInt8) (h17 : c.toNat ≠ 17) (h19 : c.toNat ≠ 19) : σ.flows c = (σ, false) := by
  have i8 : σ.isC c 8 = false := isC_false σ c 8 (.inr (by rw [h.ch]; show (c.toNat : Int) ≠ 17; omega))
  have i9 : σ.isC c 9 = false := isC_false σ c 9 (.inr (by rw [h.ch]; show (c.toNat : Int) ≠ 19; omega))
  unfold St.flows; rw [h.I_ 512, h.I_ 1024, i8, i9]; rfl
theorem Ed.sigs (h : Ed l p q ns σ) (c : UInt8) (h3 : c.toNat ≠ 3) (h28 : c.toNat ≠ 28) (h26 : c.toNat ≠ 26) : σ.sigs c = (σ, false) := by
  have i0 : σ.isC c 0 = false := isC_false σ c 0 (.inr (by rw [h.ch]; show (c.toNat : Int) ≠ 3; omega))
  have i1 : σ.isC c 1 = false := isC_false σ c 1 (.inr (by rw [h.ch]; show (c.toNat : Int) ≠ 28; omega))
  have i2 : σ.isC c 2 = false := isC_false σ c 2 (.inr (by rw [h.ch]; show (c.toNat : Int) ≠ 26; omega))
  unfold St.sigs; simp [i0, i1, i2]
theorem typed_cr (x f : Bool) (p : List UInt8) (c : UInt8) : typed x f p (if c.toNat = 13 then 10 else c) = typed x f p c := by
  by_cases h : c.toNat = 13
  · rw [if_pos h]
    unfold typed
    have e : (10 : UInt8).toNat = 10 := rfl
    rw [e, h]
    simp
  · rw [if_neg h]
theorem Ed.good (h : Ed l p false ns σ) (c : UInt8) (hc : c.toNat ≠ 3 ∧ c.toNat ≠ 28 ∧ c.toNat ≠ 26 ∧ c.toNat ≠ 17 ∧ c.toNat ≠ 19) : σ.good c = σ.line (if c.toNat = 13 then 10 else c) :=
  good_line σ c (by rw [h.I_]; decide) (by rw [h.I_]; decide) (by rw [h.I_]; decide) h.quoted (h.flows c hc.2.2.2.1 hc.2.2.2.2) (h.sigs c hc.1 hc.2.1 hc.2.2.1) (by rw [h.I_]; decide) (by rw [h.I_]; decide) (by rw [h.I_]; decide)
theorem Ed.line (h : Ed l p false ns σ) (c : UInt8) (hp : p.length < 255) (hc : c.toNat ≠ 22 ∧ c.toNat ≠ 18 ∧ c.toNat ≠ 13) :
    ∃ i, Same { σ with inq := i, wait := (σ.line c).wait } (σ.line c) ∧
      (if (typed true true p c).2.1 = true then ∃ e : Ent, i = σ.inq ++ [e] ∧ e.fin = true ∧ e.file = (typed true true p c).2.2 ∧ (e.file = false → e.b = c) ∧ (typed true true p c).1 = p else Typing i (typed true true p c).1) := by
  obtain ⟨i, h1, h2, _⟩ := line_typed σ p c true true (by rw [h.L_]; exact h.l2) h.inq hp (by rw [h.ch]; rfl) (by rw [h.ch]; rfl) (by rw [h.ch]; rfl) (by rw [h.L_]; exact h.l512) (by rw [h.ch]; rfl)
    (fun _ => by rw [h.ch]; show (c.toNat : Int) ≠ 22; omega) (fun _ => by rw [h.ch]; show (c.toNat : Int) ≠ 18; omega) (by rw [if_pos rfl, h.ch]; rfl) hc.2.2
  exact ⟨i, h1, h2⟩
/-- A byte that ends no line. -/
theorem Ed.step (h : Ed l p false ns σ) (c : UInt8) (hp : p.length < 255) (hc : c.toNat ≠ 3 ∧ c.toNat ≠ 28 ∧ c.toNat ≠ 26 ∧ c.toNat ≠ 17 ∧ c.toNat ≠ 19) (hd : c.toNat ≠ 22 ∧ c.toNat ≠ 18) (hn : (typed true true p c).2.1 = false) :
    Ed l (typed true true p c).1 false ns (σ.good c).look ∧ Ed l (typed true true p c).1 false ns { (σ.good c).look with out := [] } := by
  rw [h.good c hc]
  have h13 : (if c.toNat = 13 then (10 : UInt8) else c).toNat = if c.toNat = 13 then 10 else c.toNat := line_cr c
  obtain ⟨i, h1, h2⟩ := h.line (if c.toNat = 13 then 10 else c) hp ⟨by rw [h13]; split <;> omega, by rw [h13]; split <;> omega, by rw [h13]; split <;> omega⟩
  rw [typed_cr] at h2
  rw [if_neg (by rw [hn]; decide)] at h2
  generalize σ.line (if c.toNat = 13 then 10 else c) = τ at h1 ⊢
  have e1 : τ.look = τ := h.idle (by obtain ⟨o, k, e⟩ := h1; rw [e]) (by obtain ⟨o, k, e⟩ := h1; rw [e]; exact h.reads) (by obtain ⟨o, k, e⟩ := h1; rw [e]; exact h.held)
  rw [e1]
  refine h.of (i := i) (w := τ.wait) ?_ h2
  have e2 : ({ σ with inq := i, wait := τ.wait, quoted := false, noted := ns } : St) = { σ with inq := i, wait := τ.wait } := by rw [← h.quoted, ← h.noted]
  rw [e2]; exact h1
/-- A byte that ends a line, which is then read whole. -/
theorem Ed.fin (h : Ed l p false ns σ) (c : UInt8) (hp : p.length < 255) (hc : c.toNat ≠ 3 ∧ c.toNat ≠ 28 ∧ c.toNat ≠ 26 ∧ c.toNat ≠ 17 ∧ c.toNat ≠ 19) (hd : c.toNat ≠ 22 ∧ c.toNat ≠ 18) (hn : (typed true true p c).2.1 = true) :
    (σ.good c).look.urg = [] ∧ (σ.good c).look.stopped = false ∧ (({ (σ.good c).look with out := [] } : St).read 256).2 = 0 ∧
    (({ (σ.good c).look with out := [] } : St).read 256).1.take.2 = ((typed true true p c).1 ++ (if (typed true true p c).2.2 then [] else [10]), true, 0) ∧ Ed l [] false ns (({ (σ.good c).look with out := [] } : St).read 256).1.take.1 := by
  rw [h.good c hc]
  have h13 : (if c.toNat = 13 then (10 : UInt8) else c).toNat = if c.toNat = 13 then 10 else c.toNat := line_cr c
  obtain ⟨i, h1, h2⟩ := h.line (if c.toNat = 13 then 10 else c) hp ⟨by rw [h13]; split <;> omega, by rw [h13]; split <;> omega, by rw [h13]; split <;> omega⟩
  rw [typed_cr] at h2
  rw [if_pos hn] at h2
  obtain ⟨e, he1, he2, he3, he4, he5⟩ := h2
  have hb : e.file = false → e.b = 10 := by
    intro hfa
    rw [he4 hfa]
    have hx : c.toNat = 10 ∨ c.toNat = 13 := by
      rw [hfa] at he3
      unfold typed at hn he3
      repeat' split at hn
      all_goals first | cases hn | skip
      · rename_i a1 a2 a3 a4; rw [if_neg a1, if_neg a2, if_neg a3, if_pos a4] at he3; cases he3
      · assumption
    rcases hx with h5 | h5
    · rw [if_neg (by omega)]; exact UInt8.toNat_inj.1 (by simpa using h5)
    · rw [if_pos h5]
  generalize σ.line (if c.toNat = 13 then 10 else c) = τ at h1 ⊢
  obtain ⟨o, k, hτ⟩ := h1
  generalize τ.wait = w at hτ
  have e1 : τ.look = τ := h.idle (by rw [hτ]) (by rw [hτ]; exact h.reads) (by rw [hτ]; exact h.held)
  rw [e1, hτ]
  dsimp only
  have hrl := read_line ({ σ with inq := i, out := [], col := k, wait := w } : St) σ.inq p e (by show σ.L 2 = true; rw [h.L_]; exact h.l2) he1 h.inq he2 (by omega) h.reads h.held (by show σ.I 2048 = false; rw [h.I_]; decide)
  refine ⟨h.urg, h.stopped, by rw [hrl], ?_, ?_⟩
  · rw [hrl, take_ended _ rfl rfl]
    dsimp only
    rw [he5, ← he3]
    cases hfi : e.file with
    | true => rfl
    | false => rw [hb hfi]
  · rw [hrl, take_ended _ rfl rfl]
    exact ⟨h.ss, h.l1, h.l2, h.l512, Typing.nil, h.urg, h.stopped, h.held, h.quoted, h.noted, rfl⟩
/-- A byte that is quoted. -/
theorem Ed.quotedB (h : Ed l p true ns σ) (c : UInt8) (hp : p.length < 255) : Ed l (p ++ [c]) false ns (σ.good c).look ∧ Ed l (p ++ [c]) false ns { (σ.good c).look with out := [] } := by
  have e1 : σ.good c = ({ σ with quoted := false } : St).plain c := by
    have a1 : σ.good c = σ.good2 c := by
      unfold St.good St.small
      have b1 : σ.I 16 = false := by rw [h.I_]; decide
      have b2 : σ.I 8 = false := by rw [h.I_]; decide
      have b3 : σ.I 256 = false := by rw [h.I_]; decide
      simp [b1, b2, b3]
    rw [a1]; unfold St.good2; rw [if_pos h.quoted]
  have hl : σ.inq.length < 255 := by rw [h.inq.len]; exact hp
  obtain ⟨k, hk⟩ := plain_same ({ σ with quoted := false } : St) c hl
  rw [e1]
  generalize ({ σ with quoted := false } : St).plain c = τ at hk ⊢
  have e2 : τ.look = τ := h.idle (by obtain ⟨o, k, e⟩ := hk; rw [e]) (by obtain ⟨o, k, e⟩ := hk; rw [e]; exact h.reads) (by obtain ⟨o, k, e⟩ := hk; rw [e]; exact h.held)
  rw [e2]
  refine h.of (i := σ.inq ++ [⟨c, false, false, k⟩]) (w := 0) ?_ (h.inq.snoc c k)
  have e3 : ({ σ with inq := σ.inq ++ [⟨c, false, false, k⟩], wait := 0, quoted := false, noted := ns } : St) = { σ with quoted := false, inq := σ.inq ++ [⟨c, false, false, k⟩], wait := 0 } := by rw [← h.noted]
  rw [e3]; exact hk
/-- The byte that quotes the next one. -/
theorem Ed.quote (h : Ed l p false ns σ) : Ed l p true ns (σ.good 22).look ∧ Ed l p true ns { (σ.good 22).look with out := [] } := by
  have hg := h.good 22 ⟨by decide, by decide, by decide, by decide, by decide⟩
  rw [if_neg (by decide)] at hg
  have i3 : σ.isC 22 3 = false := isC_false σ 22 3 (.inr (by rw [h.ch]; show (22 : Int) ≠ 127; decide))
  have i5 : σ.isC 22 5 = false := isC_false σ 22 5 (.inr (by rw [h.ch]; show (22 : Int) ≠ 21; decide))
  have i4 : σ.isC 22 4 = false := isC_false σ 22 4 (.inr (by rw [h.ch]; show (22 : Int) ≠ 23; decide))
  have i10 : σ.isC 22 10 = true := (isC_iff σ 22 10).2 ⟨by decide, by rw [h.ch]; rfl⟩
  have hX : σ.L 512 = true := by rw [h.L_]; exact h.l512
  have hE : σ.edits 22 = (σ.quote, true) := by unfold St.edits; simp [i3, i5, i4, i10, hX]
  have hL : σ.line 22 = σ.quote := by
    unfold St.line; rw [hE]
    have : σ.L 2 = true := by rw [h.L_]; exact h.l2
    rw [this]; rfl
  have hS : Same { σ with quoted := true } σ.quote := by
    unfold St.quote
    split
    · exact Same.put _ _
    · exact Same.refl _
  rw [hg, hL]
  generalize σ.quote = τ at hS ⊢
  have e2 : τ.look = τ := h.idle (by obtain ⟨o, k, e⟩ := hS; rw [e]) (by obtain ⟨o, k, e⟩ := hS; rw [e]; exact h.reads) (by obtain ⟨o, k, e⟩ := hS; rw [e]; exact h.held)
  rw [e2]
  refine h.of (i := σ.inq) (w := σ.wait) ?_ h.inq
  have e3 : ({ σ with inq := σ.inq, wait := σ.wait, quoted := true, noted := ns } : St) = { σ with quoted := true } := by rw [← h.noted]
  rw [e3]; exact hS
/-- A byte that raises a signal. -/
theorem Ed.signal (h : Ed l p false ns σ) (c : UInt8) (n : Int) (hc : c.toNat = 3 ∧ n = 1 ∨ c.toNat = 28 ∧ n = 2 ∨ c.toNat = 26 ∧ n = 3) :
    Ed l (if bit l 256 then p else []) false (ns ++ [n]) (σ.good c).look ∧ Ed l (if bit l 256 then p else []) false (ns ++ [n]) { (σ.good c).look with out := [] } := by
  have b1 : σ.I 16 = false := by rw [h.I_]; decide
  have b2 : σ.I 8 = false := by rw [h.I_]; decide
  have b3 : σ.I 256 = false := by rw [h.I_]; decide
  have a1 : σ.good c = σ.good2 c := by unfold St.good St.small; simp [b1, b2, b3]
  have a2 : σ.good2 c = σ.heed c := by unfold St.good2; rw [if_neg (by rw [h.quoted]; decide)]
  have hfl := h.flows c (by omega) (by omega)
  have hL1 : σ.L 1 = true := by rw [h.L_]; exact h.l1
  have hsg : σ.sigs c = ((σ.raise n).echo1 c, true) := by
    rcases hc with ⟨h1, rfl⟩ | ⟨h1, rfl⟩ | ⟨h1, rfl⟩
    · have i0 : σ.isC c 0 = true := (isC_iff σ c 0).2 ⟨by omega, by rw [h.ch]; show (c.toNat : Int) = 3; omega⟩
      unfold St.sigs; simp [hL1, i0]
    · have i0 : σ.isC c 0 = false := isC_false σ c 0 (.inr (by rw [h.ch]; show (c.toNat : Int) ≠ 3; omega))
      have i1 : σ.isC c 1 = true := (isC_iff σ c 1).2 ⟨by omega, by rw [h.ch]; show (c.toNat : Int) = 28; omega⟩
      unfold St.sigs; simp [hL1, i0, i1]
    · have i0 : σ.isC c 0 = false := isC_false σ c 0 (.inr (by rw [h.ch]; show (c.toNat : Int) ≠ 3; omega))
      have i1 : σ.isC c 1 = false := isC_false σ c 1 (.inr (by rw [h.ch]; show (c.toNat : Int) ≠ 28; omega))
      have i2 : σ.isC c 2 = true := (isC_iff σ c 2).2 ⟨by omega, by rw [h.ch]; show (c.toNat : Int) = 26; omega⟩
      unfold St.sigs; simp [hL1, i0, i1, i2]
  have a3 : σ.heed c = (σ.raise n).echo1 c := by unfold St.heed; simp [hfl, hsg]
  rw [a1, a2, a3]
  have hS := Same.echo (σ.raise n) c
  generalize (σ.raise n).echo1 c = τ at hS ⊢
  have hr : σ.raise n = if bit l 256 then { σ with noted := σ.noted ++ [n] } else { σ with noted := σ.noted ++ [n], inq := [], out := [], quoted := false } := by unfold St.raise; rw [h.L_]
  cases hb : bit l 256 with
  | true =>
    rw [hb, if_pos rfl] at hr
    rw [hr] at hS
    have e2 : τ.look = τ := h.idle (by obtain ⟨o, k, e⟩ := hS; rw [e]) (by obtain ⟨o, k, e⟩ := hS; rw [e]; exact h.reads) (by obtain ⟨o, k, e⟩ := hS; rw [e]; exact h.held)
    rw [e2, if_pos rfl]
    refine h.of (i := σ.inq) (w := σ.wait) ?_ h.inq
    have e3 : ({ σ with inq := σ.inq, wait := σ.wait, quoted := false, noted := ns ++ [n] } : St) = { σ with noted := σ.noted ++ [n] } := by rw [← h.noted, ← h.quoted]
    rw [e3]; exact hS
  | false =>
    rw [hb, if_neg (by decide)] at hr
    rw [hr] at hS
    have e2 : τ.look = τ := h.idle (by obtain ⟨o, k, e⟩ := hS; rw [e]) (by obtain ⟨o, k, e⟩ := hS; rw [e]; exact h.reads) (by obtain ⟨o, k, e⟩ := hS; rw [e]; exact h.held)
    rw [e2, if_neg (by decide)]
    refine h.of (i := []) (w := σ.wait) ?_ Typing.nil
    obtain ⟨o, k, e⟩ := hS
    exact ⟨o, k, by rw [e, ← h.noted]⟩
end
end Go.Clk
namespace Go.Clk
open Go

/-- What a read has of bytes that end no line. -/
theorem fetch_plain (n : Nat) : ∀ (l : List Ent) (p d : List UInt8), Typing l p → d.length ≤ n → fetch (n : Int) l d = (l.drop (n - d.length), d ++ p.take (n - d.length))
  | [], p, d, h, _ => by
    have : p = [] := by rw [← h.1]; rfl
    subst this
    simp [fetch]
  | a :: l, p, d, h, hd => by
    cases p with
    | nil => have := h.1; simp at this
    | cons q r =>
      have ha := h.2 a (by simp)
      have hb : a.b = q := by have := h.1; simp at this; exact this.1
      have ht : Typing l r := ⟨by have := h.1; simp at this; exact this.2, fun x hx => h.2 x (by simp [hx])⟩
      unfold fetch
      rw [ha.1, ha.2]
      by_cases he : d.length = n
      · have h0 : n - d.length = 0 := by omega
        rw [if_pos (by simp; omega), h0]
        simp
      · have hne : ¬ ((d.length : Int) = n) := by omega
        simp only [hne, Bool.not_false, decide_false, Bool.and_false, Bool.false_eq_true, if_false]
        rw [fetch_plain n l r (d ++ [a.b]) ht (by simp; omega), hb]
        have e1 : n - d.length = (n - (d ++ [q]).length) + 1 := by simp; omega
        rw [e1, List.drop_succ_cons, List.take_succ_cons]
        simp
theorem Typing.drop {l : List Ent} {p : List UInt8} (h : Typing l p) (n : Nat) : Typing (l.drop n) (p.drop n) :=
  ⟨by rw [List.map_drop, h.1], fun e he => h.2 e (List.mem_of_mem_drop he)⟩

/-- Settings with no flag of the terminal itself. -/
def rawSet (i m t : Int) : List Int := [i, 3, 0, 3, 28, 26, 127, 23, 21, 4, 0, 17, 19, 22, 18, m, t]
structure Raw (i m t : Int) (p : List UInt8) (σ : St) : Prop where
  ss : σ.ss = rawSet i m t
  i16 : bit i 16 = false
  i8 : bit i 8 = false
  i256 : bit i 256 = false
  i512 : bit i 512 = false
  i64 : bit i 64 = false
  i128 : bit i 128 = false
  i32 : bit i 32 = false
  i4096 : bit i 4096 = false
  inq : Typing σ.inq p
  out : σ.out = []
  stopped : σ.stopped = false
  quoted : σ.quoted = false
section
variable {i m t : Int} {p : List UInt8} {σ : St}
theorem Raw.I_ (h : Raw i m t p σ) (k : Int) : σ.I k = bit i k := by unfold St.I St.i; rw [h.ss]; rfl
theorem Raw.L_ (h : Raw i m t p σ) (k : Int) : σ.L k = bit 0 k := by unfold St.L St.l; rw [h.ss]; rfl
theorem Raw.ch (h : Raw i m t p σ) (k : Nat) : σ.ch k = gt (rawSet i m t) (3 + k) := by unfold St.ch; rw [h.ss]
theorem Raw.good (h : Raw i m t p σ) (c : UInt8) : σ.good c = if p.length < 256 then { σ with inq := σ.inq ++ [⟨c, false, false, 0⟩], wait := 0 } else σ := by
  have b1 : σ.I 16 = false := by rw [h.I_]; exact h.i16
  have b2 : σ.I 8 = false := by rw [h.I_]; exact h.i8
  have b3 : σ.I 256 = false := by rw [h.I_]; exact h.i256
  have b4 : σ.I 512 = false := by rw [h.I_]; exact h.i512
  have b5 : σ.I 64 = false := by rw [h.I_]; exact h.i64
  have b6 : σ.I 128 = false := by rw [h.I_]; exact h.i128
  have b7 : σ.I 32 = false := by rw [h.I_]; exact h.i32
  have b8 : σ.I 4096 = false := by rw [h.I_]; exact h.i4096
  have c1 : σ.L 1 = false := by rw [h.L_]; decide
  have c2 : σ.L 2 = false := by rw [h.L_]; decide
  have c4 : σ.L 4 = false := by rw [h.L_]; decide
  have a1 : σ.good c = σ.good2 c := by unfold St.good St.small; simp [b1, b2, b3]
  have a2 : σ.good2 c = σ.heed c := by unfold St.good2; simp [h.quoted]
  have hfl : σ.flows c = (σ, false) := by unfold St.flows; simp [b4]
  have hsg : σ.sigs c = (σ, false) := by unfold St.sigs; simp [c1]
  have a3 : σ.heed c = σ.late c := by unfold St.heed; simp [hfl, hsg]
  have a4 : σ.late c = σ.plain c := by unfold St.late St.line; simp [b5, b6, b7, c2]
  have hm : σ.most false = 256 := by unfold St.most; simp [c2]
  have he : σ.echo1 c = σ := by unfold St.echo1 St.echoes; simp [c4, c2]
  have hcl : σ.cellsOf c = 0 := by unfold St.cellsOf; rw [he]; simp
  rw [a1, a2, a3, a4]
  unfold St.plain St.lays
  dsimp only
  rw [hm, h.inq.len, he, hcl, b8]
  by_cases hp : p.length < 256
  · rw [if_neg (by omega), if_pos hp]; simp
  · rw [if_pos (by omega), if_neg hp]; simp

/-- A new byte is laid down. -/
theorem Raw.more (h : Raw i m t p σ) (c : UInt8) : Raw i m t (p ++ [c]) { σ with inq := σ.inq ++ [⟨c, false, false, 0⟩], wait := 0 } :=
  ⟨h.ss, h.i16, h.i8, h.i256, h.i512, h.i64, h.i128, h.i32, h.i4096, h.inq.snoc c 0, h.out, h.stopped, h.quoted⟩
theorem Raw.turn (h : Raw i m t p σ) {τ : St} (h1 : τ.ss = σ.ss) (h2 : τ.inq = σ.inq) (h3 : τ.out = σ.out) (h4 : τ.stopped = σ.stopped) (h5 : τ.quoted = σ.quoted) : Raw i m t p τ :=
  ⟨by rw [h1, h.ss], h.i16, h.i8, h.i256, h.i512, h.i64, h.i128, h.i32, h.i4096, by rw [h2]; exact h.inq, by rw [h3, h.out], by rw [h4, h.stopped], by rw [h5, h.quoted]⟩

theorem hold_held (τ : St) (hI : τ.I 2048 = true) (hh : τ.held = true) (hl : 64 < τ.inq.length) : τ.hold = τ := by
  unfold St.hold; rw [hI, hh, if_neg (by simp), if_neg (by simp; omega)]
theorem hold_low (τ : St) (hh : τ.held = false) (hl : τ.inq.length < 192) : τ.hold = τ := by
  unfold St.hold; rw [hh, if_neg (by simp; omega), if_neg (by simp)]
theorem hold_stop (τ : St) (hI : τ.I 2048 = true) (hh : τ.held = false) (hl : 192 ≤ τ.inq.length) (hc : τ.ch 9 = 19) : τ.hold = { τ with held := true, urg := τ.urg ++ [19] } := by
  unfold St.hold
  rw [hI, hh, if_pos (by simp; omega)]
  unfold St.urge
  have : ({ τ with held := true } : St).ch 9 = 19 := hc
  rw [this]; rfl
theorem hold_start (τ : St) (hh : τ.held = true) (hl : τ.inq.length ≤ 64) (hc : τ.ch 8 = 17) : τ.hold = { τ with held := false, urg := τ.urg ++ [17] } := by
  unfold St.hold
  rw [hh, if_neg (by simp), if_pos (by simp; omega)]
  unfold St.urge
  have : ({ τ with held := false } : St).ch 8 = 17 := hc
  rw [this]; rfl
/-- The other side is told to stand still and to go on, by turns: u: what is urgent. -/
structure Tu (n : Nat) (b : Bool) (u : List UInt8) (σ : St) : Prop where
  raw : ∃ p : List UInt8, p.length = n ∧ Raw 2048 0 0 p σ
  n256 : n ≤ 256
  held : σ.held = b
  urg : σ.urg = u
  reads : σ.reads = false
  hi : b = true → 64 < n
  lo : b = false → n < 192

theorem Tu.one {n : Nat} {b : Bool} {u : List UInt8} {σ : St} (h : Tu n b u σ) (c : UInt8) :
    Tu (min 256 (n + 1)) (b || decide (192 ≤ min 256 (n + 1))) (u ++ if b then [] else if 192 ≤ min 256 (n + 1) then [19] else []) (σ.good c).look := by
  obtain ⟨p, hp, hr⟩ := h.raw
  have hlook : ∀ τ : St, τ.reads = false → τ.look = τ.hold := fun τ hτ => by unfold St.look; have : τ.ends = τ := by unfold St.ends; simp [hτ]
                                                                             rw [this]
  have hI : ∀ τ : St, τ.ss = σ.ss → τ.I 2048 = true := fun τ hτ => by unfold St.I St.i; rw [hτ, hr.ss]; rfl
  have hch : ∀ τ : St, τ.ss = σ.ss → τ.ch 9 = 19 := fun τ hτ => by unfold St.ch; rw [hτ, hr.ss]; rfl
  have n6 := h.n256
  -- the state behind the byte
  obtain ⟨τ, q, hτ, hq, hrq, hss, hheld, hurg, hreads⟩ : ∃ (τ : St) (q : List UInt8), σ.good c = τ ∧ q.length = min 256 (n + 1) ∧ Raw 2048 0 0 q τ ∧ τ.ss = σ.ss ∧ τ.held = b ∧ τ.urg = u ∧ τ.reads = false := by
    by_cases hlt : p.length < 256
    · refine ⟨_, p ++ [c], hr.good c, by simp; omega, ?_⟩
      rw [if_pos hlt]
      exact ⟨hr.more c, rfl, h.held, h.urg, h.reads⟩
    · refine ⟨_, p, hr.good c, by omega, ?_⟩
      rw [if_neg hlt]
      exact ⟨hr, rfl, h.held, h.urg, h.reads⟩
  have hlen : τ.inq.length = min 256 (n + 1) := by rw [hrq.inq.len, hq]
  rw [hτ, hlook τ hreads]
  generalize hk : min 256 (n + 1) = k at *
  cases b with
  | true =>
    have := h.hi rfl
    rw [hold_held τ (hI τ hss) hheld (by omega)]
    exact ⟨⟨q, hq, hrq⟩, by omega, by simp [hheld], by simp [hurg], hreads, fun _ => by omega, fun hc => by simp at hc⟩
  | false =>
    by_cases h192 : 192 ≤ k
    · rw [hold_stop τ (hI τ hss) hheld (by omega) (hch τ hss)]
      exact ⟨⟨q, hq, hrq.turn rfl rfl rfl rfl rfl⟩, by omega, by simp [h192], by simp [h192, hurg], hreads, fun _ => by omega, fun hc => by simp [h192] at hc⟩
    · rw [hold_low τ hheld (by omega)]
      exact ⟨⟨q, hq, hrq⟩, by omega, by simp [h192, hheld], by simp [h192, hurg], hreads, fun hc => by simp [h192] at hc, fun _ => by omega⟩
/-- A piece comes. -/
theorem Tu.piece (s : List UInt8) : ∀ {n : Nat} {b : Bool} {u : List UInt8} {σ : St}, Tu n b u σ →
    Tu (min 256 (n + s.length)) (b || decide (192 ≤ min 256 (n + s.length))) (u ++ if b then [] else if 192 ≤ min 256 (n + s.length) then [19] else []) (St.comes St.good σ s) := by
  induction s with
  | nil =>
    intro n b u σ h
    have n6 := h.n256
    have e1 : min 256 (n + ([] : List UInt8).length) = n := by simp; omega
    rw [e1]
    cases b with
    | true => simpa [St.comes] using h
    | false =>
      have := h.lo rfl
      have e2 : ¬ 192 ≤ n := by omega
      simpa [St.comes, e2] using h
  | cons c r ih =>
    intro n b u σ h
    have h1 := h.one c
    have h2 := ih h1
    have e1 : min 256 (min 256 (n + 1) + r.length) = min 256 (n + (c :: r).length) := by simp only [List.length_cons]; omega
    rw [e1] at h2
    unfold St.comes
    have hmono : 192 ≤ min 256 (n + 1) → 192 ≤ min 256 (n + (c :: r).length) := by simp only [List.length_cons]; omega
    generalize min 256 (n + (c :: r).length) = k at *
    cases b with
    | true => simpa using h2
    | false =>
      by_cases ha : 192 ≤ min 256 (n + 1)
      · have hb := hmono ha
        simpa [ha, hb] using h2
      · simpa [ha] using h2
/-- What waits to be sent is sent. -/
theorem Tu.sent {n : Nat} {b : Bool} {u : List UInt8} {σ : St} (h : Tu n b u σ) (m : Nat) (hm : u.length ≤ m) : (σ.drain m).2 = u ∧ Tu n b [] (σ.drain m).1 := by
  obtain ⟨p, hp, hr⟩ := h.raw
  have e1 : σ.drain m = ({ σ with urg := [] }, u) := by
    unfold St.drain
    rw [hr.stopped, h.urg, hr.out]
    simp only [List.take_of_length_le hm, List.drop_eq_nil_of_le hm, List.take_nil, List.drop_nil, List.append_nil, Bool.false_eq_true, if_false]
  rw [e1]
  exact ⟨rfl, ⟨p, hp, hr.turn rfl rfl rfl rfl rfl⟩, h.n256, h.held, rfl, h.reads, h.hi, h.lo⟩
/-- A read of k bytes. -/
theorem Tu.fetched {n : Nat} {b : Bool} {u : List UInt8} {σ : St} (h : Tu n b u σ) (k : Nat) (h1 : 1 ≤ k) (h2 : k ≤ 256) :
    (σ.read k).2 = 0 ∧ (∃ d, (σ.read k).1.take.2 = (d, true, 0) ∧ d.length = min k n) ∧ Tu (n - k) (b && decide (64 < n - k)) (u ++ if b && decide (n - k ≤ 64) then [17] else []) (σ.read k).1.take.1 := by
  obtain ⟨p, hp, hr⟩ := h.raw
  have n6 := h.n256
  have hrd : ({ σ with reads := true, ended := false, n := (k : Int), wait := 0 } : St).ready = true := by
    unfold St.ready
    have c2 : ({ σ with reads := true, ended := false, n := (k : Int), wait := 0 } : St).L 2 = false := by show σ.L 2 = false; rw [hr.L_]; decide
    have d1 : ({ σ with reads := true, ended := false, n := (k : Int), wait := 0 } : St).ch 12 = 0 := by show σ.ch 12 = 0; rw [hr.ch]; rfl
    have d2 : ({ σ with reads := true, ended := false, n := (k : Int), wait := 0 } : St).ch 13 = 0 := by show σ.ch 13 = 0; rw [hr.ch]; rfl
    rw [c2, d1, d2]; rfl
  have hfe := fetch_plain k σ.inq p [] hr.inq (by simp)
  simp only [List.length_nil, Nat.sub_zero, List.nil_append] at hfe
  have hends : ({ σ with reads := true, ended := false, n := (k : Int), wait := 0 } : St).ends = { σ with reads := true, ended := true, n := (k : Int), wait := 0, inq := σ.inq.drop k, data := p.take k } := by
    unfold St.ends
    rw [hrd, if_pos (by rfl)]
    show ({ σ with reads := true, ended := true, n := (k : Int), wait := 0, inq := (fetch k σ.inq []).1, data := (fetch k σ.inq []).2 } : St) = _
    rw [hfe]
  have hread : σ.read k = (({ σ with reads := true, ended := true, n := (k : Int), wait := 0, inq := σ.inq.drop k, data := p.take k } : St).hold, 0) := by
    unfold St.read
    rw [if_neg (by omega), if_neg (by rw [h.reads]; decide)]
    unfold St.look
    rw [hends]
  obtain ⟨τ, hread, t1, t2, t3, t4, t5, t6, t7, t8, t9, t10⟩ : ∃ τ : St, σ.read k = (τ.hold, 0) ∧ τ.ss = σ.ss ∧ τ.inq = σ.inq.drop k ∧ τ.out = σ.out ∧ τ.stopped = σ.stopped ∧ τ.quoted = σ.quoted ∧ τ.held = b ∧ τ.urg = u ∧ τ.reads = true ∧ τ.ended = true ∧ τ.data = p.take k :=
    ⟨_, hread, rfl, rfl, rfl, rfl, rfl, h.held, h.urg, rfl, rfl, rfl⟩
  have hraw : ∀ υ : St, υ.ss = σ.ss → υ.inq = σ.inq.drop k → υ.out = σ.out → υ.stopped = σ.stopped → υ.quoted = σ.quoted → ∃ q : List UInt8, q.length = n - k ∧ Raw 2048 0 0 q υ := fun υ a1 a2 a3 a4 a5 =>
    ⟨p.drop k, by rw [List.length_drop]; omega, ⟨by rw [a1, hr.ss], hr.i16, hr.i8, hr.i256, hr.i512, hr.i64, hr.i128, hr.i32, hr.i4096, by rw [a2]; exact hr.inq.drop k, by rw [a3, hr.out], by rw [a4, hr.stopped], by rw [a5, hr.quoted]⟩⟩
  have hlen : τ.inq.length = n - k := by rw [t2, List.length_drop, hr.inq.len]; omega
  have hI : τ.I 2048 = true := by unfold St.I St.i; rw [t1, hr.ss]; rfl
  have hc8 : τ.ch 8 = 17 := by unfold St.ch; rw [t1, hr.ss]; rfl
  have hd : (p.take k).length = min k n := by rw [List.length_take]; omega
  rw [hread]
  cases b with
  | false =>
    have hlo := h.lo rfl
    rw [hold_low τ t6 (by omega)]
    dsimp only
    rw [take_ended τ t8 t9]
    exact ⟨rfl, ⟨p.take k, by rw [t10], hd⟩, hraw _ t1 t2 t3 t4 t5, by omega, by simpa using t6, by simpa using t7, rfl, fun hc => by simp at hc, fun _ => by omega⟩
  | true =>
    by_cases h64 : n - k ≤ 64
    · rw [hold_start τ t6 (by omega) hc8]
      dsimp only
      rw [take_ended ({ τ with held := false, urg := τ.urg ++ [17] } : St) t8 t9]
      have e1 : ¬ 64 < n - k := by omega
      exact ⟨rfl, ⟨p.take k, by show (τ.data, true, (0 : Int)) = _; rw [t10], hd⟩, hraw _ t1 t2 t3 t4 t5, by omega, by simp [e1], by simp [h64, t7], rfl, fun hc => by simp [e1] at hc, fun _ => by omega⟩
    · rw [hold_held τ hI t6 (by omega)]
      dsimp only
      rw [take_ended τ t8 t9]
      have e1 : 64 < n - k := by omega
      exact ⟨rfl, ⟨p.take k, by rw [t10], hd⟩, hraw _ t1 t2 t3 t4 t5, by omega, by simp [e1, t6], by simp [h64, t7], rfl, fun _ => e1, fun hc => by simp [e1] at hc⟩
end
end Go.Clk
namespace Go.Clk
open Go

/-- Must a read of k bytes end, of Min m and Time t, with a entries, behind a wait? -/
def over (m t : Int) (k a : Nat) (w : Int) : Bool :=
  if m = 0 then (if t = 0 then true else decide (0 < a) || decide (t ≤ w)) else decide (min m k ≤ a) || (decide (0 < t) && (decide (0 < a) && decide (t ≤ w)))
/-- A read that has not ended. -/
structure Ti (m t : Int) (k a : Nat) (w : Int) (σ : St) : Prop where
  raw : ∃ p : List UInt8, p.length = a ∧ Raw 0 m t p σ
  held : σ.held = false
  urg : σ.urg = []
  reads : σ.reads = true
  ended : σ.ended = false
  n : σ.n = k
  wait : σ.wait = w
section
variable {m t : Int} {k a : Nat} {w : Int} {σ : St}
theorem Ti.ready (h : Ti m t k a w σ) : σ.ready = over m t k a w := by
  obtain ⟨p, hp, hr⟩ := h.raw
  have c2 : σ.L 2 = false := by rw [hr.L_]; decide
  have d1 : σ.ch 12 = m := by rw [hr.ch]; rfl
  have d2 : σ.ch 13 = t := by rw [hr.ch]; rfl
  have hl : σ.inq.length = a := by rw [hr.inq.len, hp]
  unfold St.ready over
  rw [c2, d1, d2, hl, h.n, h.wait]
  rfl
theorem Ti.not (h : Ti m t k a w σ) (ho : over m t k a w = false) : σ.look = σ ∧ σ.take = (σ, [], false, 0) := by
  obtain ⟨p, hp, hr⟩ := h.raw
  have e1 : σ.ends = σ := by unfold St.ends; rw [h.ready, ho]; simp
  refine ⟨?_, ?_⟩
  · unfold St.look
    rw [e1]
    unfold St.hold
    have : σ.I 2048 = false := by rw [hr.I_]; decide
    rw [this, h.held]; rfl
  · unfold St.take; rw [if_pos h.reads, if_neg (by rw [h.ended]; decide)]
theorem Ti.done (h : Ti m t k a w σ) (ho : over m t k a w = true) : ∃ d, σ.look.take.2 = (d, true, 0) ∧ d.length = min a k := by
  obtain ⟨p, hp, hr⟩ := h.raw
  have hfe := fetch_plain k σ.inq p [] hr.inq (by simp)
  simp only [List.length_nil, Nat.sub_zero, List.nil_append] at hfe
  have e1 : σ.ends = { σ with ended := true, inq := σ.inq.drop k, data := p.take k } := by
    unfold St.ends
    rw [h.ready, ho, h.reads, h.ended, if_pos (by rfl), h.n, hfe]
  have e2 : ({ σ with ended := true, inq := σ.inq.drop k, data := p.take k } : St).hold = { σ with ended := true, inq := σ.inq.drop k, data := p.take k } := by
    unfold St.hold
    have : ({ σ with ended := true, inq := σ.inq.drop k, data := p.take k } : St).I 2048 = false := by show σ.I 2048 = false; rw [hr.I_]; decide
    rw [this]
    simp [h.held]
  refine ⟨p.take k, ?_, by rw [List.length_take]; omega⟩
  unfold St.look
  rw [e1, e2, take_ended ({ σ with ended := true, inq := σ.inq.drop k, data := p.take k } : St) h.reads rfl]
/-- A byte comes. -/
theorem Ti.byte (h : Ti m t k a w σ) (c : UInt8) (ha : a < 256) : Ti m t k (a + 1) 0 (σ.good c) := by
  obtain ⟨p, hp, hr⟩ := h.raw
  rw [hr.good c, if_pos (by omega)]
  exact ⟨⟨p ++ [c], by simp [hp], hr.more c⟩, h.held, h.urg, h.reads, h.ended, h.n, rfl⟩
/-- A tick. -/
theorem Ti.tick (h : Ti m t k a w σ) : Ti m t k a (w + 1) { σ with wait := σ.wait + 1 } := by
  obtain ⟨p, hp, hr⟩ := h.raw
  exact ⟨⟨p, hp, hr.turn rfl rfl rfl rfl rfl⟩, h.held, h.urg, h.reads, h.ended, h.n, by dsimp only; rw [h.wait]⟩
/-- The read begins. -/
theorem Ti.begin {p : List UInt8} (hr : Raw 0 m t p σ) (hp : p.length = a) (hh : σ.held = false) (hu : σ.urg = []) : Ti m t k a 0 { σ with reads := true, ended := false, n := (k : Int), wait := 0 } :=
  ⟨⟨p, hp, hr.turn rfl rfl rfl rfl rfl⟩, hh, hu, rfl, rfl, rfl, rfl⟩
end

/-- What of a terminal is a read's. -/
def rd (σ : St) : Bool × Bool × Int × List UInt8 := (σ.reads, σ.ended, σ.n, σ.data)
theorem Same.rd {σ τ : St} (h : Same σ τ) : rd τ = rd σ := by obtain ⟨o, k, rfl⟩ := h; rfl
theorem rd_put (σ : St) (l : List UInt8) : rd (σ.put l).1 = rd σ := (Same.put σ l).rd
theorem rd_echo (σ : St) (c : UInt8) : rd (σ.echo1 c) = rd σ := (Same.echo σ c).rd
theorem rd_lays (σ : St) (e : Ent) : rd (σ.lays e) = rd σ := by
  unfold St.lays
  repeat' split
  · exact rd_put _ _
  · rfl
  · rfl
  · exact rd_echo σ e.b
theorem rd_plain (σ : St) (c : UInt8) : rd (σ.plain c) = rd σ := rd_lays _ _
theorem rd_raise (σ : St) (n : Int) : rd (σ.raise n) = rd σ := by unfold St.raise; split <;> rfl
theorem rd_rub (s : Bool) (n : Nat) : ∀ σ : St, rd (St.rub s n σ) = rd σ := by
  induction n with
  | zero => intro σ; rfl
  | succ n ih =>
    intro σ
    unfold St.rub
    split
    · rfl
    · rw [ih]
      split
      · exact rd_put _ _
      · rfl
theorem rd_rubs (σ : St) (n : Nat) (c : UInt8) : rd (σ.rubs n c) = rd σ := by
  unfold St.rubs
  split
  · rw [rd_echo, rd_rub]
  · rw [rd_rub]
theorem rd_kills (σ : St) (n : Nat) (c : UInt8) : rd (σ.kills n c) = rd σ := by
  unfold St.kills
  repeat' split
  · rw [rd_put, rd_echo, rd_rub]
  · rw [rd_echo, rd_rub]
  · rw [rd_rub]
theorem rd_rep (σ : St) (k : Nat) : rd (σ.rep k) = rd σ := by
  unfold St.rep
  split
  · rfl
  · rename_i e _; exact rd_echo σ e.b
theorem rd_reps (n : Nat) : ∀ (k : Nat) (σ : St), rd (St.reps n k σ) = rd σ := by
  induction n with
  | zero => intro k σ; rfl
  | succ n ih => intro k σ; unfold St.reps; rw [ih, rd_rep]
theorem rd_edits (σ : St) (c : UInt8) : rd (σ.edits c).1 = rd σ := by
  unfold St.edits
  repeat' split
  · exact rd_rubs _ _ _
  · exact rd_kills _ _ _
  · exact rd_rubs _ _ _
  · show rd σ.quote = _
    unfold St.quote
    split
    · exact rd_put _ _
    · rfl
  · show rd (σ.reprint c) = _
    unfold St.reprint; rw [rd_reps, rd_put, rd_echo]
  · exact rd_lays _ _
  · exact rd_lays _ _
  · rfl
theorem rd_line (σ : St) (c : UInt8) : rd (σ.line c) = rd σ := by
  unfold St.line
  repeat' split
  · exact rd_edits _ _
  · exact rd_plain _ _
  · exact rd_plain _ _
theorem rd_late (σ : St) (c : UInt8) : rd (σ.late c) = rd σ := by
  unfold St.late
  repeat' split
  · rfl
  all_goals exact rd_line _ _
theorem rd_flows (σ : St) (c : UInt8) : rd (σ.flows c).1 = rd σ := by
  unfold St.flows
  repeat' split
  all_goals rfl
theorem rd_sigs (σ : St) (c : UInt8) : rd (σ.sigs c).1 = rd σ := by
  unfold St.sigs
  repeat' split
  all_goals first | rfl | exact (rd_echo _ _).trans (rd_raise _ _)
theorem rd_good (σ : St) (c : UInt8) : rd (σ.good c) = rd σ := by
  have h1 : ∀ c, rd (σ.heed c) = rd σ := fun c => by
    unfold St.heed
    repeat' split
    · exact rd_flows _ _
    · rw [rd_sigs, rd_flows]
    · rw [rd_late, rd_flows]
  have h2 : ∀ c, rd (σ.good2 c) = rd σ := fun c => by
    unfold St.good2
    split
    · exact rd_plain _ _
    · exact h1 c
  unfold St.good
  repeat' split
  · exact h2 _
  · rw [rd_plain, rd_plain]
  · exact h2 _
theorem rd_wrong (σ : St) (c : UInt8) : rd (σ.wrong c) = rd σ := by
  unfold St.wrong
  repeat' split
  · rfl
  · rw [rd_plain, rd_plain, rd_plain]
  · exact rd_plain _ _
theorem rd_broken (σ : St) : rd σ.broken = rd σ := by
  unfold St.broken
  repeat' split
  · rfl
  · exact rd_raise _ _
  · rw [rd_plain, rd_plain, rd_plain]
  · exact rd_plain _ _
theorem rd_hold (σ : St) : rd σ.hold = rd σ := by
  unfold St.hold St.urge
  repeat' split
  all_goals rfl
/-- A read of n bytes that has ended has no more. -/
def Fits (n : Int) (σ : St) : Prop := σ.n = n ∧ (σ.reads = true → σ.ended = true → (σ.data.length : Int) ≤ n)
theorem Fits.of {n : Int} {σ τ : St} (h : Fits n σ) (e : rd τ = rd σ) : Fits n τ := by
  simp only [rd, Prod.mk.injEq] at e
  obtain ⟨e1, e2, e3, e4⟩ := e
  unfold Fits
  rw [e1, e2, e3, e4]; exact h
theorem Fits.look {n : Int} {σ : St} (h : Fits n σ) (h0 : 0 ≤ n) : Fits n σ.look := by
  unfold St.look
  refine Fits.of ?_ (rd_hold _)
  unfold St.ends
  split
  · refine ⟨h.1, fun _ _ => ?_⟩
    have := (fetch_inv σ.n (by rw [h.1]; exact h0) σ.inq [] (by rw [h.1]; simpa using h0)).2.2
    rw [h.1] at this ⊢; exact this
  · exact h
theorem Fits.comes {n : Int} (h0 : 0 ≤ n) {f : St → UInt8 → St} (hf : ∀ σ c, rd (f σ c) = rd σ) (l : List UInt8) : ∀ {σ : St}, Fits n σ → Fits n (St.comes f σ l) := by
  induction l with
  | nil => intro σ h; exact h
  | cons c r ih => intro σ h; exact ih ((h.of (hf σ c)).look h0)
theorem Fits.receive {n : Int} {σ : St} (h : Fits n σ) (h0 : 0 ≤ n) (k : Int) (l : List UInt8) : Fits n (σ.receive k l).1 := by
  unfold St.receive
  repeat' split
  · exact h
  · exact (h.of (rd_broken σ)).look h0
  · exact Fits.comes h0 rd_wrong l h
  · exact Fits.comes h0 rd_good l h
theorem Fits.write {n : Int} {σ : St} (h : Fits n σ) (l : List UInt8) : Fits n (σ.write l).1 := by
  obtain ⟨o, k, e⟩ := write_frame l σ
  rw [e]; exact h
theorem Fits.drain {n : Int} {σ : St} (h : Fits n σ) (m : Nat) : Fits n (σ.drain m).1 := by
  unfold St.drain
  dsimp only
  split <;> exact h
theorem Fits.set {n : Int} {σ : St} (h : Fits n σ) (h0 : 0 ≤ n) (s : List Int) (k : Int) : Fits n (σ.set s k).1 := by
  unfold St.set
  repeat' split
  · exact h
  · exact h
  all_goals exact Fits.look h h0
theorem Fits.tick {n : Int} {σ : St} (h : Fits n σ) (h0 : 0 ≤ n) : Fits n σ.tick := Fits.look (σ := { σ with wait := σ.wait + 1 }) h h0
theorem Fits.flush {n : Int} {σ : St} (h : Fits n σ) (h0 : 0 ≤ n) (k : Int) : Fits n (σ.flush k).1 := by
  unfold St.flush
  split
  · exact h
  · exact Fits.look h h0
theorem Fits.flow {n : Int} {σ : St} (h : Fits n σ) (k : Int) : Fits n (σ.flow k).1 := by
  unfold St.flow St.urge
  repeat' split
  all_goals exact h
theorem Fits.take {n : Int} {σ : St} (h : Fits n σ) (h0 : 0 ≤ n) : Fits n σ.take.1 ∧ (σ.take.2.1.length : Int) ≤ n ∧ (σ.take.2.2.1 = false → σ.take.2.1 = []) := by
  unfold St.take
  cases hr : σ.reads with
  | false => exact ⟨by simpa using h, by simpa using h0, fun _ => rfl⟩
  | true =>
    cases he : σ.ended with
    | false => exact ⟨by simpa using h, by simpa using h0, fun _ => rfl⟩
    | true => exact ⟨⟨h.1, fun hc => by cases hc⟩, h.2 hr he, fun hc => by cases hc⟩
theorem Fits.read {n : Int} {σ : St} (h : Fits n σ) (m : Int) : Fits (if (σ.read m).2 = 0 then m else n) (σ.read m).1 := by
  unfold St.read
  by_cases h1 : m < 1 ∨ 256 < m
  · rw [if_pos h1]; exact h
  · rw [if_neg h1]
    by_cases h2 : σ.reads = true
    · rw [if_pos h2]; exact h
    · rw [if_neg h2, if_pos rfl]
      exact Fits.look (σ := { σ with reads := true, ended := false, n := m, wait := 0 }) ⟨rfl, fun _ hc => by cases hc⟩ (by omega)
end Go.Clk
namespace Go.Clk
open Go

/-- What bytes become, one after the other, from a column on; the column behind them. -/
theorem write_room (l : List UInt8) : ∀ σ : St, 0 ≤ σ.col → σ.out.length + (renderL σ.o σ.col l).1.length ≤ 256 → σ.write l = ({ σ with out := σ.out ++ (renderL σ.o σ.col l).1, col := (renderL σ.o σ.col l).2 }, l.length) := by
  induction l with
  | nil => intro σ _ _; simp [St.write, renderL]
  | cons c r ih =>
    intro σ h0 h
    rw [renderL_cons] at h ⊢
    dsimp only at h ⊢
    rw [List.length_append] at h
    have hp : (σ.put [c]).1 = { σ with out := σ.out ++ become σ.o σ.col c, col := moves σ.o σ.col (become σ.o σ.col c) } := put_room σ [c] _ _ (renderL_one _ _ _) (by omega)
    have hp2 : (σ.put [c]).2 = true := by
      rcases put_cases σ [c] with e | e
      · exfalso
        have h3 := e.2
        unfold St.put at h3
        rw [putAll_render, renderL_one] at h3
        dsimp only at h3
        rw [if_neg (by rw [List.length_append]; omega)] at h3
        cases h3
      · exact e.2.1
    have hc := (moves_nonneg σ.o (become σ.o σ.col c) h0).1
    unfold St.write
    rw [if_pos hp2, hp]
    have := ih { σ with out := σ.out ++ become σ.o σ.col c, col := moves σ.o σ.col (become σ.o σ.col c) } hc (by show (σ.out ++ _).length + (renderL σ.o (moves σ.o σ.col (become σ.o σ.col c)) r).1.length ≤ 256; rw [List.length_append]; omega)
    rw [this]
    simp only [List.length_cons, List.append_assoc]
    rfl
/-- With the settings of a new terminal a byte becomes one or two. -/
theorem become_new (col : Int) (c : UInt8) : (become 3 col c).length ≤ 2 := by
  unfold become
  have h1 : bit 3 1 = true := by decide
  have h32 : bit 3 32 = false := by decide
  have h8 : bit 3 8 = false := by decide
  have h4 : bit 3 4 = false := by decide
  have h64 : bit 3 64 = false := by decide
  simp only [h1, h32, h8, h4, h64]
  repeat' split
  all_goals simp_all
theorem render_new (l : List UInt8) : ∀ col : Int, (renderL 3 col l).1.length ≤ 2 * l.length := by
  induction l with
  | nil => intro col; simp [renderL]
  | cons c r ih =>
    intro col
    rw [renderL_cons]
    dsimp only
    have := become_new col c
    have := ih (moves 3 col (become 3 col c))
    rw [List.length_append, List.length_cons]; omega
/-- A new terminal on which texts are written: o waits, s: it is stopped. -/
structure Pa (o : List UInt8) (c : Int) (s : Bool) (σ : St) : Prop where
  ss : σ.ss = firstS
  inq : σ.inq = []
  out : σ.out = o
  urg : σ.urg = []
  col : σ.col = c
  c0 : 0 ≤ c
  stopped : σ.stopped = s
  held : σ.held = false
  quoted : σ.quoted = false
  reads : σ.reads = false
section
variable {o : List UInt8} {c : Int} {s : Bool} {σ : St}
theorem Pa.new : Pa [] 0 false newS := ⟨rfl, rfl, rfl, rfl, rfl, by decide, rfl, rfl, rfl, rfl⟩
theorem Pa.write (h : Pa o c s σ) (l : List UInt8) (hl : o.length + 2 * l.length ≤ 256) : (σ.write l).2 = l.length ∧ Pa (o ++ (renderL 3 c l).1) (renderL 3 c l).2 s (σ.write l).1 := by
  have ho : σ.o = 3 := by unfold St.o; rw [h.ss]; rfl
  have := render_new l c
  have e := write_room l σ (by rw [h.col]; exact h.c0) (by rw [ho, h.col, h.out]; omega)
  rw [e, ho, h.col, h.out]
  exact ⟨rfl, h.ss, h.inq, rfl, h.urg, rfl, (renderL_col 3 h.c0 l).1, h.stopped, h.held, h.quoted, h.reads⟩
theorem Pa.drain (h : Pa o c false σ) (n : Nat) (hn : o.length ≤ n) : (σ.drain n).2 = o ∧ Pa [] c false (σ.drain n).1 := by
  rw [drain_all σ n h.urg h.stopped (by rw [h.out]; exact hn)]
  exact ⟨h.out, h.ss, h.inq, rfl, h.urg, h.col, h.c0, h.stopped, h.held, h.quoted, h.reads⟩
theorem Pa.drainS (h : Pa o c true σ) (n : Nat) : (σ.drain n).2 = [] ∧ Pa o c true (σ.drain n).1 := by
  have e : σ.drain n = (σ, []) := by
    unfold St.drain
    rw [h.urg, h.stopped]
    simp only [List.take_nil, List.drop_nil, if_true]
    rw [← h.urg, ← h.stopped]
  rw [e]; exact ⟨rfl, h⟩
theorem Pa.flow (h : Pa o c s σ) : (σ.flow 1).2 = 0 ∧ Pa o c true (σ.flow 1).1 ∧ (σ.flow 2).2 = 0 ∧ Pa o c false (σ.flow 2).1 :=
  ⟨rfl, ⟨h.ss, h.inq, h.out, h.urg, h.col, h.c0, rfl, h.held, h.quoted, h.reads⟩, rfl, ⟨h.ss, h.inq, h.out, h.urg, h.col, h.c0, rfl, h.held, h.quoted, h.reads⟩⟩
theorem Pa.char (h : Pa o c s σ) (d : UInt8) (b : Bool) (hd : d = 19 ∧ b = true ∨ d = 17 ∧ b = false) : Pa o c b (σ.good d).look := by
  have hi : σ.i = 640 := by unfold St.i; rw [h.ss]; rfl
  have hch : ∀ k, σ.ch k = gt firstS (3 + k) := fun k => by unfold St.ch; rw [h.ss]
  have hI : ∀ k, σ.I k = bit 640 k := fun k => by unfold St.I; rw [hi]
  have b1 : σ.I 16 = false := by rw [hI]; decide
  have b2 : σ.I 8 = false := by rw [hI]; decide
  have b3 : σ.I 256 = false := by rw [hI]; decide
  have b4 : σ.I 512 = true := by rw [hI]; decide
  have a1 : σ.good d = σ.good2 d := by unfold St.good St.small; simp [b1, b2, b3]
  have a2 : σ.good2 d = σ.heed d := by unfold St.good2; simp [h.quoted]
  have hfl : σ.flows d = ({ σ with stopped := b }, true) := by
    rcases hd with ⟨rfl, rfl⟩ | ⟨rfl, rfl⟩
    · have i8 : σ.isC 19 8 = false := isC_false σ 19 8 (.inr (by rw [hch]; show (19 : Int) ≠ 17; decide))
      have i9 : σ.isC 19 9 = true := (isC_iff σ 19 9).2 ⟨by decide, by rw [hch]; rfl⟩
      unfold St.flows; simp [b4, i8, i9]
    · have i8 : σ.isC 17 8 = true := (isC_iff σ 17 8).2 ⟨by decide, by rw [hch]; rfl⟩
      unfold St.flows; simp [b4, i8]
  have a3 : σ.heed d = { σ with stopped := b } := by unfold St.heed; simp [hfl]
  have a4 : ({ σ with stopped := b } : St).look = { σ with stopped := b } := look_idle _ h.reads h.held (by show σ.I 2048 = false; rw [hI]; decide)
  rw [a1, a2, a3, a4]
  exact ⟨h.ss, h.inq, h.out, h.urg, h.col, h.c0, rfl, h.held, h.quoted, h.reads⟩
end
end Go.Clk
namespace Go.Clk
open Go
theorem ends_frame (σ : St) : ∃ i d e, σ.ends = { σ with inq := i, data := d, ended := e } := by
  unfold St.ends
  split
  · exact ⟨_, _, _, rfl⟩
  · exact ⟨σ.inq, σ.data, σ.ended, rfl⟩
theorem urge_frame (σ : St) (k : Nat) : ∃ u, σ.urge k = { σ with urg := u } := by
  unfold St.urge
  split
  · exact ⟨σ.urg, rfl⟩
  · exact ⟨_, rfl⟩
theorem hold_frame (σ : St) : ∃ h u, σ.hold = { σ with held := h, urg := u } := by
  unfold St.hold
  split
  · obtain ⟨u, e⟩ := urge_frame ({ σ with held := true } : St) 9
    exact ⟨true, u, by rw [e]⟩
  · split
    · obtain ⟨u, e⟩ := urge_frame ({ σ with held := false } : St) 8
      exact ⟨false, u, by rw [e]⟩
    · exact ⟨σ.held, σ.urg, rfl⟩
theorem look_frame (σ : St) : ∃ i d e h u, σ.look = { σ with inq := i, data := d, ended := e, held := h, urg := u } := by
  obtain ⟨i, d, e, h1⟩ := ends_frame σ
  obtain ⟨h, u, h2⟩ := hold_frame σ.ends
  refine ⟨i, d, e, h, u, ?_⟩
  show σ.ends.hold = _
  rw [h2, h1]
theorem drain_frame (σ : St) (m : Nat) : ∃ u o, (σ.drain m).1 = { σ with urg := u, out := o } := by
  unfold St.drain
  dsimp only
  split
  · exact ⟨_, σ.out, rfl⟩
  · exact ⟨_, _, rfl⟩
theorem take_frame (σ : St) : ∃ r e, σ.take.1 = { σ with reads := r, ended := e } := by
  unfold St.take
  repeat' split
  all_goals first | exact ⟨σ.reads, σ.ended, rfl⟩ | exact ⟨_, σ.ended, rfl⟩ | exact ⟨_, _, rfl⟩
/-- Whatever bounds it: by the numbers that stand. -/
theorem InvC.tight {C K : Int} {σ : St} (h : InvC C K σ) (D M : Int) (hc : σ.col ≤ D + 8 * σ.out.length) (hu : (σ.urg.length : Int) ≤ M) (hn : (σ.noted.length : Int) ≤ M) (hw : σ.wait ≤ M) : InvC D M σ :=
  ⟨h.s, h.c0, hc, h.out, h.inq, h.cells, hu, hn, h.data, h.n0, h.n1, h.w0, hw⟩
/-- Nothing was put out, noted or waited for. -/
structure Tq (σ : St) : Prop where
  col : σ.col = 0
  noted : σ.noted = []
  wait : σ.wait = 0
theorem Tq.look {σ : St} (h : Tq σ) : Tq σ.look := by
  obtain ⟨i, d, e, b, u, q⟩ := look_frame σ
  rw [q]; exact ⟨h.col, h.noted, h.wait⟩
theorem Tq.drain {σ : St} (h : Tq σ) (m : Nat) : Tq (σ.drain m).1 := by
  obtain ⟨u, o, q⟩ := drain_frame σ m
  rw [q]; exact ⟨h.col, h.noted, h.wait⟩
theorem Tq.read {σ : St} (h : Tq σ) (n : Int) : Tq (σ.read n).1 := by
  unfold St.read
  repeat' split
  · exact h
  · exact h
  · exact Tq.look ⟨h.col, h.noted, rfl⟩
theorem Tq.take {σ : St} (h : Tq σ) : Tq σ.take.1 := by
  obtain ⟨r, e, q⟩ := take_frame σ
  rw [q]; exact ⟨h.col, h.noted, h.wait⟩
theorem Tq.inv {C K : Int} {σ : St} (h : Tq σ) (ok : InvC C K σ) (hu : σ.urg.length ≤ 2) : Inv 2 σ :=
  ok.tight _ _ (by rw [h.col]; omega) (by omega) (by rw [h.noted]; simp) (by rw [h.wait]; omega)
theorem Tu.quiet_one {n : Nat} {b : Bool} {u : List UInt8} {σ : St} (h : Tu n b u σ) (q : Tq σ) (c : UInt8) : Tq (σ.good c).look := by
  obtain ⟨p, hp, hr⟩ := h.raw
  rw [hr.good c]
  split
  · exact Tq.look ⟨q.col, q.noted, rfl⟩
  · exact q.look
theorem Tu.quiet (s : List UInt8) : ∀ {n : Nat} {b : Bool} {u : List UInt8} {σ : St}, Tu n b u σ → Tq σ → Tq (St.comes St.good σ s) := by
  induction s with
  | nil => intro n b u σ _ h; exact h
  | cons c r ih => intro n b u σ h q; exact ih (h.one c) (h.quiet_one q c)
/-- A piece comes: what stands behind each of its bytes. -/
theorem Tu.inv_piece {n : Nat} {b : Bool} {σ : St} (h : Tu n b [] σ) (q : Tq σ) {K : Int} (ok : Inv K σ) (s : List UInt8) : Inv 2 (σ.receive 0 s).1 := by
  have e0 : σ.receive 0 s = (St.comes St.good σ s, 0) := rfl
  have h1 := ok.receive 0 s
  rw [e0] at h1 ⊢
  refine (h.quiet s q).inv h1 ?_
  rw [(h.piece s).urg]
  split
  · simp
  · split <;> simp
theorem Tu.inq {n : Nat} {b : Bool} {u : List UInt8} {σ : St} (h : Tu n b u σ) : σ.inq.length = n := by
  obtain ⟨p, hp, hr⟩ := h.raw
  rw [hr.inq.len, hp]
theorem Tu.begin : Tu 0 false [] (newS.change (rawSet 2048 0 0)).look ∧ Tq (newS.change (rawSet 2048 0 0)).look := by
  have e1 : (newS.change (rawSet 2048 0 0)).look = { newS with ss := rawSet 2048 0 0, inq := [], quoted := false } := by kernel_rfl
  rw [e1]
  exact ⟨⟨⟨[], rfl, ⟨rfl, by decide, by decide, by decide, by decide, by decide, by decide, by decide, by decide, Typing.nil, rfl, rfl, rfl⟩⟩, by omega, rfl, rfl, rfl, (fun h => by cases h), (fun _ => by omega)⟩, ⟨rfl, rfl, rfl⟩⟩
end Go.Clk
namespace Go.Clk
open Go
theorem typed_len (x f : Bool) (p : List UInt8) (c : UInt8) : (typed x f p c).1.length ≤ p.length + 1 := by
  unfold typed
  repeat' split
  all_goals simp
  all_goals omega
theorem typed_file (x f : Bool) (p : List UInt8) (c : UInt8) (h : (typed x f p c).2.1 = false) : (typed x f p c).2.2 = false := by
  unfold typed at h ⊢
  repeat' split
  all_goals first | rfl | skip
  rename_i a1 a2 a3 a4
  rw [if_neg a1, if_neg a2, if_neg a3, if_pos a4] at h; cases h
theorem InvC.drained {C K : Int} {σ : St} (h : InvC C K σ) (m : Nat) : InvC (C + 2048) K (σ.drain m).1 := by
  have h1 := h.drain m
  have hu : ((σ.drain m).1.urg.length : Int) ≤ σ.urg.length := by
    unfold St.drain; dsimp only
    split <;> (dsimp only; simp only [List.length_drop]; omega)
  obtain ⟨u, o, e⟩ := drain_frame σ m
  have q1 := h.urg; have q2 := h.noted; have q3 := h.w1
  refine h1.tight _ _ h1.c1 (by omega) ?_ ?_
  · rw [e]; exact q2
  · rw [e]; exact q3
theorem read_wait (σ : St) (n : Int) : (σ.read n).1.wait = σ.wait ∨ (σ.read n).1.wait = 0 := by
  unfold St.read
  repeat' split
  · exact .inl rfl
  · exact .inl rfl
  · obtain ⟨i, d, e, h, u, q⟩ := look_frame ({ σ with reads := true, ended := false, n := n, wait := 0 } : St)
    right
    show (St.look _).wait = 0
    rw [q]
theorem take_wait (σ : St) : σ.take.1.wait = σ.wait := by
  obtain ⟨r, e, q⟩ := take_frame σ
  rw [q]
section
variable {l : Int} {p : List UInt8} {q : Bool} {ns : List Int} {σ : St}
theorem Ed.begin (l : Int) (h0 : 0 ≤ l) (h1 : l < 1024) (b1 : bit l 1 = true) (b2 : bit l 2 = true) (b512 : bit l 512 = true) : Ed l [] false [] (newS.change (edSet l)).look ∧ InvC 0 2 (newS.change (edSet l)).look := by
  have hn : normS (edSet l) = edSet l := by
    unfold normS edSet
    simp only [List.range, List.range.loop, List.map, gt, lim]
    simp
    omega
  have e1 : newS.change (edSet l) = { newS with ss := edSet l, inq := [], quoted := false } := by
    unfold St.change
    rw [hn]
    have h5 : (if newS.L 2 = bit (gt (edSet l) 2 % 1024) 2 then newS.inq else St.forget newS.inq) = [] := by split <;> rfl
    have h6 : (bit (gt (edSet l) 2 % 1024) 2 && newS.quoted) = false := by simp [newS]
    rw [h5, h6]
  have e2 : ({ newS with ss := edSet l, inq := [], quoted := false } : St).look = { newS with ss := edSet l, inq := [], quoted := false } :=
    look_idle _ rfl rfl (by show bit 640 2048 = false; decide)
  have hI : InvC 0 0 (newS.change (edSet l)) := InvC.new.change _
  rw [e1] at hI ⊢
  rw [e2]
  exact ⟨⟨rfl, b1, b2, b512, Typing.nil, rfl, rfl, rfl, rfl, rfl, rfl⟩, hI.mono (by omega) (by omega)⟩
/-- A byte that means no signal, no flow and no quote. -/
theorem Ed.inv_good (h : Ed l p false ns σ) (c : UInt8) (hp : p.length < 255) (hc : c.toNat ≠ 3 ∧ c.toNat ≠ 28 ∧ c.toNat ≠ 26 ∧ c.toNat ≠ 17 ∧ c.toNat ≠ 19) (hd : c.toNat ≠ 22 ∧ c.toNat ≠ 18) {C K : Int} (ok : InvC C K σ) : InvC C K (σ.good c).look := by
  rw [h.good c hc]
  have h13 : (if c.toNat = 13 then (10 : UInt8) else c).toNat = if c.toNat = 13 then 10 else c.toNat := line_cr c
  obtain ⟨i, h1, _⟩ := h.line (if c.toNat = 13 then 10 else c) hp ⟨by rw [h13]; split <;> omega, by rw [h13]; split <;> omega, by rw [h13]; split <;> omega⟩
  have hl := ok.line (if c.toNat = 13 then 10 else c)
  generalize σ.line (if c.toNat = 13 then 10 else c) = τ at h1 hl ⊢
  have e1 : τ.look = τ := h.idle (by obtain ⟨o, k, e⟩ := h1; rw [e]) (by obtain ⟨o, k, e⟩ := h1; rw [e]; exact h.reads) (by obtain ⟨o, k, e⟩ := h1; rw [e]; exact h.held)
  rw [e1]; exact hl
theorem Ed.drained (h : Ed l p q ns σ) {C K : Int} (ok : InvC C K σ) : (σ.drain 1099511627776).1 = { σ with out := [] } := by
  rw [drain_all σ _ h.urg h.stopped (by have := ok.out; omega)]
/-- A byte that ends no line, and all that is to be sent is sent. -/
theorem Ed.typed_on (h : Ed l p false [] σ) (c : UInt8) (hp : p.length < 255) (hc : c.toNat ≠ 3 ∧ c.toNat ≠ 28 ∧ c.toNat ≠ 26 ∧ c.toNat ≠ 17 ∧ c.toNat ≠ 19) (hd : c.toNat ≠ 22 ∧ c.toNat ≠ 18) (hn : (typed true true p c).2.1 = false) {C : Int} (ok : InvC C 2 σ) :
    Ed l (typed true true p c).1 false [] ((σ.good c).look.drain 1099511627776).1 ∧ InvC (C + 2048) 2 ((σ.good c).look.drain 1099511627776).1 := by
  have h1 := h.step c hp hc hd hn
  have h2 := h.inv_good c hp hc hd ok
  refine ⟨?_, h2.drained _⟩
  rw [h1.1.drained h2]; exact h1.2
/-- A byte that ends a line; it is read. -/
theorem Ed.typed_end (h : Ed l p false [] σ) (c : UInt8) (hp : p.length < 255) (hc : c.toNat ≠ 3 ∧ c.toNat ≠ 28 ∧ c.toNat ≠ 26 ∧ c.toNat ≠ 17 ∧ c.toNat ≠ 19) (hd : c.toNat ≠ 22 ∧ c.toNat ≠ 18) (hn : (typed true true p c).2.1 = true) {C : Int} (ok : InvC C 2 σ) :
    InvC (C + 2048) 2 ((σ.good c).look.drain 1099511627776).1 ∧ (((σ.good c).look.drain 1099511627776).1.read 256).2 = 0 ∧
    (((σ.good c).look.drain 1099511627776).1.read 256).1.take.2 = ((typed true true p c).1 ++ (if (typed true true p c).2.2 then [] else [10]), true, 0) ∧
    Ed l [] false [] (((σ.good c).look.drain 1099511627776).1.read 256).1.take.1 ∧ InvC (C + 2049) 2 (((σ.good c).look.drain 1099511627776).1.read 256).1.take.1 := by
  have h1 := h.fin c hp hc hd hn
  have h2 := h.inv_good c hp hc hd ok
  have e1 : ((σ.good c).look.drain 1099511627776).1 = { (σ.good c).look with out := [] } := by
    rw [drain_all _ _ h1.1 h1.2.1 (by have := h2.out; omega)]
  have h3 := h2.drained 1099511627776
  have h4 := (h3.read 256).take
  have hw : (((σ.good c).look.drain 1099511627776).1.read 256).1.take.1.wait ≤ 2 := by
    rw [take_wait]
    have := h3.w1
    rcases read_wait ((σ.good c).look.drain 1099511627776).1 256 with e | e <;> omega
  rw [e1] at h3 h4 hw ⊢
  refine ⟨h3, h1.2.2.1, h1.2.2.2.1, h1.2.2.2.2, ?_⟩
  have h5 := h1.2.2.2.2
  have e3 : C + 2048 + 1 = C + 2049 := by omega
  rw [e3] at h4
  exact h4.tight _ _ h4.c1 (by rw [h5.urg]; simp) (by rw [h5.noted]; simp) hw
end
end Go.Clk
