/- Own laws: structs loaded and stored whole. Of no program. -/
import Derived.Test.YtnalckkllogdaaaMem2
namespace Go.Clk
open Go Go.RowKit

theorem wpList_load_part {P : Program} {w : World} {ops : Array Oper} {rest : List Oper} {op : Oper} {act : Act} {Q : Exit → Act → World → Prop} (hgd : op.guard = none) (x : Operand) (ty : TypeId)
    (hop : op.op = .load ty x) (g off : Nat) (hx : act.eval x = .pointer (some ⟨g, off, none⟩)) (cs : List Value) (d : TypeDesc) (hc : ∀ j v, cs[j]? = some v → w.cell? ⟨g, off + j, none⟩ = some v)
    (hu : P.underlying ty = some d) (hd : (match d with | .struct _ | .array _ _ => true | _ => false) = true) (hi : (P.info? ty).map (·.size) = some cs.length)
    (h : wpList P ops Q rest (act.put op.dst (.agg cs.toArray)) w) : wpList P ops Q (op :: rest) act w := by
  refine wpList_plain hgd fun K hK' => ?_
  have hl : (loadCells ⟨g, off, none⟩ cs.length).run P w = .ok cs.toArray w :=
    run_loadCells_list (P := P) w ⟨g, off, none⟩ cs (fun j v hv => by rw [Addr.add_lit]; exact hc j v hv)
  have hr : (loadVar ty ⟨g, off, none⟩).run P w = .ok (.agg cs.toArray) w := by
    cases hq : P.info? ty with
    | none => simp [hq] at hi
    | some i =>
      have hs : i.size = cs.length := by simpa [hq] using hi
      have hagg : (isAgg ty).run P w = .ok true w := by
        unfold isAgg
        rw [Sem.run_bind, run_underlying hu w]
        cases d <;> simp_all
      simp [loadVar, Sem.run_bind, hagg, sizeOf, typeInfo, hq, hs, hl]
  unfold Oper.wp execOp
  simp only [hop, hx, Instr.loadAt, Instr.sureAddr, Sem.run_bind, Sem.run_pure, Result.andThen_ok, hr]
  exact hK' _ _ h

theorem run_store_part {P : Program} (w : World) (t : TypeId) (B off : Nat) (e : TypeId) (old cs : List Value) (hb : Blk w B e old) (hl : off + cs.length ≤ old.length) (hi : (P.info? t).map (·.size) = some cs.length) (h1 : ∀ u ∈ cs, u.oneCell' = true) :
    (storeVar t ⟨B, off, none⟩ (.agg cs.toArray)).run P w = .ok () (w.setCells B off cs) := by
  cases hq : P.info? t with
  | none => simp [hq] at hi
  | some i =>
    have hs : i.size = cs.length := by simpa [hq] using hi
    have hst := run_storeCells_cells (P := P) B off cs 0 w (fun j hj => by rw [Nat.add_zero, hb.cell (off + j) (List.getElem?_eq_getElem (show off + j < old.length by omega))]; rfl) (fun j hj => hb.frozen _) h1
    simp only [Nat.add_zero] at hst
    simp [storeVar, Sem.run_bind, sizeOf, typeInfo, hq, hs, Value.cells, hst]
theorem setCells_blk (w : World) (B : Nat) (e : TypeId) (old cs : List Value) (off : Nat) (hb : Blk w B e old) (hl : off + cs.length ≤ old.length) : Blk (w.setCells B off cs) B e (old.take off ++ cs ++ old.drop (off + cs.length)) := by
  obtain ⟨cur', h1, h2⟩ := heap_setCells_same B e cs off w old.toArray hb (by simpa using hl)
  unfold Blk
  rw [h1]
  have : cur' = (old.take off ++ cs ++ old.drop (off + cs.length)).toArray := by apply Array.ext'; simpa using h2
  rw [this]
/-- A struct is stored over a whole block. -/
theorem wpList_store_whole {P : Program} {w : World} {ops : Array Oper} {rest : List Oper} {op : Oper} {act : Act} {Q : Exit → Act → World → Prop} (hgd : op.guard = none) (p x : Operand) (t : TypeId)
    (hop : op.op = .store t p x) (B : Nat) (hp : act.eval p = .pointer (some ⟨B, 0, none⟩)) (cs : List Value) (hx : act.eval x = .agg cs.toArray) (e : TypeId) (old : List Value) (hb : Blk w B e old) (hl : cs.length = old.length) (hi : (P.info? t).map (·.size) = some cs.length) (h1 : ∀ u ∈ cs, u.oneCell' = true)
    (h : ∀ W, Blk W B e cs → w.grownBy W (some B) → W.heap.size = w.heap.size → wpList P ops Q rest (act.put op.dst undef) W) : wpList P ops Q (op :: rest) act w := by
  refine wpList_plain hgd fun K hK' => ?_
  have hr := run_store_part (P := P) w t B 0 e old cs hb (by omega) hi h1
  have hB : Blk (w.setCells B 0 cs) B e cs := by
    have := setCells_blk w B e old cs 0 hb (by omega)
    simpa [List.drop_eq_nil_of_le (show old.length ≤ 0 + cs.length by omega), hl] using this
  unfold Oper.wp execOp
  simp only [hop, hp, hx, Instr.storeAt, Instr.sureAddr, Sem.run_bind, Sem.run_pure, Result.andThen_ok, hr]
  exact hK' _ _ (h _ hB ⟨World.os_setCells w B _ cs, tape_setCells B cs _ w, World.output_setCells w B _ cs, by rw [size_setCells]; exact Nat.le_refl _, fun k hk hne => World.heap_setCells_other w B _ cs hk (fun e => hne (by rw [e]))⟩ (size_setCells B cs _ w))

def setAll : List Value → Nat → List Value → List Value
  | cs, _, [] => cs
  | cs, o, v :: r => setAll (cs.set o v) (o + 1) r
theorem setAll_mid : ∀ (c p a q : List Value), a.length = c.length → setAll (p ++ (a ++ q)) p.length c = p ++ (c ++ q)
  | [], p, a, q, h => by
    have : a = [] := List.eq_nil_of_length_eq_zero (by simpa using h)
    subst this; rfl
  | v :: r, p, [], q, h => by simp at h
  | v :: r, p, u :: a, q, h => by
    have ih := setAll_mid r (p ++ [v]) a q (by simpa using h)
    unfold setAll
    have e1 : (p ++ (u :: a ++ q)).set p.length v = (p ++ [v]) ++ (a ++ q) := by
      rw [List.set_append_right _ _ (Nat.le_refl _)]; simp
    rw [e1]
    have e2 : (p ++ [v]).length = p.length + 1 := by simp
    rw [e2] at ih
    rw [ih]; simp
theorem AtO.sets {S0 : List Nat} {w0 : World} {x : List Nat} {b : Nat} {e : TypeId} {fs : List Fld} : ∀ (vs : List Value) (o : Nat) {w : World} {cs : List Value}, AtO S0 w0 x b e cs fs w → AtO S0 w0 x b e (setAll cs o vs) fs (w.setCells b o vs)
  | [], _, _, _, h => h
  | v :: r, o, _, _, h => AtO.sets r (o + 1) (h.set o v)
/-- A struct is stored into a part of an object. -/
theorem wpList_store_part {P : Program} {w : World} {ops : Array Oper} {rest : List Oper} {op : Oper} {act : Act} {Q : Exit → Act → World → Prop} (hgd : op.guard = none) (p x : Operand) (t : TypeId)
    (hop : op.op = .store t p x) (B off : Nat) (hp : act.eval p = .pointer (some ⟨B, off, none⟩)) (cs : List Value) (hx : act.eval x = .agg cs.toArray) (e : TypeId) (old : List Value) (hb : Blk w B e old) (hl : off + cs.length ≤ old.length) (hi : (P.info? t).map (·.size) = some cs.length) (h1 : ∀ u ∈ cs, u.oneCell' = true)
    (h : ∀ W, Hid (W = w.setCells B off cs) → wpList P ops Q rest (act.put op.dst undef) W) : wpList P ops Q (op :: rest) act w := by
  refine wpList_plain hgd fun K hK' => ?_
  have hr := run_store_part (P := P) w t B off e old cs hb hl hi h1
  unfold Oper.wp execOp
  simp only [hop, hp, hx, Instr.storeAt, Instr.sureAddr, Sem.run_bind, Sem.run_pure, Result.andThen_ok, hr]
  exact hK' _ _ (h _ rfl)

/-- What began later began here too, if nothing old has turned between. -/
theorem AtO.older {w w1 w' : World} {x : List Nat} {b : Nat} {e : TypeId} {cs : List Value} {fs : List Fld} (h : AtO [] w1 x b e cs fs w') (hg : w.grownBy w1 none) : AtO [] w x b e cs fs w' := by
  obtain ⟨os, h1, hk, hb, ht, hx⟩ := h
  have kk : Kp [] w w1 := ⟨hg.os, hg.tape, hg.output, hg.size, fun k hk _ => hg.block k hk (by simp)⟩
  refine ⟨os, h1, kk.trans hk (fun x hx => by cases hx), ?_, ?_, hx⟩
  · rcases hb with h | h
    · cases h
    · exact .inr (Nat.le_trans hg.size h)
  · intro k g hg'
    rcases ht k g hg' with h | h
    · cases h
    · exact .inr (Nat.le_trans hg.size h)

/-- 'append' onto an owned slice, inside a region that draws its order. -/
theorem step_append_sl {P : Program} {ops : Array Oper} {o : Oper} {a : Act} {w : World} {K : Act → World → Prop} {Q : Exit → Act → World → Prop} {E : Prop} (hgd : o.guard = none) (s x : Operand) (t tx : TypeId)
    (ho : o.op = .call { callee := .builtin .append, args := #[s, x], argTypes := #[t, tx] })
    {e : TypeId} {size : Nat} {v : Value} {n : Nat} {xs : List Value} {own : Option Nat} (h : Sl w e size v n xs own) (hv : a.eval s = v)
    (i : TypeInfo) (z : Value) (bytes : Nat) (ht : P.underlying t = some (.slice e)) (hi : P.info? e = some i) (hz : i.zero = some z) (hsize : i.size = size) (hby : i.bytes = bytes) (hzs : z.cells.size = size)
    (xv : Value) (m : Nat) (news : List Value) (hx : a.eval x = xv) (hs : Src P size tx xv m news w) (h63 : n + m ≤ maxLen) (hbytes : (n + m) * bytes ≤ 140737488355328)
    (hK : ∀ a' cap' w' own', Sl w' e size (.slice a' (n + m) cap') (n + m) (xs ++ news) own' → w.grownBy w' own → (own' = own ∨ own' = some w.heap.size ∧ w.heap.size < w'.heap.size) → K (a.put o.dst (.slice a' (n + m) cap')) w') :
    if Region.wanted o (yielded ops a.tmps) = true then Oper.wp P o a w K Q else E := by
  have hw : Region.wanted o (yielded ops a.tmps) = true := by simp [Region.wanted, hgd]
  rw [if_pos hw]
  obtain ⟨v', w', o', hr, h1, h2, h3⟩ := run_append_sl h t tx o.type i z bytes ht hi hz hsize hby hzs xv m news hs h63 hbytes
  obtain ⟨a', cap', rfl, _⟩ := h1.shape
  unfold Oper.wp
  simp [execOp, ho, resolve, invoke, builtin, hv, hx, hr, Result.andThen]
  exact hK a' cap' w' o' h1 h2 h3
end Go.Clk
