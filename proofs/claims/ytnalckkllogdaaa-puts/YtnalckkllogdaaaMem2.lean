/- Own laws of slices: cut at the front or at the back, made a string. Of no program. -/
import Derived.Test.YtnalckkllogdaaaSpec
import Derived.Laws.BytesString
namespace Go.Clk
open Go Go.RowKit

/-- What the front is cut off of. -/
theorem Sl.cut {w : World} {e : TypeId} {size : Nat} {a : Option Addr} {n cap : Nat} {xs : List Value} {o : Option Nat} (h : Sl w e size (.slice a n cap) n xs o) (k : Nat) (hk : k ≤ n) :
    Sl w e size (.slice (if cap = k then a else a.map (·.add (k * size))) (n - k) (cap - k)) (n - k) (xs.drop (k * size)) o := by
  have hlen := h.1
  have hm : (n - k) * size = n * size - k * size := Nat.sub_mul n k size
  have hks : k * size ≤ n * size := Nat.mul_le_mul_right _ hk
  refine ⟨by rw [List.length_drop, hlen, hm], ?_⟩
  rcases h.2 with ⟨h1, h2, h3⟩ | ⟨g, off, cap', cur, h1, h2, h3, h4, h5, h6, h7⟩
  · cases h1
    obtain rfl : k = 0 := by omega
    exact .inl ⟨by simp, by omega, h3⟩
  · cases h1
    have hck : k * size ≤ cap * size := Nat.mul_le_mul_right _ (by omega)
    have hcm : (cap - k) * size = cap * size - k * size := Nat.sub_mul cap k size
    by_cases hc : cap = k
    · rw [if_pos hc]
      refine .inr ⟨g, off, cap - k, cur, rfl, h2, h3, by omega, by omega, by omega, ?_⟩
      obtain rfl : n = k := by omega
      have : xs.drop (n * size) = [] := List.drop_eq_nil_of_le (by omega)
      rw [this]; simp
    · rw [if_neg hc]
      refine .inr ⟨g, off + k * size, cap - k, cur, ?_, h2, h3, by omega, by omega, by omega, ?_⟩
      · simp [Addr.add_lit]
      · rw [← h7, List.drop_take, hm, List.drop_drop]
/-- What the back is cut off of. -/
theorem Sl.front {w : World} {e : TypeId} {size : Nat} {a : Option Addr} {n cap : Nat} {xs : List Value} {o : Option Nat} (h : Sl w e size (.slice a n cap) n xs o) (k : Nat) (hk : k ≤ n) :
    Sl w e size (.slice a k cap) k (xs.take (k * size)) o := by
  have hlen := h.1
  have hks : k * size ≤ n * size := Nat.mul_le_mul_right _ hk
  refine ⟨by rw [List.length_take, hlen]; omega, ?_⟩
  rcases h.2 with ⟨h1, h2, h3⟩ | ⟨g, off, cap', cur, h1, h2, h3, h4, h5, h6, h7⟩
  · cases h1
    obtain rfl : k = 0 := by omega
    exact .inl ⟨rfl, rfl, h3⟩
  · cases h1
    refine .inr ⟨g, off, cap, cur, rfl, h2, h3, by omega, h5, h6, ?_⟩
    rw [← h7, List.take_take, Nat.min_eq_left hks]

theorem wpList_cut {P : Program} {w : World} {ops : Array Oper} {rest : List Oper} {op : Oper} {act : Act} {Q : Exit → Act → World → Prop} (hgd : op.guard = none) (x : Operand) (lo : Operand) (t : TypeId)
    (hop : op.op = .slice t x (some lo) none none) {e : TypeId} {size : Nat} (i : TypeInfo) (ht : P.underlying t = some (.slice e)) (hi : P.info? e = some i) (hsize : i.size = size)
    {a : Option Addr} {n cap : Nat} {xs : List Value} {o : Option Nat} (hx : act.eval x = .slice a n cap) (h : Sl w e size (.slice a n cap) n xs o) (k : Int) (hlo : act.eval lo = .int .i64 k) (hk0 : 0 ≤ k) (hk : k ≤ n)
    (hK : ∀ a' cap', Sl w e size (.slice a' (n - k.toNat) cap') (n - k.toNat) (xs.drop (k.toNat * size)) o → wpList P ops Q rest (act.put op.dst (.slice a' (n - k.toNat) cap')) w) : wpList P ops Q (op :: rest) act w := by
  refine wpList_plain hgd fun K hK' => ?_
  have h1 := h.cut k.toNat (by omega)
  obtain ⟨_, _, _, hnc, hcm⟩ := h.shape
  unfold Oper.wp
  have hr : (Instr.sliceAt t (.slice a n cap) (some (.int .i64 k)) none none).run P w = .ok (.slice (if cap = k.toNat then a else a.map (·.add (k.toNat * size))) (n - k.toNat) (cap - k.toNat)) w := by
    have hle : k ≤ (n : Int) := hk
    simp [Instr.sliceAt, Instr.slice, run_underlying ht, Instr.sliceBounds, Instr.sliceBound, asIntOf, hk0, hle, sizeOf, typeInfo, hi, hsize]
  simp [execOp, hop, hx, hlo, hr, Result.andThen]
  exact hK' _ _ (hK _ _ h1)
theorem wpList_front {P : Program} {w : World} {ops : Array Oper} {rest : List Oper} {op : Oper} {act : Act} {Q : Exit → Act → World → Prop} (hgd : op.guard = none) (x : Operand) (hi' : Operand) (t : TypeId)
    (hop : op.op = .slice t x none (some hi') none) {e : TypeId} {size : Nat} (i : TypeInfo) (ht : P.underlying t = some (.slice e)) (hi : P.info? e = some i)
    {a : Option Addr} {n cap : Nat} {xs : List Value} {o : Option Nat} (hx : act.eval x = .slice a n cap) (h : Sl w e size (.slice a n cap) n xs o) (k : Int) (hlo : act.eval hi' = .int .i64 k) (hk0 : 0 ≤ k) (hk : k ≤ n)
    (hK : Sl w e size (.slice a k.toNat cap) k.toNat (xs.take (k.toNat * size)) o → wpList P ops Q rest (act.put op.dst (.slice a k.toNat cap)) w) : wpList P ops Q (op :: rest) act w := by
  refine wpList_plain hgd fun K hK' => ?_
  have h1 := h.front k.toNat (by omega)
  obtain ⟨a0, c0, e0, hnc, hcm⟩ := h.shape
  cases e0
  unfold Oper.wp
  have hr : (Instr.sliceAt t (.slice a n cap) none (some (.int .i64 k)) none).run P w = .ok (.slice a k.toNat cap) w := by
    have hle : k ≤ (cap : Int) := by omega
    simp [Instr.sliceAt, Instr.slice, run_underlying ht, Instr.sliceBounds, Instr.sliceBound, asIntOf, hk0, hle, sizeOf, typeInfo, hi]
    intro; cases a <;> simp [Addr.add]
  simp [execOp, hop, hx, hlo, hr, Result.andThen]
  exact hK' _ _ (hK h1)

theorem push_all (ns : List UInt8) : ∀ s : ByteArray, (ns.map fun b : UInt8 => ((b.toNat : Nat) : Int)).foldl (fun r n => r.push (UInt8.ofNat n.toNat)) s = ⟨s.data ++ ns.toArray⟩ := by
  induction ns with
  | nil => intro s; simp
  | cons a ns ih =>
    intro s
    simp only [List.map_cons, List.foldl_cons]
    rw [ih]
    simp [ByteArray.push]
/-- The string of these bytes. -/
def str (l : List UInt8) : ByteArray := ⟨l.toArray⟩
theorem wpList_string {P : Program} {w : World} {ops : Array Oper} {rest : List Oper} {op : Oper} {act : Act} {Q : Exit → Act → World → Prop} (hgd : op.guard = none) (x : Operand) (src dst : TypeId)
    (hop : op.op = .convert src dst x) {e : TypeId} (hs : P.underlying src = some (.slice e)) (he : P.underlying e = some (.int .u8)) (hd : P.underlying dst = some .string)
    {v : Value} {n : Nat} {l : List UInt8} {o : Option Nat} (hx : act.eval x = v) (h : Sl w e 1 v n (bys l) o)
    (hK : wpList P ops Q rest (act.put op.dst (.string (str l))) w) : wpList P ops Q (op :: rest) act w := by
  refine wpList_plain hgd fun K hK' => ?_
  have hr : (convert src dst v).run P w = .ok (.string (str l)) w := by
    have hlen := h.1
    rcases h.2 with ⟨rfl, rfl, _⟩ | ⟨g, off, cap', cur, rfl, _⟩
    · have : l = [] := List.eq_nil_of_length_eq_zero (by simpa [bys] using hlen)
      subst this
      rw [run_convert_bytes_string w src dst e none 0 0 hs he hd]
      rfl
    · rw [run_convert_bytes_string w src dst e _ n cap' hs he hd]
      have hb : bys l = (l.map fun b : UInt8 => ((b.toNat : Nat) : Int)).map (Value.int .u8) := by simp [bys]
      have hf := run_firstCells_some (P := P) w 1 n ⟨g, off, none⟩ n cap' (bys l) hlen (fun j u hu => by rw [Addr.add_lit]; exact (h.cells rfl j hu).1)
      have hl : (loadCells ⟨g, off, none⟩ n).run P w = .ok (bys l).toArray w := by simpa [Builtin.firstCells] using hf
      rw [hb] at hl
      rw [run_bytesToString w _ n cap' _ hl, push_all]
      simp [str]
  unfold Oper.wp
  simp [execOp, hop, hx, hr, Result.andThen]
  exact hK' _ _ hK

/-- A new object whose slices are all nil. -/
theorem AtO.made (w : World) (cs : List Value) (e : TypeId) (fs : List Fld) (hfs : ∀ (k : Nat) (f : Fld), fs[k]? = some f → f.v = .slice none 0 0 ∧ f.n = 0 ∧ f.xs = []) :
    AtO [] w [] w.heap.size e cs fs (w.alloc (.cells cs.toArray e)) := by
  have hn : ∀ (k : Nat) (o : Option Nat), (List.replicate fs.length (none : Option Nat))[k]? = some o → o = none := fun k o h => by
    rw [List.getElem?_replicate] at h; split at h <;> simp_all
  refine ⟨List.replicate fs.length none, ⟨Blk.new w cs e, by simp, fun k f o hf ho => ?_, (fun k h => by have := hn _ _ h; cases this), (fun k j g h _ => by have := hn _ _ h; cases this)⟩, (Kp.refl [] w).alloc _, .inr (Nat.le_refl _), (fun k g h => by have := hn _ _ h; cases this), (fun g h => by cases h)⟩
  obtain ⟨h1, h2, h3⟩ := hfs k f hf
  rw [hn k o ho]
  unfold Fld.at
  rw [h1, h2, h3]
  exact Sl.nil _ _ _
/-- A struct handed over by value lies in a box. -/
theorem wpList_box {P : Program} {w : World} {ops : Array Oper} {rest : List Oper} {op : Oper} {act : Act} {Q : Exit → Act → World → Prop} (hgd : op.guard = none) (x : Operand) (t : TypeId)
    (hop : op.op = .box t x) (cs : List Value) (hx : act.eval x = .agg cs.toArray)
    (hK : ∀ (W : World) (B : Nat), Hid (B = w.heap.size ∧ W = w.alloc (.cells cs.toArray t)) → wpList P ops Q rest (act.put op.dst (.pointer (some ⟨B, 0, none⟩))) W) : wpList P ops Q (op :: rest) act w := by
  refine wpList_plain hgd fun K hK' => ?_
  unfold Oper.wp
  have hr : (Instr.box t (.agg cs.toArray)).run P w = .ok (.pointer (some ⟨w.heap.size, 0, none⟩)) (w.alloc (.cells cs.toArray t)) := by
    simp [Instr.box, newVar, newRow, Value.cells]
  simp [execOp, hop, hx, hr, Result.andThen]
  exact hK' _ _ (hK _ _ ⟨rfl, rfl⟩)

/-- Nothing old turns, then only what is new: nothing old turns. -/
theorem grownBy_then {w w1 w2 : World} {o : Option Nat} (h : w.grownBy w1 none) (k : w1.grownBy w2 o) (ho : ∀ g, o = some g → w.heap.size ≤ g) : w.grownBy w2 none :=
  ⟨k.os.trans h.os, k.tape.trans h.tape, k.output.trans h.output, Nat.le_trans h.size k.size, fun i hi _ => (k.block i (Nat.lt_of_lt_of_le hi h.size) fun e => by have := ho i e.symm; omega).trans (h.block i hi (by simp))⟩
end Go.Clk
