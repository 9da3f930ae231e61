/- A script that came in, opened. -/
import Derived.Test.YtnalckkllogdaaaLaw13
import Derived.Deep.Slices
import Derived.OpenShut
namespace Go.Proofs.Ytnalckkllogdaaa
open Go Go.RowKit Go.Clk Go.Deep

theorem cells_int : Try.prog.cellsOf 3 = 1 := by kernel_rfl
theorem cells_string : Try.prog.cellsOf 9 = 1 := by kernel_rfl
theorem cells_chars : Try.prog.cellsOf 32 = 14 := by kernel_rfl
theorem cells_settings : Try.prog.cellsOf 34 = 17 := by kernel_rfl
theorem cells_op : Try.prog.cellsOf 36 = 21 := by kernel_rfl

theorem take_one {cs : List Value} {k : Nat} {v : Value} (h : (cs.drop k).take 1 = [v]) : cs[k]? = some v := by
  have := congrArg (fun l => l[0]?) h
  simpa [List.getElem?_take, List.getElem?_drop] using this
theorem all_ints : ∀ (cs : List Value), (∀ k, k < cs.length → ∃ n, cs[k]? = some (.int .i64 n)) → ∃ ss, cs = i64s ss ∧ ss.length = cs.length
  | [], _ => ⟨[], rfl, rfl⟩
  | v :: r, h => by
    obtain ⟨n, hn⟩ := h 0 (by simp)
    obtain ⟨ss, h1, h2⟩ := all_ints r fun k hk => by
      have := h (k + 1) (by simpa using hk)
      simpa using this
    simp at hn
    exact ⟨n :: ss, by rw [hn, h1]; rfl, by simp [h2]⟩

section
variable {H : Type} {enc : TypeId × Value → H} {w : World} {base : Nat} {spare : Nat → Bool} {held : Bool} {fuel : Nat} {cs : List Value} {x : DataW H × List MemPlace}
theorem open_int_at {k : Nat} (h : DataW.trod enc Try.prog w base spare held fuel 3 ((cs.drop k).take 1) = some x) : ∃ n, cs[k]? = some (.int .i64 n) ∧ -9223372036854775808 ≤ n ∧ n ≤ 9223372036854775807 := by
  obtain ⟨n, h1, _, h2⟩ := DataW.trod_int Try.underlying3 h
  exact ⟨n, take_one h1, bounds_i64 h2⟩
theorem open_settings (h : DataW.trod enc Try.prog w base spare held fuel 34 cs = some x) : ∃ ss, cs = i64s ss ∧ ss.length = 17 := by
  obtain ⟨xs, n, _, _, hl, hx, hf⟩ := DataW.trod_struct Try.underlying34 h
  rw [cells_settings] at hl
  have hx4 : xs.length = 4 := hx
  have f0 : DataW.trod enc Try.prog w base spare held n 3 ((cs.drop 0).take (Try.prog.cellsOf 3)) = xs[0]? := hf 0 _ rfl
  have f1 : DataW.trod enc Try.prog w base spare held n 3 ((cs.drop 1).take (Try.prog.cellsOf 3)) = xs[1]? := hf 1 _ rfl
  have f2 : DataW.trod enc Try.prog w base spare held n 3 ((cs.drop 2).take (Try.prog.cellsOf 3)) = xs[2]? := hf 2 _ rfl
  have f3 : DataW.trod enc Try.prog w base spare held n 32 ((cs.drop 3).take (Try.prog.cellsOf 32)) = xs[3]? := hf 3 _ rfl
  rw [cells_int] at f0 f1 f2
  rw [cells_chars] at f3
  rw [List.getElem?_eq_getElem (by omega)] at f0 f1 f2 f3
  obtain ⟨ys, m, _, _, _, hy, ha⟩ := DataW.trod_array Try.underlying32 f3
  obtain ⟨ss, h1, h2⟩ := all_ints cs fun k hk => by
    rcases Nat.lt_or_ge k 3 with h3 | h3
    · match k, h3 with
      | 0, _ => obtain ⟨n, h, _⟩ := open_int_at f0; exact ⟨n, h⟩
      | 1, _ => obtain ⟨n, h, _⟩ := open_int_at f1; exact ⟨n, h⟩
      | 2, _ => obtain ⟨n, h, _⟩ := open_int_at f2; exact ⟨n, h⟩
    · have := ha (k - 3) (by omega)
      rw [cells_int, List.getElem?_eq_getElem (by omega)] at this
      obtain ⟨n, h, _⟩ := open_int_at this
      refine ⟨n, ?_⟩
      rw [List.getElem?_take, if_pos (by omega), List.getElem?_drop] at h
      rw [← h]; congr 1; omega
  exact ⟨ss, h1, by omega⟩
theorem open_op (h : DataW.trod enc Try.prog w base spare held fuel 36 cs = some x) : ∃ o : Opn, cs = o.cells ∧ o.Ok := by
  obtain ⟨xs, n, _, _, hl, hx, hf⟩ := DataW.trod_struct Try.underlying36 h
  rw [cells_op] at hl
  have hx4 : xs.length = 5 := hx
  have f0 : DataW.trod enc Try.prog w base spare held n 3 ((cs.drop 0).take (Try.prog.cellsOf 3)) = xs[0]? := hf 0 _ rfl
  have f1 : DataW.trod enc Try.prog w base spare held n 3 ((cs.drop 1).take (Try.prog.cellsOf 3)) = xs[1]? := hf 1 _ rfl
  have f2 : DataW.trod enc Try.prog w base spare held n 3 ((cs.drop 2).take (Try.prog.cellsOf 3)) = xs[2]? := hf 2 _ rfl
  have f3 : DataW.trod enc Try.prog w base spare held n 9 ((cs.drop 3).take (Try.prog.cellsOf 9)) = xs[3]? := hf 3 _ rfl
  have f4 : DataW.trod enc Try.prog w base spare held n 34 ((cs.drop 4).take (Try.prog.cellsOf 34)) = xs[4]? := hf 4 _ rfl
  rw [cells_int] at f0 f1 f2
  rw [cells_string] at f3
  rw [cells_settings] at f4
  rw [List.getElem?_eq_getElem (by omega)] at f0 f1 f2 f3 f4
  obtain ⟨kind, k1, k2⟩ := open_int_at f0
  obtain ⟨term, t1, t2⟩ := open_int_at f1
  obtain ⟨nn, n1, n2⟩ := open_int_at f2
  obtain ⟨s, s1, _, s2⟩ := DataW.trod_string Try.underlying9 f3
  have s1 := take_one s1
  obtain ⟨ss, h1, h2⟩ := open_settings f4
  refine ⟨⟨kind, term, nn, s, ss⟩, ?_, k2.1, k2.2, t2.1, t2.2, n2.2, s2, h2⟩
  have hd : (cs.drop 4).take 17 = cs.drop 4 := List.take_of_length_le (by simp; omega)
  rw [hd] at h1
  have : cs = cs.take 4 ++ cs.drop 4 := (List.take_append_drop 4 cs).symm
  rw [this, h1]
  show _ = [.int .i64 kind, .int .i64 term, .int .i64 nn, .string s] ++ i64s ss
  congr 1
  apply List.ext_getElem?
  intro i
  rw [List.getElem?_take]
  match i with
  | 0 => simpa using k1
  | 1 => simpa using t1
  | 2 => simpa using n1
  | 3 => simpa using s1
  | j + 4 => simp; omega
/-- A script that came in. -/
theorem open_script {v : Value} (h : DataW.trod enc Try.prog w base spare held fuel 22 [v] = some x) :
    ∃ (sa : Option Addr) (cap : Nat) (ops : List Opn), v = .slice sa ops.length cap ∧ Script w sa ops ∧ (ops = [] ∨ ∃ elems rest, x.1 = .slice elems rest ∧ elems.length = ops.length) := by
  rcases open_slice Try.underlying22 h with ⟨h0, hx⟩ | ⟨a, len, cap, m, n, D, Pl, h0, hb, hl, hm, hmm, hx, hall⟩
  · simp at h0
    exact ⟨none, 0, [], h0, fun i o hi => by simp at hi, .inl rfl⟩
  · simp at h0
    rw [cells_op] at hall
    have hlm : len ≤ m := by rw [hmm]; split <;> omega
    have : Inhabited Opn := ⟨⟨0, 0, 0, ByteArray.empty, []⟩⟩
    obtain ⟨O, hO⟩ := choose_lt (α := Opn) (n := len) (p := fun i o => o.Ok ∧ w.cells? base (a.add (i * 21)) 21 = some o.cells) fun i hi => by
      obtain ⟨cs', h1, h2⟩ := hall i (by omega)
      obtain ⟨o, rfl, h3⟩ := open_op h2
      exact ⟨o, h3, h1⟩
    refine ⟨some a, cap, (List.range len).map O, by simpa using h0, fun i o hi => ?_, .inr ⟨_, _, by rw [hx], by simp⟩⟩
    have hil : i < len := by have := (List.getElem?_eq_some_iff.1 hi).1; simpa using this
    rw [List.getElem?_map, List.getElem?_range hil] at hi
    simp at hi
    subst hi
    obtain ⟨h1, h2⟩ := hO i hil
    obtain ⟨_, h3, h4⟩ := World.cells?_some h2
    have c0 := h4 0 (by omega)
    have e0 : (O i).cells[0]? = some (.int .i64 (O i).kind) := rfl
    rw [e0] at c0
    obtain ⟨g, off, spot⟩ := a
    have hspot : spot = none := by
      obtain ⟨_, _, q4⟩ := World.cells?_some (hO 0 (by omega)).2
      have z0 := q4 0 (by omega)
      have y0 : (O 0).cells[0]? = some (.int .i64 (O 0).kind) := rfl
      rw [y0] at z0
      have := World.cell?_spot z0
      simpa [Addr.add] using this
    subst hspot
    have adr : ∀ j, ((⟨g, off, none⟩ : Addr).add (i * 21)).add j = ⟨g, off + i * 21 + j, none⟩ := fun j => by rw [Addr.add_mid, Addr.add_mid]
    refine ⟨h1, g, off, rfl, ?_, fun j v hv => ?_⟩
    · have := World.block_lt_of_cell? w _ c0
      rw [adr] at this; exact this
    · have hj : j < 21 := by have := (List.getElem?_eq_some_iff.1 hv).1; omega
      rw [← adr, h4 j hj, hv]
end
end Go.Proofs.Ytnalckkllogdaaa
