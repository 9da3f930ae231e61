/-
  Proved: whatever the script (what came in is of bulk at most 1048576: the second form), clackkeep.Bounded answers true, and what came in reads behind the call as it read before.
  Conditions: what came in is of bulk at most 1048576 (the list of the signals that nobody asks for has a number of eight bytes for each byte that came in: beyond 2^45 of them no memory bears it).
-/
import Derived.Test.YtfnglkhhmplejaaKW6
import Derived.Test.YtfnglkhhmplejaaKOa
import Derived.JoinedCond
namespace Go.Proofs.Ytfnglkhhmplejaa
open Go Go.ChangeShapes Go.WideShapes Go.ChangeAt Go.RowKit Go.Clk Go.Deep

theorem bcells_string : Try.prog.cellsOf 9 = 1 := by kernel_rfl
theorem bcells_chars : Try.prog.cellsOf 24 = 14 := by kernel_rfl
theorem bcells_settings : Try.prog.cellsOf 26 = 17 := by kernel_rfl
theorem bcells_op : Try.prog.cellsOf 59 = 20 := by kernel_rfl
theorem ball_ints : ∀ (cs : List Value), (∀ k, k < cs.length → ∃ n, cs[k]? = some (.int .i64 n)) → ∃ ss, cs = i64s ss ∧ ss.length = cs.length
  | [], _ => ⟨[], rfl, rfl⟩
  | v :: r, h => by
    obtain ⟨n, hn⟩ := h 0 (by simp)
    obtain ⟨ss, h1, h2⟩ := ball_ints r fun k hk => by
      have := h (k + 1) (by simpa using hk)
      simpa using this
    simp at hn
    exact ⟨n :: ss, by rw [hn, h1]; rfl, by simp [h2]⟩
theorem bbulk_mem {H : Type} {d : DataW H} {l : List (DataW H)} (h : d ∈ l) : Rows.uptoBulk d ≤ Rows.uptoBulkAll l := by
  induction l with
  | nil => cases h
  | cons x r ih =>
    simp only [Rows.uptoBulkAll]
    cases List.mem_cons.1 h with
    | inl e => subst e; omega
    | inr e => have := ih e; omega
section
variable {H : Type} {enc : TypeId × Value → H} {w : World} {base : Nat} {spare : Nat → Bool} {held : Bool} {fuel : Nat} {cs : List Value} {x : DataW H × List MemPlace}
theorem bopen_int_at {k : Nat} (h : DataW.trod enc Try.prog w base spare held fuel 3 ((cs.drop k).take 1) = some x) : ∃ n, cs[k]? = some (.int .i64 n) ∧ -9223372036854775808 ≤ n ∧ n ≤ 9223372036854775807 := by
  obtain ⟨n, h1, _, h2⟩ := DataW.trod_int Try.underlying3 h
  exact ⟨n, ktake_one h1, bounds_i64 h2⟩
theorem bopen_settings (h : DataW.trod enc Try.prog w base spare held fuel 26 cs = some x) : ∃ ss, cs = i64s ss ∧ ss.length = 17 := by
  obtain ⟨xs, n, _, _, hl, hx, hf⟩ := DataW.trod_struct Try.underlying26 h
  rw [bcells_settings] at hl
  have hx4 : xs.length = 4 := hx
  have f0 : DataW.trod enc Try.prog w base spare held n 3 ((cs.drop 0).take (Try.prog.cellsOf 3)) = xs[0]? := hf 0 _ rfl
  have f1 : DataW.trod enc Try.prog w base spare held n 3 ((cs.drop 1).take (Try.prog.cellsOf 3)) = xs[1]? := hf 1 _ rfl
  have f2 : DataW.trod enc Try.prog w base spare held n 3 ((cs.drop 2).take (Try.prog.cellsOf 3)) = xs[2]? := hf 2 _ rfl
  have f3 : DataW.trod enc Try.prog w base spare held n 24 ((cs.drop 3).take (Try.prog.cellsOf 24)) = xs[3]? := hf 3 _ rfl
  rw [kcells_int] at f0 f1 f2
  rw [bcells_chars] at f3
  rw [List.getElem?_eq_getElem (by omega)] at f0 f1 f2 f3
  obtain ⟨ys, m, _, _, _, hy, ha⟩ := DataW.trod_array Try.underlying24 f3
  obtain ⟨ss, h1, h2⟩ := ball_ints cs fun k hk => by
    rcases Nat.lt_or_ge k 3 with h3 | h3
    · match k, h3 with
      | 0, _ => obtain ⟨n, h, _⟩ := bopen_int_at f0; exact ⟨n, h⟩
      | 1, _ => obtain ⟨n, h, _⟩ := bopen_int_at f1; exact ⟨n, h⟩
      | 2, _ => obtain ⟨n, h, _⟩ := bopen_int_at f2; exact ⟨n, h⟩
    · have := ha (k - 3) (by omega)
      rw [kcells_int, List.getElem?_eq_getElem (by omega)] at this
      obtain ⟨n, h, _⟩ := bopen_int_at this
      refine ⟨n, ?_⟩
      rw [List.getElem?_take, if_pos (by omega), List.getElem?_drop] at h
      rw [← h]; congr 1; omega
  exact ⟨ss, h1, by omega⟩
theorem bopen_op (h : DataW.trod enc Try.prog w base spare held fuel 59 cs = some x) : ∃ o : Opk, cs = o.cells ∧ o.Ok ∧ o.s.size + 1 ≤ Rows.uptoBulk x.1 := by
  obtain ⟨xs, n, _, hxe, hl, hx, hf⟩ := DataW.trod_struct Try.underlying59 h
  rw [bcells_op] at hl
  have hx4 : xs.length = 4 := hx
  have f0 : DataW.trod enc Try.prog w base spare held n 3 ((cs.drop 0).take (Try.prog.cellsOf 3)) = xs[0]? := hf 0 _ rfl
  have f1 : DataW.trod enc Try.prog w base spare held n 3 ((cs.drop 1).take (Try.prog.cellsOf 3)) = xs[1]? := hf 1 _ rfl
  have f2 : DataW.trod enc Try.prog w base spare held n 9 ((cs.drop 2).take (Try.prog.cellsOf 9)) = xs[2]? := hf 2 _ rfl
  have f3 : DataW.trod enc Try.prog w base spare held n 26 ((cs.drop 3).take (Try.prog.cellsOf 26)) = xs[3]? := hf 3 _ rfl
  rw [kcells_int] at f0 f1
  rw [bcells_string] at f2
  rw [bcells_settings] at f3
  rw [List.getElem?_eq_getElem (by omega)] at f0 f1 f2 f3
  obtain ⟨kind, k1, k2⟩ := bopen_int_at f0
  obtain ⟨nn, n1, n2⟩ := bopen_int_at f1
  obtain ⟨s, s1, s0, s2⟩ := DataW.trod_string Try.underlying9 f2
  have s1 := ktake_one s1
  obtain ⟨ss, h1, h2⟩ := bopen_settings f3
  refine ⟨⟨kind, nn, s, ss⟩, ?_, ⟨k2.1, k2.2, n2.1, n2.2, by unfold maxLen at s2; exact s2, h2⟩, ?_⟩
  · have hd : (cs.drop 3).take 17 = cs.drop 3 := List.take_of_length_le (by simp; omega)
    rw [hd] at h1
    have : cs = cs.take 3 ++ cs.drop 3 := (List.take_append_drop 3 cs).symm
    rw [this, h1]
    show _ = [.int .i64 kind, .int .i64 nn, .string s] ++ i64s ss
    congr 1
    apply List.ext_getElem?
    intro i
    rw [List.getElem?_take]
    match i with
    | 0 => simpa using k1
    | 1 => simpa using n1
    | 2 => simpa using s1
    | j + 3 => simp; omega
  · have hm : (DataW.lit (H := H) (.string s.data.toList)) ∈ xs.map (·.1) := by
      have : xs[2].1 = .lit (.string s.data.toList) := by rw [s0]
      exact List.mem_map.2 ⟨xs[2], List.getElem_mem _, this⟩
    have hb := bbulk_mem hm
    have e : s.data.toList.length = s.size := by rw [Array.length_toList]; rfl
    rw [hxe]
    simp only [Rows.uptoBulk] at hb ⊢
    omega
/-- A script that came in. -/
theorem bopen_script {v : Value} (h : DataW.trod enc Try.prog w base spare held fuel 57 [v] = some x) :
    ∃ (sa : Option Addr) (cap : Nat) (ops : List Opk), v = .slice sa ops.length cap ∧ Scriptk w sa ops ∧ opsW ops ≤ Rows.uptoBulk x.1 := by
  rcases open_slice Try.underlying57 h with ⟨h0, hx⟩ | ⟨a, len, cap, m, n, D, Pl, h0, hb, hl, hm, hmm, hx, hall⟩
  · simp at h0
    exact ⟨none, 0, [], h0, fun i o hi => by simp at hi, by simp [opsW]⟩
  · simp at h0
    rw [bcells_op] at hall
    have hlm : len ≤ m := by rw [hmm]; split <;> omega
    have : Inhabited Opk := ⟨⟨0, 0, ByteArray.empty, []⟩⟩
    obtain ⟨O, hO⟩ := choose_lt (α := Opk) (n := len) (p := fun i o => (o.Ok ∧ o.s.size + 1 ≤ Rows.uptoBulk (D i)) ∧ w.cells? base (a.add (i * 20)) 20 = some o.cells) fun i hi => by
      obtain ⟨cs', h1, h2⟩ := hall i (by omega)
      obtain ⟨o, rfl, h3, h4⟩ := bopen_op h2
      exact ⟨o, ⟨h3, h4⟩, h1⟩
    refine ⟨some a, cap, (List.range len).map O, by simpa using h0, fun i o hi => ?_, ?_⟩
    · have hil : i < len := by have := (List.getElem?_eq_some_iff.1 hi).1; simpa using this
      rw [List.getElem?_map, List.getElem?_range hil] at hi
      simp at hi
      subst hi
      obtain ⟨h1, h2⟩ := hO i hil
      obtain ⟨_, h3, h4⟩ := World.cells?_some h2
      have c0 := h4 0 (by omega)
      have e0 : (O i).cells[0]? = some (.int .i64 (O i).kind) := rfl
      rw [e0] at c0
      obtain ⟨g, off, spot⟩ := a
      have hspot : spot = none := by
        obtain ⟨_, _, q4⟩ := World.cells?_some (hO 0 (by omega)).2
        have z0 := q4 0 (by omega)
        have y0 : (O 0).cells[0]? = some (.int .i64 (O 0).kind) := rfl
        rw [y0] at z0
        have := World.cell?_spot z0
        simpa [Addr.add] using this
      subst hspot
      have adr : ∀ j, ((⟨g, off, none⟩ : Addr).add (i * 20)).add j = ⟨g, off + i * 20 + j, none⟩ := fun j => by rw [Addr.add_mid, Addr.add_mid]
      refine ⟨h1.1, g, off, rfl, ?_, fun j v hv => ?_⟩
      · have := World.block_lt_of_cell? w _ c0
        rw [adr] at this; exact this
      · have hj : j < 20 := by have := (List.getElem?_eq_some_iff.1 hv).1; rw [opk_len _ h1.1.l] at this; exact this
        rw [← adr, h4 j hj, hv]
    · have hsum : ∀ k, k ≤ len → opsW ((List.range k).map O) ≤ Rows.uptoBulkAll ((List.range k).map D) := by
        intro k
        induction k with
        | zero => intro _; simp [opsW]
        | succ k ih =>
          intro hk
          have h5 := ih (by omega)
          have h6 := (hO k (by omega)).1.2
          rw [List.range_succ, List.map_append, List.map_append, opsW_app]
          have h7 : ∀ (l r : List (DataW H)), Rows.uptoBulkAll (l ++ r) = Rows.uptoBulkAll l + Rows.uptoBulkAll r := by
            intro l r
            induction l with
            | nil => simp [Rows.uptoBulkAll]
            | cons x l ih => simp only [List.cons_append, Rows.uptoBulkAll, ih]; omega
          rw [h7]
          simp only [List.map_cons, List.map_nil, opsW, Rows.uptoBulkAll]
          omega
      have := hsum len (Nat.le_refl _)
      rw [hx]
      simp only [Rows.uptoBulk]
      omega
end
set_option maxRecDepth 100000 in
theorem bounded_lifted (os : Os) (started : os.Started) (H : Type) (enc : TypeId × Value → H) (F : Stop.Interp) :
    ReturnsInHanded {} Try.checked os 8 .any ((Rows.OpenSpec.upto Rows.boundedSpec).pre6 enc Try.prog Try.f8 Rows.boundedUptoRow.domain false) (((Rows.OpenSpec.upto Rows.boundedSpec).at F).post enc Try.prog Try.f8 false true false false) := by
  refine returnsInHanded_of_cond (C := Try.checked) (s := Rows.OpenSpec.upto Rows.boundedSpec) (k := Rows.uptoSmall) rfl kown started (by kernel_rfl) Try.func8
    (OpenSpec.witness (enc := enc) (C := Try.checked) (s := Rows.OpenSpec.upto Rows.boundedSpec) (k := Rows.uptoSmall) rfl false ⟨#[], #[.slice none 0 0], []⟩ 8 (by kernel_rfl) (by kernel_rfl) (by kernel_rfl)
      (x := ([.nil], [], [])) (by kernel_rfl) rfl (by kernel_rfl)) ?_
  intro W base args ds gs before hval0 hW _ hk _
  have hval : ∀ (j : Nat) t v, Try.f8.params[j]? = some t → args[j]? = some v → Value.okWide Try.prog W .any base t v := hval0
  have hW' := hW
  obtain ⟨p, q, hA0, hV, rfl, hfz, hnd⟩ := hW
  have hA : DataW.TrodAll enc Try.prog W 0 (fun _ => true) true Try.f8.params.toList args.toList ds p := hA0
  rw [Try.params8] at hA hval
  obtain ⟨v0, vs0, d0, ds0, p0, q0, hargs0, rfl, rfl, h0, r0⟩ := trodAll_cons hA
  obtain ⟨rfl, rfl, rfl⟩ := trodAll_nil r0
  obtain rfl : args = #[v0] := by cases args; simp_all
  obtain ⟨rfl, rfl⟩ := trodVars_none hV
  have k0 := h0
  have lt0 : ∀ x ∈ p0, x.block < W.heap.size := by obtain ⟨m, hm⟩ := k0; exact DataW.trod_lt m _ _ _ hm
  obtain ⟨fuel0, hf0⟩ := h0
  obtain ⟨a0, len0, cap0, rfl⟩ := okWide_slice Try.underlying57 (hval 0 57 v0 rfl rfl)
  obtain ⟨sa, cap, ops, hv0, hS, hbk⟩ := bopen_script (v := .slice a0 len0 cap0) (x := (d0, p0)) (by simpa [Value.cells] using hf0)
  have hl : opsW ops ≤ 1048576 := by
    have h5 : Rows.uptoBulkAll [d0] ≤ 1048576 := of_decide_eq_true hk
    simp only [Rows.uptoBulkAll] at h5
    have h6 : opsW ops ≤ Rows.uptoBulk d0 := hbk
    omega
  clear hA0 hval0
  rw [hv0]
  refine (bounded_walk W sa cap ops hS hl).mono fun e W' ⟨he, bel⟩ => ?_
  subst he
  rw [hv0] at hW' k0
  exact ⟨_, rfl, _, _, _, [], _, [], hW', trodAll_mk1 (shut_bool Try.underlying4 _), (trodAll_cons_mk (Below.trod klaidOut (by kernel_rfl) (of_decide_eq_true (by kernel_rfl)) k0 bel lt0) trodAll_mk0), rfl, bel.frame _, fun h => by cases h⟩

theorem bounded_holds : Rows.BoundedUptoSaid :=
  OpenClaim.holds_of_cond 8 Try.f8 rfl rfl rfl rfl rfl rfl rfl ⟨rfl, rfl, rfl, rfl, rfl⟩ rfl rfl rfl rfl rfl (by kernel_rfl) Try.func8 (by kernel_rfl)
    (of_decide_eq_true (by kernel_rfl)) (by unfold Func.isWrapper; first | (rw [if_pos (by decide +kernel)]; kernel_rfl) | (rw [if_neg (by decide +kernel)]; exact ⟨rfl, rfl⟩))
    (fun os started H enc _ F => bounded_lifted os started H enc F)
#print axioms bounded_holds
end Go.Proofs.Ytfnglkhhmplejaa
