/- Walks of the pure functions. -/
import Derived.Test.YtfnglkhhmplejaaGreatBase2
import Derived.Test.YtfnglkhhmplejaaGreatBase
import Derived.Test.YtfnglkhhmplejaaGreatRows
namespace Go.Proofs.YtfnglkhhmplejaaGreat
open Go.RowKit Go.Clk


set_option maxHeartbeats 400000 in
theorem set_any (a b : Int) (w : World) (ha : 0 ≤ a) (ha' : a < 8192) (hb : 0 < b) (hb' : b ≤ 4096) :
    Calls Tryz.prog 122 #[.int .i64 a, .int .i64 b] w fun e w' => e = .returned (.bool (bit a b)) ∧ w' = w := by
  have h0 : 0 ≤ a / b := Int.ediv_nonneg ha (by omega)
  go_enter Tryz.func122, Tryz.ntmps122
  go_wp2
  go_ret
  exact ⟨rfl, rfl⟩
set_option maxHeartbeats 400000 in
theorem next_any (a : Int) (w : World) (ha : 0 ≤ a) (ha' : a < 4611686018427387904) :
    Calls Tryz.prog 121 #[.int .i64 a] w fun e w' => e = .returned (.int .i64 (a - a % 8 + 8)) ∧ w' = w := by
  go_enter Tryz.func121, Tryz.ntmps121
  go_wp2
  go_ret
  exact ⟨rfl, rfl⟩
set_option maxHeartbeats 400000 in
theorem num_any (n : Int) (w : World) :
    Calls Tryz.prog 72 #[.int .i64 n] w fun e w' => e = .returned (.int .i64 n) ∧ w' = w := by
  go_enter Tryz.func72, Tryz.ntmps72
  go_wp2
  go_ret
  exact ⟨rfl, rfl⟩
theorem low_eq (n p : Int) (h0 : 0 < p) : n % p = if n.tmod p < 0 then n.tmod p + p else n.tmod p := by
  rw [Int.tmod_eq_emod]
  have h1 := Int.emod_lt_of_pos n h0
  have h2 := Int.emod_nonneg n (show p ≠ 0 by omega)
  by_cases h : 0 ≤ n ∨ p ∣ n
  · rw [if_pos h]; split <;> omega
  · rw [if_neg h]
    have h3 : n % p ≠ 0 := fun e => h (.inr (Int.dvd_of_emod_eq_zero e))
    rw [if_pos (by omega)]; omega
set_option maxHeartbeats 400000 in
theorem low_any (n p : Int) (w : World) (h0 : 0 < p) (h1 : p ≤ 8192) :
    Calls Tryz.prog 90 #[.int .i64 n, .int .i64 p] w fun e w' => e = .returned (.int .i64 (n % p)) ∧ w' = w := by
  have hz : (p == 0) = false := beq_eq_false_iff_ne.2 (by omega)
  have g1 : n.tmod p < p := Int.tmod_lt_of_pos n h0
  have g2 : -p < n.tmod p := by have := Int.lt_tmod_of_pos n h0; omega
  have HH : Hid (n % p = if n.tmod p < 0 then n.tmod p + p else n.tmod p) := low_eq n p h0
  go_enter Tryz.func90, Tryz.ntmps90
  go_wp2
  all_goals go_ret
  · exact ⟨ret_int (by rw [HH.out, if_pos ‹_›]), rfl⟩
  · exact ⟨ret_int (by rw [HH.out, if_neg (by omega)]), rfl⟩
set_option maxHeartbeats 400000 in
theorem pick_any (c n : Int) (w : World) (h0 : 0 < n) (h1 : n ≤ 4) (hc : -9223372036854775808 ≤ c) (hc' : c ≤ 9223372036854775807) :
    Calls Tryz.prog 45 #[.int .i64 c, .int .i64 n] w fun e w' => e = .returned (.int .i64 (pickN c n)) ∧ w' = w := by
  have hz : (n == 0) = false := beq_eq_false_iff_ne.2 (by omega)
  by_cases hneg : c < 0
  · have h3 : 0 ≤ -(c + 1) := by omega
    go_enter Tryz.func45, Tryz.ntmps45
    go_wp2
    all_goals go_ret
    exact ⟨ret_int (by unfold pickN; rw [if_pos hneg, ← Int.neg_tmod, Int.tmod_eq_emod_of_nonneg h3]), rfl⟩
  · go_enter Tryz.func45, Tryz.ntmps45
    go_wp2
    all_goals go_ret
    exact ⟨ret_int (by unfold pickN; rw [if_neg (by omega)]), rfl⟩
end Go.Proofs.YtfnglkhhmplejaaGreat
namespace Go.Proofs.YtfnglkhhmplejaaGreat
open Go Go.RowKit Go.Clk

def rtl (σ : St) (vi vo vu vn vd : Value) : List Value :=
  [vi, vo, vu, .int .i64 σ.col, .bool σ.stopped, .bool σ.held, .bool σ.quoted, vn, .bool σ.reads, .bool σ.ended, .int .i64 σ.n, vd, .int .i64 σ.wait]
def rfs (σ : St) (vi vo vu vn vd : Value) : List Fld :=
  [⟨118, 4, vi, σ.inq.length, ents σ.inq⟩, ⟨5, 1, vo, σ.out.length, bys σ.out⟩, ⟨5, 1, vu, σ.urg.length, bys σ.urg⟩, ⟨3, 1, vn, σ.noted.length, i64s σ.noted⟩, ⟨5, 1, vd, σ.data.length, bys σ.data⟩]

/-- The reference's terminal with these values in its slices' cells. -/
def AtV (S0 : List Nat) (w0 : World) (x : List Nat) (b : Nat) (σ : St) (vi vo vu vn vd : Value) (w : World) : Prop :=
  σ.ss.length = 17 ∧ AtO S0 w0 x b 103 (i64s σ.ss ++ rtl σ vi vo vu vn vd) (rfs σ vi vo vu vn vd) w
def AtR (S0 : List Nat) (w0 : World) (x : List Nat) (b : Nat) (σ : St) (w : World) : Prop := ∃ vi vo vu vn vd, AtV S0 w0 x b σ vi vo vu vn vd w

section
variable {S0 : List Nat} {w0 w : World} {x : List Nat} {b : Nat} {σ : St} {vi vo vu vn vd : Value}
theorem AtV.lt (h : AtV S0 w0 x b σ vi vo vu vn vd w) : b < w.heap.size := h.2.lt
theorem AtV.frozen (h : AtV S0 w0 x b σ vi vo vu vn vd w) (i : Nat) : w.frozen? ⟨b, i, none⟩ = false := h.2.frozen i
theorem AtV.head (h : AtV S0 w0 x b σ vi vo vu vn vd w) (k : Nat) (hk : k < 17) : w.cell? ⟨b, k, none⟩ = some (.int .i64 (gt σ.ss k)) := cell_head h.2 h.1 k hk
theorem AtV.ci (h : AtV S0 w0 x b σ vi vo vu vn vd w) : w.cell? ⟨b, 0, none⟩ = some (.int .i64 σ.i) := h.head 0 (by omega)
theorem AtV.co (h : AtV S0 w0 x b σ vi vo vu vn vd w) : w.cell? ⟨b, 1, none⟩ = some (.int .i64 σ.o) := h.head 1 (by omega)
theorem AtV.cl (h : AtV S0 w0 x b σ vi vo vu vn vd w) : w.cell? ⟨b, 2, none⟩ = some (.int .i64 σ.l) := h.head 2 (by omega)
theorem AtV.c17 (h : AtV S0 w0 x b σ vi vo vu vn vd w) : w.cell? ⟨b, 17, none⟩ = some vi := cell_tail h.2 h.1 0 rfl
theorem AtV.c18 (h : AtV S0 w0 x b σ vi vo vu vn vd w) : w.cell? ⟨b, 18, none⟩ = some vo := cell_tail h.2 h.1 1 rfl
theorem AtV.c19 (h : AtV S0 w0 x b σ vi vo vu vn vd w) : w.cell? ⟨b, 19, none⟩ = some vu := cell_tail h.2 h.1 2 rfl
theorem AtV.c20 (h : AtV S0 w0 x b σ vi vo vu vn vd w) : w.cell? ⟨b, 20, none⟩ = some (.int .i64 σ.col) := cell_tail h.2 h.1 3 rfl
theorem AtV.c21 (h : AtV S0 w0 x b σ vi vo vu vn vd w) : w.cell? ⟨b, 21, none⟩ = some (.bool σ.stopped) := cell_tail h.2 h.1 4 rfl
theorem AtV.c22 (h : AtV S0 w0 x b σ vi vo vu vn vd w) : w.cell? ⟨b, 22, none⟩ = some (.bool σ.held) := cell_tail h.2 h.1 5 rfl
theorem AtV.c23 (h : AtV S0 w0 x b σ vi vo vu vn vd w) : w.cell? ⟨b, 23, none⟩ = some (.bool σ.quoted) := cell_tail h.2 h.1 6 rfl
theorem AtV.c24 (h : AtV S0 w0 x b σ vi vo vu vn vd w) : w.cell? ⟨b, 24, none⟩ = some vn := cell_tail h.2 h.1 7 rfl
theorem AtV.c25 (h : AtV S0 w0 x b σ vi vo vu vn vd w) : w.cell? ⟨b, 25, none⟩ = some (.bool σ.reads) := cell_tail h.2 h.1 8 rfl
theorem AtV.c26 (h : AtV S0 w0 x b σ vi vo vu vn vd w) : w.cell? ⟨b, 26, none⟩ = some (.bool σ.ended) := cell_tail h.2 h.1 9 rfl
theorem AtV.c27 (h : AtV S0 w0 x b σ vi vo vu vn vd w) : w.cell? ⟨b, 27, none⟩ = some (.int .i64 σ.n) := cell_tail h.2 h.1 10 rfl
theorem AtV.c28 (h : AtV S0 w0 x b σ vi vo vu vn vd w) : w.cell? ⟨b, 28, none⟩ = some vd := cell_tail h.2 h.1 11 rfl
theorem AtV.c29 (h : AtV S0 w0 x b σ vi vo vu vn vd w) : w.cell? ⟨b, 29, none⟩ = some (.int .i64 σ.wait) := cell_tail h.2 h.1 12 rfl
theorem AtV.alloc (h : AtV S0 w0 x b σ vi vo vu vn vd w) (o : Obj) : AtV S0 w0 x b σ vi vo vu vn vd (w.alloc o) := ⟨h.1, h.2.alloc o⟩
theorem AtV.drewN (h : AtV S0 w0 x b σ vi vo vu vn vd w) (n : Nat) : AtV S0 w0 x b σ vi vo vu vn vd (w.drewN n) := ⟨h.1, h.2.drewN n⟩
theorem AtV.r (h : AtV S0 w0 x b σ vi vo vu vn vd w) : AtR S0 w0 x b σ w := ⟨vi, vo, vu, vn, vd, h⟩
theorem AtV.s_col (h : AtV S0 w0 x b σ vi vo vu vn vd w) (v : Int) : AtV S0 w0 x b { σ with col := v } vi vo vu vn vd (w.setCell ⟨b, 20, none⟩ (.int .i64 v)) := ⟨h.1, set_tail h.2 h.1 3 _⟩
theorem AtV.s_stopped (h : AtV S0 w0 x b σ vi vo vu vn vd w) (v : Bool) : AtV S0 w0 x b { σ with stopped := v } vi vo vu vn vd (w.setCell ⟨b, 21, none⟩ (.bool v)) := ⟨h.1, set_tail h.2 h.1 4 _⟩
theorem AtV.s_held (h : AtV S0 w0 x b σ vi vo vu vn vd w) (v : Bool) : AtV S0 w0 x b { σ with held := v } vi vo vu vn vd (w.setCell ⟨b, 22, none⟩ (.bool v)) := ⟨h.1, set_tail h.2 h.1 5 _⟩
theorem AtV.s_quoted (h : AtV S0 w0 x b σ vi vo vu vn vd w) (v : Bool) : AtV S0 w0 x b { σ with quoted := v } vi vo vu vn vd (w.setCell ⟨b, 23, none⟩ (.bool v)) := ⟨h.1, set_tail h.2 h.1 6 _⟩
theorem AtV.s_set (h : AtV S0 w0 x b σ vi vo vu vn vd w) (k : Nat) (hk : k < 17) (v : Int) : AtV S0 w0 x b { σ with ss := σ.ss.set k v } vi vo vu vn vd (w.setCell ⟨b, k, none⟩ (.int .i64 v)) :=
  ⟨by simp [h.1], set_head h.2 h.1 k hk v⟩
/-- The output queue: what it is, and when it has turned and lies in its cell. -/
theorem AtV.lens_out (h : AtV S0 w0 x b σ vi vo vu vn vd w) : ∃ o, Sl w 5 1 vo σ.out.length (bys σ.out) o ∧ o ≠ some b ∧ (∀ g, o = some g → g ∉ x) ∧
    ∀ (w1 : World) (v' : Value) (xs : List UInt8) (o' : Option Nat), w.grownBy w1 o → Sl w1 5 1 v' xs.length (bys xs) o' → (o' = none ∨ o' = o ∨ ∃ g, o' = some g ∧ w.heap.size ≤ g) →
      w1.cell? ⟨b, 18, none⟩ = some vo ∧ w1.frozen? ⟨b, 18, none⟩ = false ∧ AtV S0 w0 x b { σ with out := xs } vi v' vu vn vd (w1.setCell ⟨b, 18, none⟩ v') := by
  obtain ⟨o, h1, h2, h3, _, h5⟩ := h.2.lens 1 rfl
  refine ⟨o, h1, h2, h3, fun w1 v' xs o' hg hs ho => ?_⟩
  have := h5 w1 ⟨_, 1, v', xs.length, bys xs⟩ o' hg hs ho
  exact ⟨cell_tail this h.1 1 rfl, this.frozen _, h.1, set_tail this h.1 1 v'⟩
theorem AtV.lens_urg (h : AtV S0 w0 x b σ vi vo vu vn vd w) : ∃ o, Sl w 5 1 vu σ.urg.length (bys σ.urg) o ∧ o ≠ some b ∧ (∀ g, o = some g → g ∉ x) ∧
    ∀ (w1 : World) (v' : Value) (xs : List UInt8) (o' : Option Nat), w.grownBy w1 o → Sl w1 5 1 v' xs.length (bys xs) o' → (o' = none ∨ o' = o ∨ ∃ g, o' = some g ∧ w.heap.size ≤ g) →
      w1.cell? ⟨b, 19, none⟩ = some vu ∧ w1.frozen? ⟨b, 19, none⟩ = false ∧ AtV S0 w0 x b { σ with urg := xs } vi vo v' vn vd (w1.setCell ⟨b, 19, none⟩ v') := by
  obtain ⟨o, h1, h2, h3, _, h5⟩ := h.2.lens 2 rfl
  refine ⟨o, h1, h2, h3, fun w1 v' xs o' hg hs ho => ?_⟩
  have := h5 w1 ⟨_, 1, v', xs.length, bys xs⟩ o' hg hs ho
  exact ⟨cell_tail this h.1 2 rfl, this.frozen _, h.1, set_tail this h.1 2 v'⟩
theorem AtV.lens_inq (h : AtV S0 w0 x b σ vi vo vu vn vd w) : ∃ o, Sl w 118 4 vi σ.inq.length (ents σ.inq) o ∧ o ≠ some b ∧ (∀ g, o = some g → g ∉ x) ∧
    ∀ (w1 : World) (v' : Value) (xs : List Ent) (o' : Option Nat), w.grownBy w1 o → Sl w1 118 4 v' xs.length (ents xs) o' → (o' = none ∨ o' = o ∨ ∃ g, o' = some g ∧ w.heap.size ≤ g) →
      w1.cell? ⟨b, 17, none⟩ = some vi ∧ w1.frozen? ⟨b, 17, none⟩ = false ∧ AtV S0 w0 x b { σ with inq := xs } v' vo vu vn vd (w1.setCell ⟨b, 17, none⟩ v') := by
  obtain ⟨o, h1, h2, h3, _, h5⟩ := h.2.lens 0 rfl
  refine ⟨o, h1, h2, h3, fun w1 v' xs o' hg hs ho => ?_⟩
  have := h5 w1 ⟨_, 4, v', xs.length, ents xs⟩ o' hg hs ho
  exact ⟨cell_tail this h.1 0 rfl, this.frozen _, h.1, set_tail this h.1 0 v'⟩
theorem AtR.rebase (h : AtR S0 w0 x b σ w) : ∃ S, AtR S w x b σ w ∧ (∀ k, k ∈ S → k < w.heap.size) ∧ (∀ g, g ∈ x → g ∉ S) ∧ (∀ k, k ∈ S → k ∈ S0 ∨ w0.heap.size ≤ k) ∧ ∀ σ' w', AtR S w x b σ' w' → AtR S0 w0 x b σ' w' := by
  obtain ⟨vi, vo, vu, vn, vd, hl, h⟩ := h
  obtain ⟨S, h1, h2, h3, h4, h5⟩ := h.rebase
  exact ⟨S, ⟨vi, vo, vu, vn, vd, hl, h1⟩, h2, h3, h4, fun σ' w' ⟨vi', vo', vu', vn', vd', hl', h'⟩ => ⟨vi', vo', vu', vn', vd', hl', h5 _ _ _ h'⟩⟩
theorem AtV.fresh (h : AtV S0 w0 x b σ vi vo vu vn vd w) {w1 : World} (hg : w.grownBy w1 none) {oc : Option Nat} (ho : oc = none ∨ oc = some w.heap.size ∧ w.heap.size < w1.heap.size) : AtV S0 w0 (oc.toList ++ x) b σ vi vo vu vn vd w1 := ⟨h.1, h.2.fresh hg ho⟩
theorem AtV.adopt_out (h : AtV S0 w0 x b σ vi vo vu vn vd w) (v' : Value) (xs : List UInt8) (o' : Option Nat) (y : List Nat) (hs' : Sl w 5 1 v' xs.length (bys xs) o') (hg : ∀ g, o' = some g → g ∈ x ∧ (g ∈ S0 ∨ w0.heap.size ≤ g) ∧ g ∉ y) (hy : ∀ z, z ∈ y → z ∈ x) :
    AtV S0 w0 y b { σ with out := xs } vi v' vu vn vd (w.setCell ⟨b, 18, none⟩ v') := by
  have := h.2.adopt 1 (by simp [rfs]) ⟨_, 1, v', xs.length, bys xs⟩ o' y hs' hg hy
  exact ⟨h.1, set_tail this h.1 1 v'⟩
theorem AtV.local {ol ol' : Option Nat} (h : AtV S0 w0 (ol.toList ++ x) b σ vi vo vu vn vd w) {w1 : World} (hg : w.grownBy w1 ol) (ho : ol' = ol ∨ ol' = some w.heap.size ∧ w.heap.size < w1.heap.size) (hn : ∀ g, ol = some g → w0.heap.size ≤ g) :
    AtV S0 w0 (ol'.toList ++ x) b σ vi vo vu vn vd w1 := ⟨h.1, h.2.local hg ho hn⟩
theorem AtV.boxed (h : AtV S0 w0 x b σ vi vo vu vn vd w) (o : Obj) : AtV S0 w0 (w.heap.size :: x) b σ vi vo vu vn vd (w.alloc o) :=
  ⟨h.1, h.2.avoid (h.2.kp.alloc o) (by simp) (fun k hk _ => Below.heap_alloc w o k hk) (Nat.le_refl _) (by simp)⟩
theorem AtR.boxed (h : AtR S0 w0 x b σ w) (o : Obj) : AtR S0 w0 (w.heap.size :: x) b σ (w.alloc o) := by
  obtain ⟨vi, vo, vu, vn, vd, h⟩ := h
  exact ⟨vi, vo, vu, vn, vd, h.boxed o⟩
theorem AtR.weaken {y : List Nat} (h : AtR S0 w0 x b σ w) (hy : ∀ g, g ∈ y → g ∈ x) : AtR S0 w0 y b σ w := by
  obtain ⟨vi, vo, vu, vn, vd, hl, h⟩ := h
  exact ⟨vi, vo, vu, vn, vd, hl, h.weaken hy⟩
theorem AtR.kp (h : AtR S0 w0 x b σ w) : Kp S0 w0 w := by obtain ⟨vi, vo, vu, vn, vd, hl, h⟩ := h; exact h.kp
end
end Go.Proofs.YtfnglkhhmplejaaGreat
namespace Go.Proofs.YtfnglkhhmplejaaGreat
open Go Go.RowKit Go.Clk

set_option maxHeartbeats 400000 in
theorem out_any (b : Nat) (s k : Int) (w : World) (hc : w.cell? ⟨b, 1, none⟩ = some (.int .i64 s)) (h0 : 0 ≤ s) (h1 : s < 8192) (hk : 0 < k) (hk' : k ≤ 4096) :
    Calls Tryz.prog 119 #[.pointer (some ⟨b, 0, none⟩), .int .i64 k] w fun e w' => e = .returned (.bool (bit s k)) ∧ w' = w := by
  go_enter Tryz.func119, Tryz.ntmps119
  go_wp2_with (first | (go_at_call 122; refine (set_any _ _ _ (by omega) (by omega) (by omega) (by omega)).mono ?_; rintro e w' ⟨rfl, rfl⟩))
  go_ret
  exact ⟨rfl, rfl⟩
set_option maxHeartbeats 400000 in
theorem in_any (b : Nat) (s k : Int) (w : World) (hc : w.cell? ⟨b, 0, none⟩ = some (.int .i64 s)) (h0 : 0 ≤ s) (h1 : s < 8192) (hk : 0 < k) (hk' : k ≤ 4096) :
    Calls Tryz.prog 124 #[.pointer (some ⟨b, 0, none⟩), .int .i64 k] w fun e w' => e = .returned (.bool (bit s k)) ∧ w' = w := by
  go_enter Tryz.func124, Tryz.ntmps124
  go_wp2_with (first | (go_at_call 122; refine (set_any _ _ _ (by omega) (by omega) (by omega) (by omega)).mono ?_; rintro e w' ⟨rfl, rfl⟩))
  go_ret
  exact ⟨rfl, rfl⟩
set_option maxHeartbeats 400000 in
theorem local_any (b : Nat) (s k : Int) (w : World) (hc : w.cell? ⟨b, 2, none⟩ = some (.int .i64 s)) (h0 : 0 ≤ s) (h1 : s < 8192) (hk : 0 < k) (hk' : k ≤ 4096) :
    Calls Tryz.prog 89 #[.pointer (some ⟨b, 0, none⟩), .int .i64 k] w fun e w' => e = .returned (.bool (bit s k)) ∧ w' = w := by
  go_enter Tryz.func89, Tryz.ntmps89
  go_wp2_with (first | (go_at_call 122; refine (set_any _ _ _ (by omega) (by omega) (by omega) (by omega)).mono ?_; rintro e w' ⟨rfl, rfl⟩))
  go_ret
  exact ⟨rfl, rfl⟩

set_option maxHeartbeats 1000000 in
set_option maxRecDepth 100000 in
theorem sent_any (S0 : List Nat) (w0 : World) (x : List Nat) (b : Nat) (σ : St) (c : UInt8) (w : World) (h : AtR S0 w0 x b σ w) {C : Int} (ok : Ok σ C) (hC : C ≤ 2305843009213693952) (hl : σ.out.length ≤ 100000) :
    Calls Tryz.prog 120 #[.pointer (some ⟨b, 0, none⟩), .int .u8 c.toNat] w fun e w' => e = .returned (.tuple #[]) ∧ AtR S0 w0 x b (σ.sent c) w' := by
  obtain ⟨i0, hi, hz0, hz1, hz2⟩ := info_parts info_u8
  obtain ⟨vi, vo, vu, vn, vd, h⟩ := h
  have h' := h.alloc (.cells #[.int .u8 c.toNat] 5)
  obtain ⟨oo, hs, hob, _, hput⟩ := h'.lens_out
  obtain ⟨a, cap, rfl, hl1, hl2⟩ := hs.shape
  have hcell := h.c18
  have hfr := h.frozen 18
  have o0 := ok.o0; have o1 := ok.o1; have c0 := ok.c0; have c1 := ok.c1
  have hlt := h.lt
  go_enter Tryz.func120, Tryz.ntmps120
  go_wp2_with (at_builtin; refine wpList_append_sl rfl (.tmp 10) (.tmp 12) 33 33 rfl hs rfl i0 (.int .u8 0) 1 Tryz.underlying33 hi hz0 hz1 hz2 rfl (.slice (some ⟨w.heap.size, 0, none⟩) 1 1) 1 [.int .u8 c.toNat] rfl ?src ?b1 ?b2 ?next)
  case src => exact (Sl.made w [.int .u8 c.toNat] 1 5 1 rfl (by simp [maxLen])).src Tryz.underlying33 (by intro u hu; simp at hu; subst hu; rfl)
  case b1 => unfold maxLen; omega
  case b2 => omega
  case next =>
    intro a' cap' w1 oz hs1 hg1 ho1
    obtain ⟨q2, q3, hV⟩ := hput w1 (.slice a' (σ.out.length + 1) cap') (σ.out ++ [c]) oz hg1 (by simpa [bys_app, bys] using hs1) (by rcases ho1 with h1 | ⟨h1, _⟩; exact .inr (.inl h1); exact .inr (.inr ⟨_, h1, by simp⟩))
    clear hput hs hs1 hg1 ho1 h' h hcell hfr
    go_wp2_with fail
    generalize w1.setCell ⟨b, 18, none⟩ (.slice a' (σ.out.length + 1) cap') = W at hV ⊢
    clear q2 q3
    refine (out_any b σ.o 1 W hV.co o0 o1 (by omega) (by omega)).mono ?_
    rintro e W1 ⟨rfl, rfl⟩
    go_wp2_with fail
    refine (out_any b σ.o 16 W1 hV.co o0 o1 (by omega) (by omega)).mono ?_
    rintro e W ⟨rfl, rfl⟩
    have k20 := hV.c20
    have f20 := hV.frozen 20
    have HE : Hid (∀ v : Int, moved σ.o σ.col c = v → AtR S0 w0 x b (σ.sent c) (W.setCell ⟨b, 20, none⟩ (.int .i64 v))) := by
      intro v hv
      have := (hV.s_col v).r
      unfold St.sent; rw [hv]; exact this
    have HS : Hid (moved σ.o σ.col c = σ.col → AtR S0 w0 x b (σ.sent c) W) := by
      intro hv
      have := hV.r
      unfold St.sent; rw [hv]; exact this
    clear hV ok
    go_wp2_with (go_at_call 121; refine (next_any _ _ (by omega) (by omega)).mono ?_; rintro e w' ⟨rfl, rfl⟩)
    all_goals go_end0
    · exact ⟨rfl, HE.out _ (mv8p ‹_› ‹_›)⟩
    · exact ⟨rfl, HS.out (mv8n ‹_› ‹_›)⟩
    · exact ⟨rfl, HE.out _ (mv9 ‹_› ‹_›)⟩
    · exact ⟨rfl, HE.out _ (mv13 ‹_› ‹_› ‹_›)⟩
    · exact ⟨rfl, HE.out _ (mv10a ‹_› ‹_› ‹_› ‹_› ‹_› ‹_›)⟩
    · exact ⟨rfl, HS.out (mv10b ‹_› ‹_› ‹_› ‹_› ‹_›)⟩
    · exact ⟨rfl, HS.out (mv10c ‹_› ‹_› ‹_› ‹_› ‹_›)⟩
    · exact ⟨rfl, HE.out _ (mvp ‹_› ‹_› ‹_› ‹_› ‹_› ‹_›)⟩
    · exact ⟨rfl, HS.out (mvd ‹_› ‹_› ‹_› ‹_› ‹_› ‹_›)⟩
    · exact ⟨rfl, HS.out (mvc ‹_› ‹_› ‹_› ‹_› ‹_›)⟩
end Go.Proofs.YtfnglkhhmplejaaGreat
