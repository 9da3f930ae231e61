/- Walks: the program: the tables. -/
import Derived.Test.YtfnglkhhmplejaaGreatP38
namespace Go.Proofs.YtfnglkhhmplejaaGreat
open Go Go.RowKit Go.Clk Go.Shelf
section
variable (S0 : List Nat) (w0 : World) (x : List Nat) (b : Nat) (σ : St) (w : World) (K : Int)

def rowsFlow (σ : St) : List Row := [⟨512, 0, 8, 78, #[], { σ with stopped := false }⟩, ⟨512, 0, 9, 106, #[], { σ with stopped := true }⟩]
def rowsSig (σ : St) (c : UInt8) (g1 g2 g3 : Nat) : List Row :=
  [⟨0, 1, 0, 136, #[.pointer (some ⟨g1, 0, none⟩)], (σ.raise 1).echo1 c⟩, ⟨0, 1, 1, 136, #[.pointer (some ⟨g2, 0, none⟩)], (σ.raise 2).echo1 c⟩, ⟨0, 1, 2, 136, #[.pointer (some ⟨g3, 0, none⟩)], (σ.raise 3).echo1 c⟩]
def rowsLine (σ : St) (c : UInt8) : List Row :=
  [⟨0, 2, 3, 108, #[], σ.rubs (min 1 (pend σ.inq)) c⟩,
   ⟨0, 2, 5, 109, #[], σ.kills (pend σ.inq) c⟩,
   ⟨0, 514, 4, 110, #[], σ.rubs (wordR (σ.inq.reverse.take (pend σ.inq))) c⟩,
   ⟨0, 514, 10, 111, #[], σ.quote⟩,
   ⟨0, 518, 11, 112, #[], σ.reprint c⟩,
   ⟨0, 2, 6, 113, #[], σ.lays ⟨0, true, true, 0⟩⟩,
   ⟨0, 2, 14, 114, #[], σ.lays ⟨c, true, false, 0⟩⟩,
   ⟨0, 2, 7, 114, #[], σ.lays ⟨c, true, false, 0⟩⟩,
   ⟨0, 0, 15, 115, #[], σ.plain c⟩]

set_option maxHeartbeats 1000000 in
set_option maxRecDepth 100000 in
theorem flowMeanings_any : Calls Tryz.prog 77 #[] w fun e w' => e = .returned (.slice (some ⟨w.heap.size, 0, none⟩) 2 2) ∧ w.grownBy w' none ∧ Sl w' 127 4 (.slice (some ⟨w.heap.size, 0, none⟩) 2 2) 2 (rowsC (rowsFlow σ)) (some w.heap.size) := by
  go_enter Tryz.func77, Tryz.ntmps77
  go_wp2
  go_ret
  exact ⟨rfl, ⟨rfl, rfl, rfl, by simp, fun k hk _ => Below.heap_alloc w _ k hk⟩, Sl.made w (rowsC (rowsFlow σ)) 2 127 4 rfl (by simp [maxLen])⟩

set_option maxHeartbeats 1000000 in
set_option maxRecDepth 100000 in
theorem lineMeanings_any (c : UInt8) : Calls Tryz.prog 80 #[] w fun e w' => e = .returned (.slice (some ⟨w.heap.size, 0, none⟩) 9 9) ∧ w.grownBy w' none ∧ Sl w' 127 4 (.slice (some ⟨w.heap.size, 0, none⟩) 9 9) 9 (rowsC (rowsLine σ c)) (some w.heap.size) := by
  go_enter Tryz.func80, Tryz.ntmps80
  go_wp2
  go_ret
  exact ⟨rfl, ⟨rfl, rfl, rfl, by simp, fun k hk _ => Below.heap_alloc w _ k hk⟩, Sl.made w (rowsC (rowsLine σ c)) 9 127 4 rfl (by simp [maxLen])⟩

set_option maxHeartbeats 1000000 in
theorem raise_any (n : Int) : Calls Tryz.prog 107 #[.int .i64 n] w fun e w' => e = .returned (.func (.func 136) #[] #[.pointer (some ⟨w.heap.size, 0, none⟩)]) ∧ w' = w.alloc (.cells #[.int .i64 n] 3) := by
  have hmf : ∀ (fn : Fn) (first cap : Array Value) (w : World), (Instr.makeFunc fn first cap).run Tryz.prog w = .ok (.func fn first cap) w := fun _ _ _ _ => rfl
  go_enter Tryz.func107, Tryz.ntmps107
  go_wp2
  go_ret
  exact ⟨rfl, rfl⟩

set_option maxHeartbeats 1000000 in
set_option maxRecDepth 100000 in
theorem signalMeanings_any (c : UInt8) : Calls Tryz.prog 79 #[] w fun e w' => e = .returned (.slice (some ⟨w.heap.size + 3, 0, none⟩) 3 3) ∧ w.grownBy w' none ∧ Sl w' 127 4 (.slice (some ⟨w.heap.size + 3, 0, none⟩) 3 3) 3 (rowsC (rowsSig σ c w.heap.size (w.heap.size + 1) (w.heap.size + 2))) (some (w.heap.size + 3)) ∧
    w'.cell? ⟨w.heap.size, 0, none⟩ = some (.int .i64 1) ∧ w'.cell? ⟨w.heap.size + 1, 0, none⟩ = some (.int .i64 2) ∧ w'.cell? ⟨w.heap.size + 2, 0, none⟩ = some (.int .i64 3) ∧ w'.heap.size = w.heap.size + 4 := by
  go_enter Tryz.func79, Tryz.ntmps79
  go_wp2_with (go_at_call 107; refine (raise_any _ _).mono ?_; rintro e w' ⟨rfl, hw⟩; subst hw)
  go_ret
  have hsl := Sl.made (((w.alloc (.cells #[.int .i64 1] 3)).alloc (.cells #[.int .i64 2] 3)).alloc (.cells #[.int .i64 3] 3)) (rowsC (rowsSig σ c w.heap.size (w.heap.size + 1) (w.heap.size + 2))) 3 127 4 rfl (by simp [maxLen])
  simp only [World.size_alloc] at hsl
  have h1 := Blk.new w [.int .i64 1] 3
  have h2 := Blk.new (w.alloc (.cells #[.int .i64 1] 3)) [.int .i64 2] 3
  have h3 := Blk.new ((w.alloc (.cells #[.int .i64 1] 3)).alloc (.cells #[.int .i64 2] 3)) [.int .i64 3] 3
  simp only [World.size_alloc] at h2 h3
  have k1 := (((h1.alloc (.cells #[.int .i64 2] 3)).alloc (.cells #[.int .i64 3] 3)).alloc (.cells (rowsC (rowsSig σ c w.heap.size (w.heap.size + 1) (w.heap.size + 2))).toArray 127)).cell 0 rfl
  have k2 := ((h2.alloc (.cells #[.int .i64 3] 3)).alloc (.cells (rowsC (rowsSig σ c w.heap.size (w.heap.size + 1) (w.heap.size + 2))).toArray 127)).cell 0 rfl
  have k3 := (h3.alloc (.cells (rowsC (rowsSig σ c w.heap.size (w.heap.size + 1) (w.heap.size + 2))).toArray 127)).cell 0 rfl
  exact ⟨rfl, grownBy_alloc (grownBy_alloc (grownBy_alloc (grownBy_alloc (grownBy_refl w none) _) _) _) _, hsl, k1, k2, k3, by simp⟩

set_option maxHeartbeats 1000000 in
set_option maxRecDepth 100000 in
theorem raise1_any (h : AtP S0 w0 x b σ w) (ok : Inv K σ) (hK : K + 2048 ≤ 1099511627776) (c : UInt8) (n : Int) (g : Nat) (hg : w.cell? ⟨g, 0, none⟩ = some (.int .i64 n)) :
    Calls Tryz.prog 136 #[.pointer (some ⟨b, 0, none⟩), .int .u8 c.toNat, .pointer (some ⟨g, 0, none⟩)] w fun e w' => e = .returned (.tuple #[]) ∧ AtP S0 w0 x b ((σ.raise n).echo1 c) w' := by
  have hsg := signal_any S0 w0 x b σ w K h ok (by omega) n
  have ok2 := ok.raise n
  go_enter Tryz.func136, Tryz.ntmps136
  go_wp2_with (first
    | (go_at_call 57; refine hsg.mono ?_; rintro e W ⟨rfl, hW⟩)
    | (go_at_call 103; refine (PEcho_any S0 w0 x b _ _ (K + 2048) hW ok2 hK c _ rfl).mono ?_; rintro e W2 ⟨rfl, hW2⟩))
  go_end0
  exact ⟨rfl, hW2⟩

theorem flow_fit (c : UInt8) (ok : Inv K σ) (p : Int) (h14 : p ≠ 14) (h15 : p ≠ 15) (_q0 : 0 ≤ p) : fitB σ c 512 0 p = (σ.I 512 && σ.isC c p) := by
  unfold fitB
  rw [has512 σ.i ok.s.i0 ok.s.i1, has0 σ.l ok.s.l0 ok.s.l1, Bool.true_and]
  unfold atB; rw [if_neg h14, if_neg h15]
  rfl
theorem sig_fit (c : UInt8) (ok : Inv K σ) (p : Int) (h14 : p ≠ 14) (h15 : p ≠ 15) : fitB σ c 0 1 p = (σ.L 1 && σ.isC c p) := by
  unfold fitB
  rw [has0 σ.i ok.s.i0 ok.s.i1, has1 σ.l ok.s.l0 ok.s.l1, Bool.true_and]
  unfold atB; rw [if_neg h14, if_neg h15]
  rfl
theorem flow_first (c : UInt8) (ok : Inv K σ) : (rowsFlow σ).any (Row.fit σ c) = (σ.flows c).2 ∧ ((σ.flows c).2 = true → firstRes σ c (rowsFlow σ) = (σ.flows c).1) ∧ ((σ.flows c).2 = false → firstRes σ c (rowsFlow σ) = σ ∧ (σ.flows c).1 = if σ.I 512 && σ.I 1024 then { σ with stopped := false } else σ) := by
  have f8 := flow_fit σ K c ok 8 (by decide) (by decide) (by decide)
  have f9 := flow_fit σ K c ok 9 (by decide) (by decide) (by decide)
  unfold rowsFlow firstRes St.flows
  simp only [List.any_cons, List.any_nil, List.find?_cons, List.find?_nil, Row.fit, f8, f9]
  cases σ.I 512 <;> cases σ.isC c 8 <;> cases σ.isC c 9 <;> cases σ.I 1024 <;> simp
theorem sig_first (c : UInt8) (ok : Inv K σ) (g1 g2 g3 : Nat) : (rowsSig σ c g1 g2 g3).any (Row.fit σ c) = (σ.sigs c).2 ∧ firstRes σ c (rowsSig σ c g1 g2 g3) = (σ.sigs c).1 := by
  have f0 := sig_fit σ K c ok 0 (by decide) (by decide)
  have f1 := sig_fit σ K c ok 1 (by decide) (by decide)
  have f2 := sig_fit σ K c ok 2 (by decide) (by decide)
  unfold rowsSig firstRes St.sigs
  simp only [List.any_cons, List.any_nil, List.find?_cons, List.find?_nil, Row.fit, f0, f1, f2]
  cases σ.L 1 <;> cases σ.isC c 0 <;> cases σ.isC c 1 <;> cases σ.isC c 2 <;> simp
theorem line_first (c : UInt8) (ok : Inv K σ) : firstRes σ c (rowsLine σ c) = σ.line c := by
  have l0 := ok.s.l0; have l1 := ok.s.l1; have i0 := ok.s.i0; have i1 := ok.s.i1
  have g2 : ∀ p : Int, p ≠ 14 → p ≠ 15 → fitB σ c 0 2 p = (σ.L 2 && σ.isC c p) := fun p h14 h15 => by
    unfold fitB; rw [has0 σ.i i0 i1, has2 σ.l l0 l1, Bool.true_and]; unfold atB; rw [if_neg h14, if_neg h15]; rfl
  have g514 : ∀ p : Int, p ≠ 14 → p ≠ 15 → fitB σ c 0 514 p = ((σ.L 2 && σ.L 512) && σ.isC c p) := fun p h14 h15 => by
    unfold fitB; rw [has0 σ.i i0 i1, has514 σ.l l0 l1, Bool.true_and]; unfold atB; rw [if_neg h14, if_neg h15]; rfl
  have f11 : fitB σ c 0 518 11 = (((σ.L 2 && σ.L 512) && σ.L 4) && σ.isC c 11) := by
    unfold fitB; rw [has0 σ.i i0 i1, has518 σ.l l0 l1, Bool.true_and]; unfold atB; rw [if_neg (by decide), if_neg (by decide)]; rfl
  have f14 : fitB σ c 0 2 14 = (σ.L 2 && ((c.toNat : Int) == 10)) := by
    unfold fitB; rw [has0 σ.i i0 i1, has2 σ.l l0 l1, Bool.true_and]; unfold atB; rw [if_pos rfl]; rfl
  have f15 : fitB σ c 0 0 15 = true := by
    unfold fitB; rw [has0 σ.i i0 i1, has0 σ.l l0 l1, Bool.true_and]; unfold atB; rw [if_neg (by decide), if_pos rfl]; rfl
  have f3 := g2 3 (by decide) (by decide)
  have f5 := g2 5 (by decide) (by decide)
  have f6 := g2 6 (by decide) (by decide)
  have f7 := g2 7 (by decide) (by decide)
  have f4 := g514 4 (by decide) (by decide)
  have f10 := g514 10 (by decide) (by decide)
  unfold rowsLine firstRes St.line St.edits
  simp only [List.find?_cons, Row.fit, f3, f5, f6, f7, f4, f10, f11, f14, f15]
  cases σ.L 2 with
  | false => simp
  | true =>
    simp only [Bool.true_and]
    cases σ.isC c 3 with
    | true => simp
    | false =>
      cases σ.isC c 5 with
      | true => simp
      | false =>
        cases σ.L 512 with
        | false =>
          simp only [Bool.false_and]
          cases σ.isC c 6 <;> cases ((c.toNat : Int) == 10) <;> cases σ.isC c 7 <;> simp
        | true =>
          simp only [Bool.true_and]
          cases σ.isC c 4 with
          | true => simp
          | false =>
            cases σ.isC c 10 with
            | true => simp
            | false =>
              cases σ.L 4 <;> cases σ.isC c 11 <;> cases σ.isC c 6 <;> cases ((c.toNat : Int) == 10) <;> cases σ.isC c 7 <;> simp
end
end Go.Proofs.YtfnglkhhmplejaaGreat
