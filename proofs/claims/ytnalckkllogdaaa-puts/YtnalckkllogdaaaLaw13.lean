/- Walks: the law: a script is played. -/
import Derived.Test.YtnalckkllogdaaaLaw10
import Derived.Test.YtnalckkllogdaaaLaw12
namespace Go.Proofs.Ytnalckkllogdaaa
open Go Go.RowKit Go.Clk

/-- One step of a script. -/
structure Opn where
  kind : Int
  term : Int
  n : Int
  s : ByteArray
  ss : List Int
def Opn.cells (o : Opn) : List Value := opCells o.kind o.term o.n o.s o.ss
structure Opn.Ok (o : Opn) : Prop where
  k0 : -9223372036854775808 ≤ o.kind
  k1 : o.kind ≤ 9223372036854775807
  t0 : -9223372036854775808 ≤ o.term
  t1 : o.term ≤ 9223372036854775807
  n1 : o.n ≤ 9223372036854775807
  s1 : o.s.size ≤ maxLen
  l : o.ss.length = 17
/-- The script lies in memory. -/
def Script (w : World) (sa : Option Addr) (ops : List Opn) : Prop :=
  ∀ (i : Nat) (o : Opn), ops[i]? = some o → o.Ok ∧ ∃ g off, sa = some ⟨g, off, none⟩ ∧ g < w.heap.size ∧ w.rangeAt g (off + i * 21) o.cells

theorem zeroWorld (w : World) : Wd (IP 0) w w.heap.size [] (recol w (fun _ => 1) 0) (w.alloc (.cells #[.slice none 0 0, .int .i64 0, .slice none 0 0, .slice none 0 0] 30)) := by
  refine ⟨(Kp.refl [] w).alloc _, fun k hk => recol_old hk, ⟨none, 0, none, ?_, ?_, by simp, fun g hg => by cases hg⟩, recol_new (Nat.le_refl _), fun i bt br σ hi => by simp at hi⟩
  · exact Blk.new w [.slice none 0 0, .int .i64 0, .slice none 0 0, .slice none 0 0] 30
  · exact Sl.nil _ _ _

section
variable (w : World) (sa : Option Addr) (cap : Nat) (ops : List Opn)

set_option maxHeartbeats 4000000 in
set_option maxRecDepth 100000 in
theorem plays_puts (hS : Script w sa ops) (hl : ops.length ≤ 562949953421000) :
    Calls Try.prog 4 #[.slice sa ops.length cap, .int .i64 5] w fun e w' => e = .returned (.bool true) ∧ Kp [] w w' := by
  have HS : Hid (Script w sa ops) := hS
  clear hS
  go_enter Try.func4, Try.ntmps4
  go_wp2_with fail
  refine (head_any w w.heap.size (recol w (fun _ => 1) 0) _ (zeroWorld w)).mono ?_
  rintro e W1 ⟨rfl, bt, br, σ, c1, hW1⟩
  go_wp2_with fail
  refine (more_any (IP 2048) w w.heap.size [(bt, br, σ)] c1 _ (IP.new.mono (by decide)) hW1 (by simp)).mono ?_
  rintro e W2 ⟨rfl, bt2, br2, c2, hW2⟩
  clear hW1
  go_wp2_with fail
  go_loopg [8] ops.length (fun r iv wr => ∃ (i : Nat) (ps : List (Nat × Nat × St)) (c : Nat → Nat), i + r = ops.length ∧ iv = .int .i64 i ∧ ps.length = 2 ∧ Wd (IP (2048 * (i + 1))) w w.heap.size ps c wr)
  case atStart => exact ⟨0, _, c2, by omega, rfl, rfl, by simpa using hW2⟩
  case round =>
    clear hW2
    obtain ⟨i, ps, c, hi, rfl, hp, hW⟩ := hrel
    by_cases hlt : i < ops.length
    · obtain ⟨o, ho⟩ : ∃ o, ops[i]? = some o := ⟨_, List.getElem?_eq_getElem hlt⟩
      obtain ⟨hok, g, off, rfl, hg, hr⟩ := HS.out i o ho
      have hr' : wr.rangeAt g (off + i * 21) o.cells := fun j v hv => by
        rw [← hr j v hv]
        exact hW.kp.cell hg (by simp)
      have d0 : wr.cell? ⟨g, off + i * 21, none⟩ = some (.int .i64 o.kind) := hr' 0 _ rfl
      have HR : Hid (wr.rangeAt g (off + i * 21) o.cells) := hr'
      have HO : Hid o.Ok := hok
      have hup : Wd (IP (2048 * (((i + 1 : Nat) : Int) + 1))) w w.heap.size ps c wr := hW.mono fun σ h => h.mono (by omega)
      have HUP : Hid (Wd (IP (2048 * (((i + 1 : Nat) : Int) + 1))) w w.heap.size ps c wr) := hup
      have HW : Hid (Wd (IP (2048 * (i + 1))) w w.heap.size ps c wr) := hW
      clear hr hr' hok hup hW
      have hol : o.cells.length = 21 := by unfold Opn.cells opCells; rw [List.length_append, i64s_len, HO.out.l]; rfl
      have hio : (Try.prog.info? 36).map (·.size) = some o.cells.length := by rw [hol]; exact size_op
      by_cases hk5 : 5 < o.kind
      · go_wp2
        go_roundg (gk - 1)
        case measure => omega
        case rel => exact ⟨i + 1, ps, c, by omega, by go_num, hp, HUP.out⟩
      · by_cases hk1 : o.kind < 1
        · go_wp2_with (refine wpList_load_part rfl (.tmp 38) 36 rfl g (off + i * 21) rfl o.cells _ ?hc1 Try.underlying36 rfl hio ?next1)
          case hc1 => exact HR.out
          refine (step_none _ w w.heap.size ps c _ o.kind o.term o.n o.s o.ss HUP.out hk1).mono ?_
          rintro e W4 ⟨rfl, c4, hW4⟩
          have HF : Hid (∃ (ps2 : List (Nat × Nat × St)) (cc : Nat → Nat), ps2.length = 2 ∧ Wd (IP (2048 * (((i + 1 : Nat) : Int) + 1))) w w.heap.size ps2 cc W4) := ⟨ps, c4, hp, hW4⟩
          clear hW4
          clear HW HUP HR d0
          go_wp2_with fail
          obtain ⟨ps2, cc, hp2, hW4⟩ := HF.out
          refine (looks_nil _ w w.heap.size ps2 cc _ hW4).mono ?_
          rintro e W5 ⟨rfl, rfl⟩
          clear hW4
          go_wp2
          go_roundg (gk - 1)
          case measure => omega
          case rel => exact ⟨i + 1, HF.out.choose, HF.out.choose_spec.choose, by omega, by go_num, HF.out.choose_spec.choose_spec.1, HF.out.choose_spec.choose_spec.2⟩
        · go_wp2_with (refine wpList_load_part rfl (.tmp 38) 36 rfl g (off + i * 21) rfl o.cells _ ?hc2 Try.underlying36 rfl hio ?next2)
          case hc2 => exact HR.out
          refine (step_any _ (IP (2048 * (((i + 1 : Nat) : Int) + 1))) w w.heap.size ps c _ o.kind o.term o.n o.s o.ss HW.out (fun σ h => h.mono (by omega)) (by omega) (by omega) (by omega) (by omega) HO.out.l HO.out.t0 HO.out.t1
            (fun W c2 i2 bt br σ hP hI => (does_any (2048 * (i + 1)) w.heap.size o.kind o.term o.n o.s o.ss (by omega) (by omega) (by omega) HO.out.n1 HO.out.s1 HO.out.l W c2 i2 bt br σ hP hI).mono fun e w' ⟨σ', h1, h2⟩ => ⟨σ', h1.mono (by omega), h2⟩)).mono ?_
          rintro e W4 ⟨rfl, ps4, c4, hp4, hW4⟩
          have HF : Hid (∃ (ps2 : List (Nat × Nat × St)) (cc : Nat → Nat), ps2.length = 2 ∧ Wd (IP (2048 * (((i + 1 : Nat) : Int) + 1))) w w.heap.size ps2 cc W4) := ⟨ps4, c4, by omega, hW4⟩
          clear hW4
          clear HW HUP HR d0
          go_wp2_with fail
          obtain ⟨ps2, cc, hp2, hW4⟩ := HF.out
          refine (looks_nil _ w w.heap.size ps2 cc _ hW4).mono ?_
          rintro e W5 ⟨rfl, rfl⟩
          clear hW4
          go_wp2
          go_roundg (gk - 1)
          case measure => omega
          case rel => exact ⟨i + 1, HF.out.choose, HF.out.choose_spec.choose, by omega, by go_num, HF.out.choose_spec.choose_spec.1, HF.out.choose_spec.choose_spec.2⟩
    · go_wp2_with fail
      refine (ends_any _ w w.heap.size ps c _ hW (by omega)).mono ?_
      rintro e W3 ⟨rfl, ps', c', hW3⟩
      have HF : Hid (Kp [] w W3) := hW3.kp
      clear hW3 hW
      go_wp2
      go_ret
      exact ⟨rfl, HF.out⟩
end
end Go.Proofs.Ytnalckkllogdaaa
