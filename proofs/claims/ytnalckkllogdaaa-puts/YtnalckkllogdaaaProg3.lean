/- Walks: the program: some blanks. -/
import Derived.Test.YtnalckkllogdaaaProg2
import Derived.Lib.MakeNoZero
import Derived.Laws.CopyOwn
import Derived.Deep.RegionLaw
namespace Go.Proofs.Ytnalckkllogdaaa
open Go Go.RowKit Go.Clk

set_option maxHeartbeats 1000000 in
set_option maxRecDepth 100000 in
theorem Mul_one (k : Int) (h1 : 1 ≤ k) (h8 : k ≤ 8) (w : World) :
    Calls Try.prog 89 #[.int .u64 1, .int .u64 k] w fun e w' => e = .returned (.tuple #[.int .u64 0, .int .u64 k]) ∧ w' = w := by
  have e1 : bits BinOp.and IntKind.u64 1 4294967295 = 1 := by kernel_rfl
  have e0 : bits BinOp.and IntKind.u64 0 4294967295 = 0 := by kernel_rfl
  have ek : bits BinOp.and IntKind.u64 k 4294967295 = k := by
    rw [u64_and k 4294967295 (by omega) (by omega) (by omega) (by omega)]
    have := Nat.and_two_pow_sub_one_eq_mod k.toNat 32
    have e2 : (4294967295 : Int).toNat = 2 ^ 32 - 1 := rfl
    rw [e2, this]; omega
  have z : k / 4294967296 = 0 := by omega
  go_enter Try.func89, Try.ntmps89
  go_wp2
  go_ret2
  exact ⟨rfl, rfl⟩

theorem wrap_small (n : Int) (h0 : 0 ≤ n) (h1 : n < 9223372036854775808) : IntKind.i64.wrap n = n := by
  simp [IntKind.wrap, IntKind.bits, IntKind.signed]; omega
theorem u8_size1 : (Try.prog.info? 5).map (·.size) = some 1 := by kernel_rfl

set_option maxHeartbeats 1000000 in
set_option maxRecDepth 100000 in
theorem Repeat_any (g off k : Nat) (hk1 : 1 ≤ k) (hk8 : k ≤ 8) (w : World) (hc : w.cell? ⟨g, off, none⟩ = some (.int .u8 32)) (hg : g < w.heap.size) :
    Calls Try.prog 85 #[.slice (some ⟨g, off, none⟩) 1 1, .int .i64 k] w fun e w' => e = .returned (.slice (some ⟨w.heap.size, 0, none⟩) k k) ∧ Sl w' 5 1 (.slice (some ⟨w.heap.size, 0, none⟩) k k) k (bys (List.replicate k 32)) (some w.heap.size) ∧ w.grownBy w' none := by
  obtain ⟨cs, hrunM, hle, hmax⟩ := Lib.run_makeNoZero (P := Try.prog) w #[3] 55 5 Try.underlying55 k (by omega)
  have hcall : (callFunc 90 #[.int .i64 (k : Int)]).run Try.prog w = .ok (.value (.slice (some ⟨w.heap.size, 0, none⟩) k cs.size)) ((w.alloc (.cells cs 5)).drewN 2) := by
    rw [run_callFunc_extern Try.func90 (by kernel_rfl) (by kernel_rfl) (by kernel_rfl) (e := Extern.BytealgMakeNoZero.makeNoZero #[3] #[55]) (by kernel_rfl), hrunM]
    rfl
  clear hrunM
  have i0 : (0 : Int) ≤ (k : Int) := by omega
  have i1 : (k : Int) ≤ (cs.size : Int) := by omega
  have ne0 : ((k : Int) == 0) = false := beq_eq_false_iff_ne.2 (by omega)
  go_enter Try.func85, Try.ntmps85
  go_wp2_with (first | (go_at_call 89; refine (Mul_one _ (by omega) (by omega) _).mono ?_; rintro e w' ⟨rfl, hw⟩; have hw := hw.symm; subst hw) | (refine wpList_copy_splice rfl (.tmp 58) (.tmp 59) 55 55 rfl 5 Try.underlying55 u8_size1 (some ⟨w.heap.size, 0, none⟩) (some ⟨g, off, none⟩) k k 1 1 rfl rfl w.heap.size 0 cs.toList 5 ?hg [.int .u8 32] ?hn ?hpos ?fit ?one w.heap.size w ?below (Nat.le_refl _) ?next))
  case hg => have h := heap_alloc_new w (Obj.cells cs 5); simpa using h
  case hn => simp [Nat.min_def]; omega
  case hpos =>
    intro j v hv
    match j, hv with
    | 0, hv => simp at hv; subst hv; simpa using hc
  case fit => simp; omega
  case one => intro v hv; simp at hv; subst hv; rfl
  case below => exact ⟨rfl, rfl, rfl, by simp, fun j hj => by simp; exact Below.heap_alloc w _ j hj⟩
  case next =>
    intro w1 hw1 hb1
    go_wp2_with fail
    go_loopg [10] k (fun r bp wr => ∃ (q : Nat) (rest : List Value), 1 ≤ q ∧ q ≤ k ∧ k - q ≤ r ∧ bp = .int .i64 q ∧ wr.heap[w.heap.size]? = some (.cells (bys (List.replicate q 32) ++ rest).toArray 5 (0, 0)) ∧ k ≤ q + rest.length ∧ Below w.heap.size w wr)
    case atStart => exact ⟨1, cs.toList.drop 1, by omega, by omega, by omega, rfl, by simpa [splice, bys] using hw1.out, by simp; omega, hb1⟩
    case round =>
      obtain ⟨q, rest, q1, q2, q3, rfl, hrow, hrl, hbw⟩ := hrel
      clear hw1 hb1 hcall
      have HR : Hid (wr.heap[w.heap.size]? = some (.cells (bys (List.replicate q 32) ++ rest).toArray 5 (0, 0))) := hrow
      clear hrow
      by_cases hlt : q < k
      · have hkq : ¬ k = q := by omega
        have hqk : ¬ q = k := by omega
        have HD : Hid (wr.drew.heap[w.heap.size]? = some (.cells (bys (List.replicate q 32) ++ rest).toArray 5 (0, 0))) := HR.out
        obtain ⟨m, hm, hm1, hm2, hm3⟩ : ∃ m, Nat.min q (k - q) = m ∧ 1 ≤ m ∧ m ≤ q ∧ m ≤ k - q := ⟨min q (k - q), rfl, by omega, by omega, by omega⟩
        have HM : Hid (Nat.min q (k - q) = m) := hm
        clear hm
        have hbl : ∀ n : Nat, (bys (List.replicate n 32)).length = n := fun n => by simp [bys]
        have HN : Hid ((bys (List.replicate m 32)).length = Nat.min q (k - q)) := by show (bys _).length = _; rw [HM.out]; exact hbl m
        have HP : Hid (∀ j v, (bys (List.replicate m 32))[j]? = some v → wr.drew.cell? ((⟨w.heap.size, 0, none⟩ : Addr).add j) = some v) := by
          intro j v hv
          have hj : j < m := by have := (List.getElem?_eq_some_iff.1 hv).1; rwa [hbl] at this
          have hjq : j < q := by omega
          rw [Addr.add_lit, cell_of_row wr.drew w.heap.size _ _ _ _ HD.out]
          simp only [bys, List.map_replicate, List.getElem?_replicate, hj, if_true] at hv
          simp [bys, List.getElem?_append, hjq]
          exact Option.some.inj hv
        have HF : Hid (q + (bys (List.replicate m 32)).length ≤ (bys (List.replicate q 32) ++ rest).length) := by
          show q + (bys _).length ≤ _
          rw [List.length_append, hbl, hbl]; omega
        have HB : Hid (Below w.heap.size w wr.drew) := hbw.drew
        have HS : Hid (splice (bys (List.replicate q 32) ++ rest) q (bys (List.replicate m 32)) = bys (List.replicate (q + m) 32) ++ rest.drop m) := by
          show splice _ _ _ = _
          unfold splice
          have e1 := hbl q
          rw [hbl, List.take_append_of_le_length (by omega), List.take_of_length_le (by omega), ← List.append_assoc, ← bys_app, List.replicate_append_replicate, List.drop_append, List.drop_eq_nil_of_le (by omega), e1]
          simp
        have HG : Hid ((bys (List.replicate m 32)).length = m) := hbl m
        clear hbl
        clear HR hbw
        go_wp2_with fail
        have hlm := HG.out
        have hqm : (q : Int) + (m : Int) ≤ 9223372036854775807 := by omega
        go_region_law (refine step_copy_splice rfl (.tmp 70) (.tmp 73) 55 55 rfl 5 Try.underlying55 u8_size1 (some ⟨w.heap.size, q, none⟩) (some ⟨w.heap.size, 0, none⟩) (k - q) (k - q) q k (by simp [Act.eval, Act.put]) (by simp [Act.eval, Act.put]) w.heap.size q (bys (List.replicate q 32) ++ rest) 5 HD.out (bys (List.replicate m 32)) HN.out (fun _ => ⟨rfl, _, rfl, HP.out⟩) HF.out (bys_one _) w.heap.size w HB.out (Nat.le_refl _) ?_; intro w2 hw2 hb2)
        rw [HS.out] at hw2
        clear HS HF HP HN HM HD HB HG
        go_wp2
        go_roundg (gk - 1)
        case measure => omega
        case rel => exact ⟨q + m, rest.drop m, by omega, by omega, by omega, by rw [wrap_small _ (by omega) (by omega)]; go_num, hw2.out, by rw [List.length_drop]; omega, hb2⟩
      · obtain rfl : q = k := by omega
        go_wp2
        go_ret
        refine ⟨rfl, ⟨by simp [bys], .inr ⟨w.heap.size, 0, q, _, rfl, rfl, HR.out, Nat.le_refl _, by unfold maxLen; omega, by simp [bys], ?_⟩⟩, ⟨hbw.os, hbw.tape, hbw.output, hbw.size, fun j hj _ => hbw.block j hj⟩⟩
        have e1 : (bys (List.replicate q 32)).length = q * 1 := by simp [bys]
        rw [← e1]
        simp
end Go.Proofs.Ytnalckkllogdaaa
