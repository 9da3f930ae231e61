/- Walks: the program: some bytes, again and again. -/
import Derived.Test.YtfnglkhhmplejaaGreatP0
import Derived.Lib.MakeNoZero
import Derived.Laws.CopyOwn
import Derived.Deep.RegionLaw
namespace Go.Clk
open Go
/-- These bytes, so often. -/
def repL (l : List UInt8) (n : Nat) : List UInt8 := (List.replicate n l).flatten
theorem repL_len (l : List UInt8) (n : Nat) : (repL l n).length = l.length * n := by
  unfold repL; rw [List.length_flatten, List.map_replicate, List.sum_replicate_nat, Nat.mul_comm]
theorem repL_add (l : List UInt8) (n m : Nat) : repL l (n + m) = repL l n ++ repL l m := by
  unfold repL; rw [← List.replicate_append_replicate, List.flatten_append]
theorem repL_take (l : List UInt8) (n q m : Nat) (hq : l.length ∣ q) (hN : q + m ≤ l.length * n) : (repL l n).take q ++ (repL l n).take m = (repL l n).take (q + m) := by
  obtain ⟨t, rfl⟩ := hq
  by_cases hp : l.length = 0
  · have : l = [] := List.eq_nil_of_length_eq_zero hp
    subst this
    have e : repL [] n = [] := List.eq_nil_of_length_eq_zero (by rw [repL_len]; simp)
    rw [e]; simp
  have ht : t ≤ n := Nat.le_of_mul_le_mul_left (show l.length * t ≤ l.length * n by omega) (by omega)
  obtain ⟨r, rfl⟩ : ∃ r, n = t + r := ⟨n - t, by omega⟩
  have e1 : repL l (t + r) = repL l t ++ repL l r := repL_add l t r
  have e2 : repL l (t + r) = repL l r ++ repL l t := by rw [Nat.add_comm]; exact repL_add l r t
  have h1 : ((repL l t ++ repL l r).take (l.length * t)) = repL l t := by rw [← repL_len]; exact List.take_left
  have h2 : (repL l r ++ repL l t).take m = (repL l r).take m := List.take_append_of_le_length (by rw [repL_len]; rw [Nat.mul_add] at hN; omega)
  have h3 : (repL l t ++ repL l r).take (l.length * t + m) = repL l t ++ (repL l r).take m := by
    rw [← repL_len, List.take_length_add_append]
  conv => lhs; rw [e1, h1, ← e1, e2, h2]
  rw [e1, h3]
end Go.Clk
namespace Go.Proofs.YtfnglkhhmplejaaGreat
open Go Go.RowKit Go.Clk

theorem and32 (k : Int) (h0 : 0 ≤ k) (h1 : k < 4294967296) : bits BinOp.and IntKind.u64 k 4294967295 = k := by
  rw [u64_and k 4294967295 (by omega) (by omega) (by omega) (by omega)]
  have := Nat.and_two_pow_sub_one_eq_mod k.toNat 32
  have e2 : (4294967295 : Int).toNat = 2 ^ 32 - 1 := rfl
  rw [e2, this]; omega
set_option maxHeartbeats 1000000 in
set_option maxRecDepth 100000 in
theorem Mul_lit (p : Int) (hp : p = 1 ∨ p = 3) (k : Int) (h1 : 1 ≤ k) (h8 : k ≤ 128) (w : World) :
    Calls Tryz.prog 162 #[.int .u64 p, .int .u64 k] w fun e w' => e = .returned (.tuple #[.int .u64 0, .int .u64 (p * k)]) ∧ w' = w := by
  have e0 : bits BinOp.and IntKind.u64 0 4294967295 = 0 := by kernel_rfl
  have ek := and32 k (by omega) (by omega)
  have z : k / 4294967296 = 0 := by omega
  rcases hp with rfl | rfl
  · have e1 : bits BinOp.and IntKind.u64 1 4294967295 = 1 := by kernel_rfl
    go_enter Tryz.func162, Tryz.ntmps162
    go_wp2
    go_ret2
    exact ⟨by rw [Int.one_mul]; rfl, rfl⟩
  · have e1 : bits BinOp.and IntKind.u64 3 4294967295 = 3 := by kernel_rfl
    have z2 : 3 * k / 4294967296 = 0 := by omega
    have z3 : bits BinOp.and IntKind.u64 (3 * k) 4294967295 = 3 * k := and32 (3 * k) (by omega) (by omega)
    go_enter Tryz.func162, Tryz.ntmps162
    go_wp2
    go_ret2
    exact ⟨rfl, rfl⟩

theorem wrap_small (n : Int) (h0 : 0 ≤ n) (h1 : n < 9223372036854775808) : IntKind.i64.wrap n = n := by
  simp [IntKind.wrap, IntKind.bits, IntKind.signed]; omega
theorem u8_size1 : (Tryz.prog.info? 5).map (·.size) = some 1 := by kernel_rfl

set_option maxHeartbeats 2000000 in
set_option maxRecDepth 100000 in
theorem Repeat_any (l : List UInt8) (p : Nat) (hlp : l.length = p) (hp : p = 1 ∨ p = 3) (g off cap cnt : Nat) (hc1 : 1 ≤ cnt) (hc2 : cnt ≤ 128) (hcap : p ≤ cap) (w : World) (hc : ∀ j v, (bys l)[j]? = some v → w.cell? ⟨g, off + j, none⟩ = some v) (hg : g < w.heap.size) :
    Calls Tryz.prog 158 #[.slice (some ⟨g, off, none⟩) p cap, .int .i64 cnt] w fun e w' => e = .returned (.slice (some ⟨w.heap.size, 0, none⟩) (p * cnt) (p * cnt)) ∧ Sl w' 5 1 (.slice (some ⟨w.heap.size, 0, none⟩) (p * cnt) (p * cnt)) (p * cnt) (bys (repL l cnt)) (some w.heap.size) ∧ w.grownBy w' none := by
  obtain ⟨k, hk⟩ : ∃ k, p * cnt = k := ⟨_, rfl⟩
  have hki : (p : Int) * (cnt : Int) = (k : Int) := by rw [← hk]; simp
  have hk1 : p ≤ k := by rw [← hk]; exact Nat.le_mul_of_pos_right p (by omega)
  have hk2 : k ≤ 384 := by rcases hp with rfl | rfl <;> omega
  have hkp : p ∣ k := ⟨cnt, hk.symm⟩
  have hFl : (repL l cnt).length = k := by rw [repL_len, hlp, hk]
  obtain ⟨F, hF⟩ : ∃ F, repL l cnt = F := ⟨_, rfl⟩
  have HTk : Hid (∀ q m, p ∣ q → q + m ≤ k → F.take q ++ F.take m = F.take (q + m)) := by
    intro q m h1 h2
    rw [← hF]; exact repL_take l cnt q m (by rw [hlp]; exact h1) (by rw [hlp, hk]; exact h2)
  have HF0 : Hid (F.take p = l) := by
    show F.take p = l
    obtain ⟨c', rfl⟩ : ∃ c', cnt = 1 + c' := ⟨cnt - 1, by omega⟩
    rw [← hF, repL_add]
    have : repL l 1 = l := by simp [repL]
    rw [this, ← hlp, List.take_left]
  rw [hF] at hFl
  rw [hF, hk]
  have HFl : Hid (F.length = k) := hFl
  clear hFl hF
  obtain ⟨cs, hrunM, hle, hmax⟩ := Lib.run_makeNoZero (P := Tryz.prog) w #[3] 33 5 Tryz.underlying33 k (by omega)
  have hcall : (callFunc 163 #[.int .i64 (k : Int)]).run Tryz.prog w = .ok (.value (.slice (some ⟨w.heap.size, 0, none⟩) k cs.size)) ((w.alloc (.cells cs 5)).drewN 2) := by
    rw [run_callFunc_extern Tryz.func163 (by kernel_rfl) (by kernel_rfl) (by kernel_rfl) (e := Extern.BytealgMakeNoZero.makeNoZero #[3] #[33]) (by kernel_rfl), hrunM]
    rfl
  clear hrunM
  have i0 : (0 : Int) ≤ (k : Int) := by omega
  have i1 : (k : Int) ≤ (cs.size : Int) := by omega
  have ne0 : ((cnt : Int) == 0) = false := beq_eq_false_iff_ne.2 (by omega)
  have np0 : ((p : Int) == 0) = false := beq_eq_false_iff_ne.2 (by omega)
  have hpi : (p : Int) = 1 ∨ (p : Int) = 3 := by omega
  have hbl : (bys l).length = p := by rw [bys_len, hlp, Nat.mul_one]
  go_enter Tryz.func158, Tryz.ntmps158
  go_wp2_with (first | (go_at_call 162; refine (Mul_lit _ hpi _ (by omega) (by omega) _).mono ?_; rw [hki]; rintro e w' ⟨rfl, hw⟩; have hw := hw.symm; subst hw) | (refine wpList_copy_splice rfl (.tmp 58) (.tmp 59) 33 33 rfl 5 Tryz.underlying33 u8_size1 (some ⟨w.heap.size, 0, none⟩) (some ⟨g, off, none⟩) k k p cap rfl rfl w.heap.size 0 cs.toList 5 ?hg (bys l) ?hn ?hpos ?fit ?one w.heap.size w ?below (Nat.le_refl _) ?next))
  case hg => have h := heap_alloc_new w (Obj.cells cs 5); simpa using h
  case hn => rw [hbl]; simp [Nat.min_def]; omega
  case hpos => exact fun _ j v hv => hc j v hv
  case fit => rw [hbl]; simp; omega
  case one => exact bys_one l
  case below => exact ⟨rfl, rfl, rfl, by simp, fun j hj => by simp; exact Below.heap_alloc w _ j hj⟩
  case next =>
    intro w1 hw1 hb1
    have hlen0 : (bys l).length = p := hbl
    go_wp2_with fail
    go_loopg [10] k (fun r bp wr => ∃ (q : Nat) (rest : List Value), p ∣ q ∧ p ≤ q ∧ q ≤ k ∧ k - q ≤ r ∧ bp = .int .i64 q ∧ wr.heap[w.heap.size]? = some (.cells (bys (F.take q) ++ rest).toArray 5 (0, 0)) ∧ k ≤ q + rest.length ∧ Below w.heap.size w wr)
    case atStart => exact ⟨p, cs.toList.drop p, ⟨1, by omega⟩, by omega, by omega, by omega, by first | rfl | (rw [hbl]), by rw [HF0.out]; simpa [splice, hbl] using hw1.out, by simp; omega, hb1⟩
    case round =>
      obtain ⟨q, rest, qd, q1, q2, q3, rfl, hrow, hrl, hbw⟩ := hrel
      clear hw1 hb1 hcall
      have HR : Hid (wr.heap[w.heap.size]? = some (.cells (bys (F.take q) ++ rest).toArray 5 (0, 0))) := hrow
      clear hrow
      have hbt : ∀ n : Nat, n ≤ k → (bys (F.take n)).length = n := fun n hn => by rw [bys_len, Nat.mul_one, List.length_take, HFl.out]; omega
      by_cases hlt : q < k
      · have hkq : ¬ k = q := by omega
        have hqk : ¬ q = k := by omega
        have HD : Hid (wr.drew.heap[w.heap.size]? = some (.cells (bys (F.take q) ++ rest).toArray 5 (0, 0))) := HR.out
        obtain ⟨m, hm, hm1, hm2, hm3⟩ : ∃ m, Nat.min q (k - q) = m ∧ 1 ≤ m ∧ m ≤ q ∧ m ≤ k - q := ⟨min q (k - q), rfl, by omega, by omega, by omega⟩
        have HM : Hid (Nat.min q (k - q) = m) := hm
        have HV : Hid (p ∣ q + m) := by
          show p ∣ q + m
          have hm' : m = q ∨ m = k - q := by rw [← hm]; show min q (k - q) = q ∨ min q (k - q) = k - q; omega
          rcases hm' with h | h
          · rw [h]; exact Nat.dvd_add qd qd
          · rw [h, show q + (k - q) = k by omega]; exact hkp
        clear hm
        have HN : Hid ((bys (F.take m)).length = Nat.min q (k - q)) := by show (bys _).length = _; rw [HM.out]; exact hbt m (by omega)
        have HP : Hid (∀ j v, (bys (F.take m))[j]? = some v → wr.drew.cell? ((⟨w.heap.size, 0, none⟩ : Addr).add j) = some v) := by
          intro j v hv
          have hj : j < m := by have := (List.getElem?_eq_some_iff.1 hv).1; rwa [hbt m (by omega)] at this
          have hjq : j < q := by omega
          rw [Addr.add_lit, cell_of_row wr.drew w.heap.size _ _ _ _ HD.out]
          simp only [bys, List.getElem?_map, List.getElem?_take, hj, if_true] at hv
          have e2 : (bys (F.take q) ++ rest)[j]? = some v := by
            rw [List.getElem?_append_left (by rw [hbt q (by omega)]; exact hjq)]
            simp only [bys, List.getElem?_map, List.getElem?_take, hjq, if_true]
            exact hv
          simpa using e2
        have HF : Hid (q + (bys (F.take m)).length ≤ (bys (F.take q) ++ rest).length) := by
          show q + (bys _).length ≤ _
          rw [List.length_append, hbt m (by omega), hbt q (by omega)]; omega
        have HB : Hid (Below w.heap.size w wr.drew) := hbw.drew
        have HS : Hid (splice (bys (F.take q) ++ rest) q (bys (F.take m)) = bys (F.take (q + m)) ++ rest.drop m) := by
          show splice _ _ _ = _
          unfold splice
          have e1 := hbt q (by omega)
          rw [hbt m (by omega), List.take_append_of_le_length (by omega), List.take_of_length_le (by omega), ← List.append_assoc, ← bys_app, HTk.out q m qd (by omega), List.drop_append, List.drop_eq_nil_of_le (by omega), e1]
          simp
        have HG : Hid ((bys (F.take m)).length = m) := hbt m (by omega)
        clear hbt
        clear HR hbw
        go_wp2_with fail
        have hlm := HG.out
        have hqm : (q : Int) + (m : Int) ≤ 9223372036854775807 := by omega
        go_region_law (refine step_copy_splice rfl (.tmp 70) (.tmp 73) 33 33 rfl 5 Tryz.underlying33 u8_size1 (some ⟨w.heap.size, q, none⟩) (some ⟨w.heap.size, 0, none⟩) (k - q) (k - q) q k (by simp [Act.eval, Act.put]) (by simp [Act.eval, Act.put]) w.heap.size q (bys (F.take q) ++ rest) 5 HD.out (bys (F.take m)) HN.out (fun _ => ⟨rfl, _, rfl, HP.out⟩) HF.out (bys_one _) w.heap.size w HB.out (Nat.le_refl _) ?_; intro w2 hw2 hb2)
        rw [HS.out] at hw2
        clear HS HF HP HN HM HD HB HG
        go_wp2
        go_roundg (gk - 1)
        case measure => omega
        case rel => exact ⟨q + m, rest.drop m, HV.out, by omega, by omega, by omega, by rw [wrap_small _ (by omega) (by omega)]; go_num, hw2.out, by rw [List.length_drop]; omega, hb2⟩
      · obtain rfl : q = k := by omega
        have e0 : (bys F).length = q * 1 := by rw [bys_len, HFl.out]
        have HR2 := HR.out
        rw [List.take_of_length_le (by rw [HFl.out]; exact Nat.le_refl _)] at HR2
        go_wp2
        go_ret
        refine ⟨rfl, ⟨e0, .inr ⟨w.heap.size, 0, q, _, rfl, rfl, HR2, Nat.le_refl _, by unfold maxLen; omega, by simp [e0], ?_⟩⟩, ⟨hbw.os, hbw.tape, hbw.output, hbw.size, fun j hj _ => hbw.block j hj⟩⟩
        rw [← e0]
        simp
end Go.Proofs.YtfnglkhhmplejaaGreat
