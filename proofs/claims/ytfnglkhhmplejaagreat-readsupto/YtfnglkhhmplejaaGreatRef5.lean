/- Walks: the reference's terminal: bytes are sent. -/
import Derived.Test.YtfnglkhhmplejaaGreatR3
import Derived.Test.YtfnglkhhmplejaaGreatBase
namespace Go.Proofs.YtfnglkhhmplejaaGreat
open Go Go.RowKit Go.Clk

section
variable (S0 : List Nat) (w0 : World) (x : List Nat) (b : Nat) (σ : St) (w : World)

set_option maxHeartbeats 1000000 in
set_option maxRecDepth 100000 in
theorem Drain_no (h : AtR S0 w0 x b σ w) (n : Int) (hn : n < 0) :
    Calls Tryz.prog 42 #[.pointer (some ⟨b, 0, none⟩), .int .i64 n] w fun e w' => e = .returned (.tuple #[.string (str []), .int .i64 2]) ∧ AtR S0 w0 x b σ w' := by
  go_enter Tryz.func42, Tryz.ntmps42
  go_wp2
  go_ret2
  exact ⟨rfl, h⟩

set_option maxHeartbeats 2000000 in
set_option maxRecDepth 100000 in
theorem Drain_any (h : AtR S0 w0 x b σ w) (n : Int) (hn : 0 ≤ n) (hu : σ.urg.length ≤ 1099511627776) (ho : σ.out.length ≤ 256) :
    Calls Tryz.prog 42 #[.pointer (some ⟨b, 0, none⟩), .int .i64 n] w fun e w' => e = .returned (.tuple #[.string (str (σ.drain n.toNat).2), .int .i64 0]) ∧ AtR S0 w0 x b (σ.drain n.toNat).1 w' := by
  obtain ⟨i0, hi, hz0, hz1, hz2⟩ := info_parts info_u8
  go_enter Tryz.func42, Tryz.ntmps42
  go_wp2_with fail
  go_loopg [6] σ.urg.length (fun k lv wr => ∃ (j : Nat) (a : Option Addr) (cap : Nat) (ol : Option Nat), j + k = σ.urg.length ∧ lv = .slice a j cap ∧ Sl wr 5 1 (.slice a j cap) j (bys (σ.urg.take j)) ol ∧ (∀ g, ol = some g → w0.heap.size ≤ g) ∧
    AtR S0 w0 (ol.toList ++ x) b { σ with urg := σ.urg.drop j } wr ∧ (j : Int) ≤ n)
  case atStart => exact ⟨0, none, 0, none, by omega, rfl, Sl.nil w _ _, (fun g e => by cases e), h, by omega⟩
  case round =>
    obtain ⟨j, a, cap, ol, hj, rfl, hl, hol, ⟨vi, vo, vu, vn, vd, hV⟩, hjn⟩ := hrel
    clear h
    obtain ⟨ou, hsu, hub, hux, hput⟩ := hV.lens_urg
    obtain ⟨ua, ucap, rfl, hu1, hu2⟩ := hsu.shape
    simp only [List.length_drop] at hu1 hsu
    have k19 := hV.c19
    simp only [List.length_drop] at k19
    by_cases hgo : (j : Int) < n ∧ j < σ.urg.length
    · obtain ⟨g1, g2⟩ := hgo
      have hlen : 0 < σ.urg.length - j := by omega
      obtain ⟨ug, uoff, uc, he, rfl⟩ := hsu.addr hlen
      cases he
      have HE : Hid (σ.urg.drop j = σ.urg[j] :: σ.urg.drop (j + 1)) := List.drop_eq_getElem_cons g2
      have kc := (hsu.cells rfl 0 (u := .int .u8 (σ.urg[j].toNat : Int)) (by rw [HE.out]; rfl)).1
      simp only [Nat.add_zero] at kc
      have hlb := hl.alloc (.cells #[.int .u8 (σ.urg[j].toNat : Int)] 5)
      have hVb := hV.alloc (.cells #[.int .u8 (σ.urg[j].toNat : Int)] 5)
      clear hput
      have hlt := hV.lt
      have hlu := hsu.lt rfl
      go_wp2_with (at_builtin; refine wpList_append_sl rfl (.tmp 21) (.tmp 28) 33 33 rfl hlb rfl i0 (.int .u8 0) 1 Tryz.underlying33 hi hz0 hz1 hz2 rfl (.slice (some ⟨wr.heap.size, 0, none⟩) 1 1) 1 [.int .u8 (σ.urg[j].toNat : Int)] rfl ?src ?b1 ?b2 ?next)
      case src => exact (Sl.made wr [.int .u8 (σ.urg[j].toNat : Int)] 1 5 1 rfl (by simp [maxLen])).src Tryz.underlying33 (by intro u hu; simp at hu; subst hu; rfl)
      case b1 => unfold maxLen; omega
      case b2 => omega
      case next =>
        intro a' cap' w1 ol' hs1 hg1 ho1
        have hV1 := hVb.local hg1 (ol' := ol') (by simpa using ho1) hol
        have HN : Hid (∀ g, ol' = some g → w0.heap.size ≤ g) := by
          intro g e
          have := hV.2.kp.size
          rcases ho1 with h1 | ⟨h1, _⟩
          · exact hol g (by rw [← h1, e])
          · rw [h1] at e; cases e; simp; omega
        clear hVb hlb hg1 ho1 hV hsu hl k19 kc hol
        obtain ⟨ou1, hsu1, _, hux1, hput1⟩ := hV1.lens_urg
        have hsu2 : Sl w1 5 1 (.slice (some ⟨ug, uoff, none⟩) (σ.urg.length - j) ucap) (σ.urg.length - j) (bys (σ.urg.drop j)) ou1 := by simpa using hsu1
        have k19 : w1.cell? ⟨b, 19, none⟩ = some (.slice (some ⟨ug, uoff, none⟩) (σ.urg.length - j) ucap) := by simpa using hV1.c19
        have f19 := hV1.frozen 19
        clear hsu1
        go_wp2_with (refine wpList_cut rfl (.tmp 34) (.const (.int .i64 1)) 33 rfl i0 Tryz.underlying33 hi hz1 rfl hsu2 1 rfl (by omega) (by omega) ?_)
        intro a2 cap2 hs2
        have e1 : σ.urg.length - j - 1 = (σ.urg.drop (j + 1)).length := by simp; omega
        rw [e1] at hs2
        obtain ⟨_, _, hV2⟩ := hput1 w1 (.slice a2 (σ.urg.drop (j + 1)).length cap2) (σ.urg.drop (j + 1)) ou1 (grownBy_refl w1 ou1) (by rw [HE.out] at hs2; exact hs2) (.inr (.inl rfl))
        rw [e1]
        have hR2 := hV2.r
        simp only [List.length_drop] at hR2
        clear hput1 hs2 hsu2 hV2
        go_wp2
        go_roundg (gk - 1)
        case measure => omega
        case rel =>
          refine ⟨j + 1, a', cap', ol', by omega, rfl, ?_, HN.out, hR2, by omega⟩
          have e2 : bys (σ.urg.take (j + 1)) = bys (σ.urg.take j) ++ [.int .u8 (σ.urg[j].toNat : Int)] := by rw [List.take_succ_eq_append_getElem g2, bys_app]; rfl
          rw [e2]
          exact hs1.set _ _ fun g e => hV1.2.ne (by simp [e])
    · have hjm : (j : Int) = n ∨ j = σ.urg.length := by omega
      have HU : Hid (σ.urg.take j = σ.urg.take n.toNat ∧ σ.urg.drop j = σ.urg.drop n.toNat) := by
        rcases hjm with h1 | h1
        · rw [← h1]; exact ⟨rfl, rfl⟩
        · rw [h1, List.take_length, List.drop_length, List.take_of_length_le (by omega), List.drop_eq_nil_of_le (by omega)]; exact ⟨rfl, rfl⟩
      have HJ : Hid ((j : Int) = n ∨ j = σ.urg.length) := hjm
      have HL : Hid ((σ.urg.take n.toNat).length = j) := by
        show (σ.urg.take n.toNat).length = j
        rw [← HU.out.1, List.length_take]; omega
      have hR0 := hV.r
      clear hput hjm
      have : (decide ((j : Int) < n) && decide (0 < σ.urg.length - j)) = false := by
        rw [Bool.and_eq_false_iff, decide_eq_false_iff_not, decide_eq_false_iff_not]; omega
      by_cases hcase : (j : Int) < n
      · go_wp2_with fail
        go_loopg [6] σ.out.length (fun k lv w2 => ∃ (i : Nat) (a : Option Addr) (cap : Nat) (ol : Option Nat), i + k = σ.out.length ∧ lv = .slice a (j + i) cap ∧ Sl w2 5 1 (.slice a (j + i) cap) (j + i) (bys (σ.urg.take j ++ σ.out.take i)) ol ∧ (∀ g, ol = some g → w0.heap.size ≤ g) ∧
          AtR S0 w0 (ol.toList ++ x) b { σ with urg := σ.urg.drop j, out := σ.out.drop i } w2 ∧ (j + i : Int) ≤ n ∧ (σ.stopped = true → i = 0))
        case atStart => exact ⟨0, a, cap, ol, by omega, rfl, by simpa using hl, hol, hR0, by omega, fun _ => rfl⟩
        case round =>
          clear hV hsu k19 hl hR0 this hol hub hux hu1 hu2
          obtain ⟨i, a, cap, ol, hj2, rfl, hl, hol, ⟨vi, vo, vu, vn, vd, hV⟩, hjn2, hst⟩ := hrel
          obtain ⟨oo, hso, hob, hox, hput⟩ := hV.lens_out
          obtain ⟨oa, ocap, rfl, hu1, hu2⟩ := hso.shape
          simp only [List.length_drop] at hu1 hso
          have k18 := hV.c18
          simp only [List.length_drop] at k18
          have k21 := hV.c21
          by_cases hgo2 : ((j : Int) + i < n ∧ i < σ.out.length) ∧ σ.stopped = false
          · obtain ⟨⟨g1, g2⟩, g3⟩ := hgo2
            have hlen : 0 < σ.out.length - i := by omega
            obtain ⟨ug, uoff, uc, he, rfl⟩ := hso.addr hlen
            cases he
            have HE : Hid (σ.out.drop i = σ.out[i] :: σ.out.drop (i + 1)) := List.drop_eq_getElem_cons g2
            have kc := (hso.cells rfl 0 (u := .int .u8 (σ.out[i].toNat : Int)) (by rw [HE.out]; rfl)).1
            simp only [Nat.add_zero] at kc
            have hlb := hl.alloc (.cells #[.int .u8 (σ.out[i].toNat : Int)] 5)
            have hVb := hV.alloc (.cells #[.int .u8 (σ.out[i].toNat : Int)] 5)
            clear hput
            have hlt := hV.lt
            have hlu := hso.lt rfl
            go_wp2_with (at_builtin; refine wpList_append_sl rfl (.tmp 57) (.tmp 64) 33 33 rfl hlb rfl i0 (.int .u8 0) 1 Tryz.underlying33 hi hz0 hz1 hz2 rfl (.slice (some ⟨wr.heap.size, 0, none⟩) 1 1) 1 [.int .u8 (σ.out[i].toNat : Int)] rfl ?src ?b1 ?b2 ?next)
            case src => exact (Sl.made wr [.int .u8 (σ.out[i].toNat : Int)] 1 5 1 rfl (by simp [maxLen])).src Tryz.underlying33 (by intro u hu; simp at hu; subst hu; rfl)
            case b1 => unfold maxLen; omega
            case b2 => omega
            case next =>
              intro a' cap' w1 ol' hs1 hg1 ho1
              have hV1 := hVb.local hg1 (ol' := ol') (by simpa using ho1) hol
              have HN : Hid (∀ g, ol' = some g → w0.heap.size ≤ g) := by
                intro g e
                have := hV.2.kp.size
                rcases ho1 with h1 | ⟨h1, _⟩
                · exact hol g (by rw [← h1, e])
                · rw [h1] at e; cases e; simp; omega
              clear hVb hlb hg1 ho1 hV hso hl k18 kc hol
              obtain ⟨ou1, hsu1, _, hux1, hput1⟩ := hV1.lens_out
              have hsu2 : Sl w1 5 1 (.slice (some ⟨ug, uoff, none⟩) (σ.out.length - i) ocap) (σ.out.length - i) (bys (σ.out.drop i)) ou1 := by simpa using hsu1
              have k18 : w1.cell? ⟨b, 18, none⟩ = some (.slice (some ⟨ug, uoff, none⟩) (σ.out.length - i) ocap) := by simpa using hV1.c18
              have f18 := hV1.frozen 18
              clear hsu1
              go_wp2_with (refine wpList_cut rfl (.tmp 70) (.const (.int .i64 1)) 33 rfl i0 Tryz.underlying33 hi hz1 rfl hsu2 1 rfl (by omega) (by omega) ?_)
              intro a2 cap2 hs2
              have e1 : σ.out.length - i - 1 = (σ.out.drop (i + 1)).length := by simp; omega
              rw [e1] at hs2
              obtain ⟨_, _, hV2⟩ := hput1 w1 (.slice a2 (σ.out.drop (i + 1)).length cap2) (σ.out.drop (i + 1)) ou1 (grownBy_refl w1 ou1) (by rw [HE.out] at hs2; exact hs2) (.inr (.inl rfl))
              rw [e1]
              have hR2 := hV2.r
              simp only [List.length_drop] at hR2
              clear hput1 hs2 hsu2 hV2
              go_wp2
              go_roundg (gk - 1)
              case measure => omega
              case rel =>
                refine ⟨i + 1, a', cap', ol', by omega, rfl, ?_, HN.out, hR2, by omega, fun h => by rw [g3] at h; cases h⟩
                have e2 : bys (σ.urg.take j ++ σ.out.take (i + 1)) = bys (σ.urg.take j ++ σ.out.take i) ++ [.int .u8 (σ.out[i].toNat : Int)] := by rw [List.take_succ_eq_append_getElem g2, ← List.append_assoc, bys_app]; rfl
                rw [e2]
                exact hs1.set _ _ fun g e => hV1.2.ne (by simp [e])
          · have HD : Hid (σ.drain n.toNat = ({ σ with urg := σ.urg.drop j, out := σ.out.drop i }, σ.urg.take j ++ σ.out.take i)) := by
              show σ.drain n.toNat = _
              unfold St.drain
              rw [HU.out.1, HU.out.2]
              cases hst' : σ.stopped with
              | true => have := hst hst'; subst this; simp
              | false =>
                simp only [HL.out]
                have hz : (j : Int) + i = n ∨ i = σ.out.length := by
                  have := hgo2
                  simp only [hst', and_true, not_and] at this
                  omega
                have : σ.out.drop i = σ.out.drop (n.toNat - j) ∧ σ.out.take i = σ.out.take (n.toNat - j) := by
                  rcases hz with h1 | h1
                  · rw [show n.toNat - j = i by omega]; exact ⟨rfl, rfl⟩
                  · subst h1; rw [List.drop_length, List.take_length, List.drop_eq_nil_of_le (by omega), List.take_of_length_le (by omega)]; exact ⟨rfl, rfl⟩
                rw [this.1, this.2]; simp
            have HR : Hid (AtR S0 w0 x b { σ with urg := σ.urg.drop j, out := σ.out.drop i } wr) := hV.r.weaken fun g hg => by simp [hg]
            clear hput hst HU HL
            by_cases q1 : (j : Int) + i < n
            · by_cases q2 : i < σ.out.length
              · have q3 : σ.stopped = true := by
                  cases hs : σ.stopped with
                  | true => rfl
                  | false => exact absurd ⟨⟨q1, q2⟩, hs⟩ hgo2
                have q4 : 0 < σ.out.length - i := by omega
                clear hgo2
                go_wp2_with (refine wpList_string rfl (.tmp 74) 33 9 rfl Tryz.underlying33 Tryz.underlying5 Tryz.underlying9 rfl hl ?_)
                go_ret2
                rw [HD.out]
                exact ⟨rfl, HR.out⟩
              · have q4 : ¬ 0 < σ.out.length - i := by omega
                clear hgo2
                go_wp2_with (refine wpList_string rfl (.tmp 74) 33 9 rfl Tryz.underlying33 Tryz.underlying5 Tryz.underlying9 rfl hl ?_)
                go_ret2
                rw [HD.out]
                exact ⟨rfl, HR.out⟩
            · clear hgo2
              go_wp2_with (refine wpList_string rfl (.tmp 74) 33 9 rfl Tryz.underlying33 Tryz.underlying5 Tryz.underlying9 rfl hl ?_)
              go_ret2
              rw [HD.out]
              exact ⟨rfl, HR.out⟩
      · go_wp2_with fail
        go_loopg [6] 0 (fun _ lv w2 => lv = .slice a j cap ∧ Sl w2 5 1 (.slice a j cap) j (bys (σ.urg.take j)) ol ∧ AtR S0 w0 (ol.toList ++ x) b { σ with urg := σ.urg.drop j } w2)
        case atStart => exact ⟨rfl, hl, hR0⟩
        case round =>
          clear hV hsu k19 hl hR0 this hol hub hux hu1 hu2
          obtain ⟨rfl, hl, hR⟩ := hrel
          have HD : Hid (σ.drain n.toNat = ({ σ with urg := σ.urg.drop j }, σ.urg.take j)) := by
            show σ.drain n.toNat = _
            unfold St.drain
            rw [HU.out.1, HU.out.2]
            cases hst' : σ.stopped with
            | true => simp
            | false =>
              simp only [HL.out]
              rw [show n.toNat - j = 0 by omega]; simp
          have HR : Hid (AtR S0 w0 x b { σ with urg := σ.urg.drop j } wr) := hR.weaken fun g hg => by simp [hg]
          clear HU HL hR
          go_wp2_with (refine wpList_string rfl (.tmp 74) 33 9 rfl Tryz.underlying33 Tryz.underlying5 Tryz.underlying9 rfl hl ?_)
          go_ret2
          rw [HD.out]
          exact ⟨rfl, HR.out⟩
end
end Go.Proofs.YtfnglkhhmplejaaGreat
