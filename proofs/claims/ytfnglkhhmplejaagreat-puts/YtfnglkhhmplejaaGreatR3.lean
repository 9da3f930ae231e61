/- Walks: the reference's terminal: a byte is put out, whatever it is; several; a string. -/
import Derived.Test.YtfnglkhhmplejaaGreatRef2
import Derived.Deep.LoopGhost
import Derived.Handy
namespace Go.Proofs.YtfnglkhhmplejaaGreat
open Go Go.RowKit Go.Clk

section
variable (S0 : List Nat) (w0 : World) (x : List Nat) (b : Nat) (σ : St) (c : UInt8) (w : World) (C : Int)

set_option maxHeartbeats 1000000 in
set_option maxRecDepth 100000 in
theorem puts_blanks (h : AtR S0 w0 x b σ w) (ok : Ok σ C) (hC : C ≤ 2305843009213693000) (hl : σ.out.length ≤ 90000) (hp : bit σ.o 1 = true) (h64 : bit σ.o 64 = true) :
    Calls Tryz.prog 88 #[.pointer (some ⟨b, 0, none⟩), .int .u8 9] w fun e w' => e = .returned (.tuple #[]) ∧ AtR S0 w0 x b (σ.sents (List.replicate (8 - σ.col % 8).toNat 32)) w' := by
  obtain ⟨vi, vo, vu, vn, vd, hV⟩ := h
  have o0 := ok.o0; have o1 := ok.o1; have c0 := ok.c0; have c1 := ok.c1
  have k20 := hV.c20
  go_enter Tryz.func88, Tryz.ntmps88
  go_wp2_with (first | (go_at_call 119; refine (out_any b σ.o _ _ hV.co o0 o1 (by omega) (by omega)).mono ?_; rintro e w' ⟨rfl, rfl⟩) | (go_at_call 121; refine (next_any _ _ (by omega) (by omega)).mono ?_; rintro e w' ⟨rfl, rfl⟩))
  all_goals
    go_loopg [] (8 - σ.col % 8).toNat (fun k wr => ∃ j : Nat, j + k = (8 - σ.col % 8).toNat ∧ AtR S0 w0 x b (σ.sents (List.replicate j 32)) wr)
    case atStart => exact ⟨0, by omega, by rw [List.replicate_zero, sents_nil]; exact hV.r⟩
    case round =>
      clear k20 hV
      obtain ⟨j, hj, hR⟩ := hrel
      have hR' := hR
      obtain ⟨vi, vo, vu, vn, vd, hV⟩ := hR'
      have k20 : wr.cell? ⟨b, 20, none⟩ = some (.int .i64 (σ.col + j)) := by rw [hV.c20, sents_col, moves_blanks]
      have hlen : (σ.sents (List.replicate j 32)).out.length ≤ 90010 := by rw [sents_out]; simp; omega
      have hlen2 : (List.replicate j (32 : UInt8)).length = j := List.length_replicate
      have HK : Hid (Ok (σ.sents (List.replicate j 32)) (C + 8 * j)) := by have := ok.sents (List.replicate j 32); rw [hlen2] at this; exact this
      clear hV hlen2
      by_cases hk : σ.col + j < σ.col - σ.col % 8 + 8
      · go_wp2_with fail
        refine (sent_at S0 w0 x b (σ.sents (List.replicate j 32)) 32 _ _ _ rfl hR HK.out (by omega) (by omega)).mono ?_
        rintro e W ⟨rfl, hW⟩
        go_wp2
        go_roundg (gk - 1)
        case measure => omega
        case rel => exact ⟨j + 1, by omega, by rw [sents_app, ← List.replicate_succ'] at hW; exact hW⟩
      · go_wp2
        refine bodyPost_ret (results_none rfl _ _ _) rfl ?_
        have : (8 - σ.col % 8).toNat = j := by omega
        exact ⟨rfl, by rw [this]; exact hR⟩

theorem puts_any (h : AtR S0 w0 x b σ w) (ok : Ok σ C) (hC : C ≤ 2305843009213693000) (hl : σ.out.length ≤ 90000) (n : Int) (hn : n = (c.toNat : Int)) :
    Calls Tryz.prog 88 #[.pointer (some ⟨b, 0, none⟩), .int .u8 n] w fun e w' => e = .returned (.tuple #[]) ∧ AtR S0 w0 x b (σ.puts c) w' := by
  subst hn
  unfold St.puts become
  have lt := UInt8.toNat_lt c
  by_cases hp : bit σ.o 1 = true
  · rw [if_pos hp]
    by_cases hu : (bit σ.o 32 && decide (97 ≤ c.toNat ∧ c.toNat ≤ 122)) = true
    · rw [if_pos hu]
      simp only [Bool.and_eq_true, decide_eq_true_eq] at hu
      exact puts_upper S0 w0 x b σ c w C h ok hC hl hp hu.1 (by omega) (by omega)
    · rw [if_neg hu]
      by_cases h10 : c.toNat = 10
      · have e : c = 10 := UInt8.toNat_inj.1 (by simpa using h10)
        subst e
        by_cases h2 : bit σ.o 2 = true
        · simp only [h2]; exact puts_nl S0 w0 x b σ w C h ok hC hl hp h2
        · simp only [h2]; exact puts_nl0 S0 w0 x b σ w C h ok hC hl hp (by simpa using h2)
      · by_cases h13 : c.toNat = 13
        · have e : c = 13 := UInt8.toNat_inj.1 (by simpa using h13)
          subst e
          by_cases h8 : bit σ.o 8 = true
          · by_cases hz : σ.col = 0
            · simp only [h8, hz]
              have := puts_cr0 S0 w0 x b σ w C h ok hC hl hp h8 (by simpa using hz)
              rw [← sents_nil σ] at this
              exact this
            · by_cases h4 : bit σ.o 4 = true
              · simp only [h8, hz, h4]; exact puts_crnlb S0 w0 x b σ w C h ok hC hl hp (by simpa using hz) h4
              · simp only [h8, hz, h4]; exact puts_crb S0 w0 x b σ w C h ok hC hl hp (by simpa using hz) (by simpa using h4)
          · by_cases h4 : bit σ.o 4 = true
            · simp only [h8, h4]; exact puts_crnla S0 w0 x b σ w C h ok hC hl hp (by simpa using h8) h4
            · simp only [h8, h4]; exact puts_cra S0 w0 x b σ w C h ok hC hl hp (by simpa using h8) (by simpa using h4)
        · by_cases h9 : c.toNat = 9
          · have e : c = 9 := UInt8.toNat_inj.1 (by simpa using h9)
            subst e
            by_cases h64 : bit σ.o 64 = true
            · simp only [h64]; exact puts_blanks S0 w0 x b σ w C h ok hC hl hp h64
            · simp only [h64]; exact puts_tab S0 w0 x b σ w C h ok hC hl hp (by simpa using h64)
          · simp only [h10, h13, h9]
            have q10 : ((c.toNat : Int) == 10) = false := beq_eq_false_iff_ne.2 (by omega)
            have q13 : ((c.toNat : Int) == 13) = false := beq_eq_false_iff_ne.2 (by omega)
            have q9 : ((c.toNat : Int) == 9) = false := beq_eq_false_iff_ne.2 (by omega)
            simp only [Bool.and_eq_true, decide_eq_true_eq, not_and] at hu
            by_cases h32 : bit σ.o 32 = true
            · have := hu h32
              by_cases h97 : c.toNat < 97
              · exact puts_elseb S0 w0 x b σ c w C h ok hC hl hp (by omega) q10 q13 q9
              · exact puts_elsec S0 w0 x b σ c w C h ok hC hl hp (by omega) q10 q13 q9
            · exact puts_elsea S0 w0 x b σ c w C h ok hC hl hp (by simpa using h32) q10 q13 q9
  · rw [if_neg hp]
    exact puts_plain S0 w0 x b σ c w C h ok hC hl (by simpa using hp)
end
end Go.Proofs.YtfnglkhhmplejaaGreat
namespace Go.Proofs.YtfnglkhhmplejaaGreat
open Go Go.RowKit Go.Clk

section
variable (S0 : List Nat) (w0 : World) (x : List Nat) (b : Nat) (σ : St) (w : World) (C : Int)

set_option maxHeartbeats 1000000 in
set_option maxRecDepth 100000 in
theorem Put_any (h : AtR S0 w0 x b σ w) (ok : Ok σ C) (hC : C ≤ 1152921504606846976) (hl : σ.out.length ≤ 256) (lv : Value) (l : List UInt8) (ol : Option Nat) (hL : Sl w 5 1 lv l.length (bys l) ol) (hx : ∀ g, ol = some g → g ∈ x) (hn : l.length ≤ 10000) :
    Calls Tryz.prog 61 #[.pointer (some ⟨b, 0, none⟩), lv] w fun e w' => e = .returned (.bool (σ.put l).2) ∧ AtR S0 w0 x b (σ.put l).1 w' := by
  obtain ⟨i0, hi, hz0, hz1, hz2⟩ := info_parts info_u8
  obtain ⟨la, lcap, rfl, hl1, hl2⟩ := hL.shape
  obtain ⟨vi, vo, vu, vn, vd, hV⟩ := h
  obtain ⟨oo, hs, _, _, _⟩ := hV.lens_out
  obtain ⟨a, cap, rfl, hl3, hl4⟩ := hs.shape
  have k18 := hV.c18
  have k20 := hV.c20
  go_enter Tryz.func61, Tryz.ntmps61
  go_wp2_with (at_builtin; refine wpList_append_sl rfl (.tmp 8) (.tmp 12) 33 33 rfl (Sl.nil w 5 1) rfl i0 (.int .u8 0) 1 Tryz.underlying33 hi hz0 hz1 hz2 rfl (.slice a σ.out.length cap) σ.out.length (bys σ.out) rfl ?src ?b1 ?b2 ?next)
  case src => exact hs.src Tryz.underlying33 (bys_one _)
  case b1 => unfold maxLen; omega
  case b2 => omega
  case next =>
    intro a' cap' w1 oc hs1 hg1 ho1
    have hV1 := hV.fresh hg1 ho1
    have q20 := hV1.c20
    have hL1 : Sl w1 5 1 (.slice la l.length lcap) l.length (bys l) ol := hL.same fun g e => hg1.block g (hL.lt e) (by simp)
    obtain ⟨S, hR, hS1, hS2, _, hback⟩ := hV1.r.rebase
    have hbx : ∀ z, z ∈ x → z < w.heap.size := fun z hz => hV.2.below hz
    have hocS : ∀ g, oc = some g → g ∉ S := fun g e => hS2 g (by simp [e])
    have holS : ∀ g, ol = some g → g ∉ S := fun g e => hS2 g (by simp [hx g e])
    have HB : Hid (∀ σ' w', AtR S w1 (oc.toList ++ x) b σ' w' → AtR S0 w0 (oc.toList ++ x) b σ' w') := hback
    have HD : Hid (w.heap.size ≤ w1.heap.size ∧ w0.heap.size ≤ w.heap.size) := ⟨hg1.size, hV.2.kp.size⟩
    have HO : Hid (oc = none ∨ oc = some w.heap.size ∧ w.heap.size < w1.heap.size) := ho1
    clear hs k18 k20 hg1 hV hL hback hV1 ho1
    go_wp2_with fail
    go_loopg [7] l.length (fun k i wr => ∃ j : Nat, j + k = l.length ∧ i = .int .i64 j ∧ AtR S w1 (oc.toList ++ x) b (σ.putAll (l.take j)) wr)
    case atStart => exact ⟨0, by omega, rfl, hR⟩
    case round =>
      obtain ⟨j, hj, rfl, hRr⟩ := hrel
      clear q20 hR
      have hLr := hL1.kp hRr.kp holS
      have okj := Ok.putAll (l.take j) ok
      have lenj := putAll_out (l.take j) (σ := σ) ok.c0
      have hjl : (l.take j).length ≤ j := List.length_take_le _ _
      by_cases hlt : j < l.length
      · obtain ⟨g, off, cp, he, _⟩ := hLr.addr (by omega)
        cases he
        have kc := (hLr.cells rfl j (u := .int .u8 (l[j].toNat : Int)) (by simp [bys, List.getElem?_eq_getElem hlt])).1
        have HL : Hid (Ok (σ.putAll (l.take j)) (C + 64 * (l.take j).length) ∧ (σ.putAll (l.take j)).out.length ≤ 90000) := ⟨okj, by omega⟩
        have HC : Hid (C + 64 * (l.take j).length ≤ 2305843009213693000) := by show C + 64 * (((l.take j).length : Nat) : Int) ≤ _; omega
        clear okj lenj hLr hjl
        go_wp2_with fail
        refine (puts_any S w1 _ b (σ.putAll (l.take j)) l[j] wr _ hRr HL.out.1 HC.out HL.out.2 _ rfl).mono ?_
        rintro e W ⟨rfl, hW⟩
        go_wp2
        go_roundg (gk - 1)
        case measure => omega
        case rel => exact ⟨j + 1, by omega, by go_num, by rw [List.take_succ_eq_append_getElem hlt, putAll_snoc]; exact hW⟩
      · obtain rfl : j = l.length := by omega
        rw [List.take_length] at hRr
        have hs2 : Sl wr 5 1 (.slice a' σ.out.length cap') σ.out.length (bys σ.out) oc := hs1.kp hRr.kp hocS
        obtain ⟨vi, vo, vu, vn, vd, hV0⟩ := HB.out _ _ hRr
        have HT : Hid (∃ o c, σ.putAll l = { σ with out := o, col := c }) := putAll_back σ l
        have HP : Hid (σ.put l = if 256 < (σ.putAll l).out.length then (σ, false) else (σ.putAll l, true)) := rfl
        obtain ⟨oz, hsz, _, _, _⟩ := hV0.lens_out
        obtain ⟨az, capz, rfl, hz3, hz4⟩ := hsz.shape
        have k18 := hV0.c18
        have f18 := hV0.frozen 18
        have k20 := hV0.c20
        have f20 := hV0.frozen 20
        have hlen := putAll_out l (σ := σ) ok.c0
        have HE : Hid (AtR S0 w0 x b σ ((wr.setCell ⟨b, 18, none⟩ (.slice a' σ.out.length cap')).setCell ⟨b, 20, none⟩ (.int .i64 σ.col))) := by
          have h1 := (hV0.adopt_out (.slice a' σ.out.length cap') σ.out oc x hs2 (fun g e => ⟨by simp [e], .inr (by have := HD.out; rcases HO.out with h | ⟨h, _⟩ <;> rw [h] at e <;> cases e; omega), fun hc => by have := hbx g hc; rcases HO.out with h | ⟨h, _⟩ <;> rw [h] at e <;> cases e; omega⟩) (fun z hz => by simp [hz])).s_col σ.col
          obtain ⟨o, c, hT⟩ := HT.out
          rw [hT] at h1
          exact h1.r
        have HF : Hid (AtR S0 w0 x b (σ.putAll l) wr) := hV0.r.weaken fun g hg => by simp [hg]
        clear HT HB hocS holS hRr hs2 hV0 hsz hs1 hL1 hLr okj HD HO hbx
        generalize σ.putAll l = T at *
        by_cases hbig : 256 < T.out.length
        · go_wp2
          go_ret
          exact ⟨ret_bool (by rw [HP.out, if_pos hbig]), by rw [HP.out, if_pos hbig]; exact HE.out⟩
        · go_wp2
          go_ret
          exact ⟨ret_bool (by rw [HP.out, if_neg (by omega)]), by rw [HP.out, if_neg (by omega)]; exact HF.out⟩

set_option maxHeartbeats 1000000 in
set_option maxRecDepth 100000 in
theorem Write_any (h : AtR S0 w0 x b σ w) (ok : Ok σ C) (hC : C ≤ 1152921504606800000) (hl : σ.out.length ≤ 256) (s : ByteArray) (hs : s.size ≤ maxLen) :
    Calls Tryz.prog 41 #[.pointer (some ⟨b, 0, none⟩), .string s] w fun e w' => e = .returned (.int .i64 ((σ.write s.data.toList).2 : Nat)) ∧ AtR S0 w0 x b (σ.write s.data.toList).1 w' := by
  unfold maxLen at hs
  have hsz : s.data.toList.length = s.size := by rw [Array.length_toList]; rfl
  go_enter Tryz.func41, Tryz.ntmps41
  go_wp2_with fail
  go_loopg [5] s.size (fun k i wr => ∃ (j : Nat) (τ : St), j + k = s.size ∧ i = .int .i64 j ∧ AtR S0 w0 x b τ wr ∧ Ok τ (C + 8 * (τ.out.length - σ.out.length)) ∧ τ.out.length ≤ 256 ∧ σ.out.length ≤ τ.out.length ∧
    σ.write s.data.toList = ((τ.write (s.data.toList.drop j)).1, (τ.write (s.data.toList.drop j)).2 + j))
  case atStart => exact ⟨0, σ, by omega, rfl, h, by simpa using ok, hl, Nat.le_refl _, by simp⟩
  case round =>
    obtain ⟨j, τ, hj, rfl, hR, okt, ht, ht2, hw⟩ := hrel
    have HW : Hid (σ.write s.data.toList = ((τ.write (s.data.toList.drop j)).1, (τ.write (s.data.toList.drop j)).2 + j)) := hw
    clear hw h
    by_cases hlt : j < s.size
    · have HD : Hid (s.data.toList.drop j = s[j] :: s.data.toList.drop (j + 1)) := by
        show s.data.toList.drop j = _
        rw [List.drop_eq_getElem_cons (by omega)]; rfl
      have HO : Hid (Ok τ (C + 8 * (τ.out.length - σ.out.length))) := okt
      have hR' := hR.boxed (.cells #[.int .u8 (s[j].toNat : Int)] 5)
      clear okt
      go_wp2_with fail
      refine (Put_any S0 w0 _ b τ _ _ hR' HO.out (by omega) ht (.slice (some ⟨wr.heap.size, 0, none⟩) 1 1) [s[j]] (some wr.heap.size) (Sl.made wr [.int .u8 (s[j].toNat : Int)] 1 5 1 rfl (by simp [maxLen])) (fun g e => by cases e; simp) (by simp)).mono ?_
      rintro e W ⟨rfl, hW⟩
      by_cases hp : (τ.put [s[j]]).2 = true
      · have hq := put_ok HO.out s[j] hp
        have HQ : Hid (Ok (τ.put [s[j]]).1 (C + 8 * (τ.out.length - σ.out.length) + 8 * ((τ.put [s[j]]).1.out.length - τ.out.length)) ∧ (τ.put [s[j]]).1.out.length ≤ 256 ∧ τ.out.length ≤ (τ.put [s[j]]).1.out.length) := hq
        clear hq
        go_wp2
        go_roundg (gk - 1)
        case measure => omega
        case rel =>
          obtain ⟨q1, q2, q3⟩ := HQ.out
          refine ⟨j + 1, (τ.put [s[j]]).1, by omega, by go_num, hW.weaken fun g hg => by simp [hg], q1.mono (by omega), q2, by omega, ?_⟩
          rw [HW.out, HD.out]
          simp only [St.write, hp, if_true]
          rw [Nat.add_assoc, Nat.add_comm 1 j]
      · have hp' : (τ.put [s[j]]).2 = false := by simpa using hp
        clear hp
        go_wp2
        go_ret
        have e1 : σ.write s.data.toList = (τ, j) := by rw [HW.out, HD.out]; simp [St.write, hp']
        rw [e1]
        have hW2 := hW.weaken (y := x) (fun g hg => by simp [hg])
        rw [put_no _ hp'] at hW2
        exact ⟨rfl, hW2⟩
    · have e1 : σ.write s.data.toList = (τ, s.size) := by
        obtain rfl : j = s.size := by omega
        rw [HW.out, List.drop_eq_nil_of_le (by omega)]; simp [St.write]
      have HE : Hid (σ.write s.data.toList = (τ, s.size)) := e1
      clear e1 HW
      go_wp2
      go_ret
      rw [HE.out]
      exact ⟨rfl, hR⟩
end
end Go.Proofs.YtfnglkhhmplejaaGreat
