/- Walks: the reference's terminal: several bytes together; a string. -/
import Derived.Test.YtnalckkllogdaaaRef3
namespace Go.Proofs.Ytnalckkllogdaaa
open Go Go.RowKit Go.Clk

section
variable (S0 : List Nat) (w0 : World) (x : List Nat) (b : Nat) (σ : St) (w : World) (C : Int)

set_option maxHeartbeats 1000000 in
set_option maxRecDepth 100000 in
theorem Put_any (h : AtR S0 w0 x b σ w) (ok : Ok σ C) (hC : C ≤ 1152921504606846976) (hl : σ.out.length ≤ 256) (lv : Value) (l : List UInt8) (ol : Option Nat) (hL : Sl w 5 1 lv l.length (bys l) ol) (hx : ∀ g, ol = some g → g ∈ x) (hn : l.length ≤ 10000) :
    Calls Try.prog 19 #[.pointer (some ⟨b, 0, none⟩), lv] w fun e w' => e = .returned (.bool (σ.put l).2) ∧ AtR S0 w0 x b (σ.put l).1 w' := by
  obtain ⟨i0, hi, hz0, hz1, hz2⟩ := info_parts info_u8
  obtain ⟨la, lcap, rfl, hl1, hl2⟩ := hL.shape
  obtain ⟨vi, vo, vu, vn, vd, hV⟩ := h
  obtain ⟨oo, hs, _, _, _⟩ := hV.lens_out
  obtain ⟨a, cap, rfl, hl3, hl4⟩ := hs.shape
  have k18 := hV.c18
  have k20 := hV.c20
  go_enter Try.func19, Try.ntmps19
  go_wp2_with (at_builtin; refine wpList_append_sl rfl (.tmp 8) (.tmp 12) 55 55 rfl (Sl.nil w 5 1) rfl i0 (.int .u8 0) 1 Try.underlying55 hi hz0 hz1 hz2 rfl (.slice a σ.out.length cap) σ.out.length (bys σ.out) rfl ?src ?b1 ?b2 ?next)
  case src => exact hs.src Try.underlying55 (bys_one _)
  case b1 => unfold maxLen; omega
  case b2 => omega
  case next =>
    intro a' cap' w1 oc hs1 hg1 ho1
    have hV1 := hV.fresh hg1 ho1
    have q20 := hV1.c20
    have hL1 : Sl w1 5 1 (.slice la l.length lcap) l.length (bys l) ol := hL.same fun g e => hg1.block g (hL.lt e) (by simp)
    obtain ⟨S, hR, hS1, hS2, _, hback⟩ := hV1.r.rebase
    have hbx : ∀ z, z ∈ x → z < w.heap.size := fun z hz => hV.2.below hz
    have hocS : ∀ g, oc = some g → g ∉ S := fun g e => hS2 g (by simp [e])
    have holS : ∀ g, ol = some g → g ∉ S := fun g e => hS2 g (by simp [hx g e])
    have HB : Hid (∀ σ' w', AtR S w1 (oc.toList ++ x) b σ' w' → AtR S0 w0 (oc.toList ++ x) b σ' w') := hback
    have HD : Hid (w.heap.size ≤ w1.heap.size ∧ w0.heap.size ≤ w.heap.size) := ⟨hg1.size, hV.2.kp.size⟩
    have HO : Hid (oc = none ∨ oc = some w.heap.size ∧ w.heap.size < w1.heap.size) := ho1
    clear hs k18 k20 hg1 hV hL hback hV1 ho1
    go_wp2_with fail
    go_loopg [7] l.length (fun k i wr => ∃ j : Nat, j + k = l.length ∧ i = .int .i64 j ∧ AtR S w1 (oc.toList ++ x) b (σ.putAll (l.take j)) wr)
    case atStart => exact ⟨0, by omega, rfl, hR⟩
    case round =>
      obtain ⟨j, hj, rfl, hRr⟩ := hrel
      clear q20 hR
      have hLr := hL1.kp hRr.kp holS
      have okj := Ok.putAll (l.take j) ok
      have lenj := putAll_out (l.take j) (σ := σ) ok.c0
      have hjl : (l.take j).length ≤ j := List.length_take_le _ _
      by_cases hlt : j < l.length
      · obtain ⟨g, off, cp, he, _⟩ := hLr.addr (by omega)
        cases he
        have kc := (hLr.cells rfl j (u := .int .u8 (l[j].toNat : Int)) (by simp [bys, List.getElem?_eq_getElem hlt])).1
        have HL : Hid (Ok (σ.putAll (l.take j)) (C + 64 * (l.take j).length) ∧ (σ.putAll (l.take j)).out.length ≤ 90000) := ⟨okj, by omega⟩
        have HC : Hid (C + 64 * (l.take j).length ≤ 2305843009213693000) := by show C + 64 * (((l.take j).length : Nat) : Int) ≤ _; omega
        clear okj lenj hLr hjl
        go_wp2_with fail
        refine (puts_any S w1 _ b (σ.putAll (l.take j)) l[j] wr _ hRr HL.out.1 HC.out HL.out.2 _ rfl).mono ?_
        rintro e W ⟨rfl, hW⟩
        go_wp2
        go_roundg (gk - 1)
        case measure => omega
        case rel => exact ⟨j + 1, by omega, by go_num, by rw [List.take_succ_eq_append_getElem hlt, putAll_snoc]; exact hW⟩
      · obtain rfl : j = l.length := by omega
        rw [List.take_length] at hRr
        have hs2 : Sl wr 5 1 (.slice a' σ.out.length cap') σ.out.length (bys σ.out) oc := hs1.kp hRr.kp hocS
        obtain ⟨vi, vo, vu, vn, vd, hV0⟩ := HB.out _ _ hRr
        have HT : Hid (∃ o c, σ.putAll l = { σ with out := o, col := c }) := putAll_back σ l
        have HP : Hid (σ.put l = if 256 < (σ.putAll l).out.length then (σ, false) else (σ.putAll l, true)) := rfl
        obtain ⟨oz, hsz, _, _, _⟩ := hV0.lens_out
        obtain ⟨az, capz, rfl, hz3, hz4⟩ := hsz.shape
        have k18 := hV0.c18
        have f18 := hV0.frozen 18
        have k20 := hV0.c20
        have f20 := hV0.frozen 20
        have hlen := putAll_out l (σ := σ) ok.c0
        have HE : Hid (AtR S0 w0 x b σ ((wr.setCell ⟨b, 18, none⟩ (.slice a' σ.out.length cap')).setCell ⟨b, 20, none⟩ (.int .i64 σ.col))) := by
          have h1 := (hV0.adopt_out (.slice a' σ.out.length cap') σ.out oc x hs2 (fun g e => ⟨by simp [e], .inr (by have := HD.out; rcases HO.out with h | ⟨h, _⟩ <;> rw [h] at e <;> cases e; omega), fun hc => by have := hbx g hc; rcases HO.out with h | ⟨h, _⟩ <;> rw [h] at e <;> cases e; omega⟩) (fun z hz => by simp [hz])).s_col σ.col
          obtain ⟨o, c, hT⟩ := HT.out
          rw [hT] at h1
          exact h1.r
        have HF : Hid (AtR S0 w0 x b (σ.putAll l) wr) := hV0.r.weaken fun g hg => by simp [hg]
        clear HT HB hocS holS hRr hs2 hV0 hsz hs1 hL1 hLr okj HD HO hbx
        generalize σ.putAll l = T at *
        by_cases hbig : 256 < T.out.length
        · go_wp2
          go_ret
          exact ⟨ret_bool (by rw [HP.out, if_pos hbig]), by rw [HP.out, if_pos hbig]; exact HE.out⟩
        · go_wp2
          go_ret
          exact ⟨ret_bool (by rw [HP.out, if_neg (by omega)]), by rw [HP.out, if_neg (by omega)]; exact HF.out⟩

set_option maxHeartbeats 1000000 in
set_option maxRecDepth 100000 in
theorem Write_any (h : AtR S0 w0 x b σ w) (ok : Ok σ C) (hC : C ≤ 1152921504606800000) (hl : σ.out.length ≤ 256) (s : ByteArray) (hs : s.size ≤ maxLen) :
    Calls Try.prog 11 #[.pointer (some ⟨b, 0, none⟩), .string s] w fun e w' => e = .returned (.int .i64 ((σ.write s.data.toList).2 : Nat)) ∧ AtR S0 w0 x b (σ.write s.data.toList).1 w' := by
  unfold maxLen at hs
  have hsz : s.data.toList.length = s.size := by rw [Array.length_toList]; rfl
  go_enter Try.func11, Try.ntmps11
  go_wp2_with fail
  go_loopg [5] s.size (fun k i wr => ∃ (j : Nat) (τ : St), j + k = s.size ∧ i = .int .i64 j ∧ AtR S0 w0 x b τ wr ∧ Ok τ (C + 8 * (τ.out.length - σ.out.length)) ∧ τ.out.length ≤ 256 ∧ σ.out.length ≤ τ.out.length ∧
    σ.write s.data.toList = ((τ.write (s.data.toList.drop j)).1, (τ.write (s.data.toList.drop j)).2 + j))
  case atStart => exact ⟨0, σ, by omega, rfl, h, by simpa using ok, hl, Nat.le_refl _, by simp⟩
  case round =>
    obtain ⟨j, τ, hj, rfl, hR, okt, ht, ht2, hw⟩ := hrel
    have HW : Hid (σ.write s.data.toList = ((τ.write (s.data.toList.drop j)).1, (τ.write (s.data.toList.drop j)).2 + j)) := hw
    clear hw h
    by_cases hlt : j < s.size
    · have HD : Hid (s.data.toList.drop j = s[j] :: s.data.toList.drop (j + 1)) := by
        show s.data.toList.drop j = _
        rw [List.drop_eq_getElem_cons (by omega)]; rfl
      have HO : Hid (Ok τ (C + 8 * (τ.out.length - σ.out.length))) := okt
      have hR' := hR.boxed (.cells #[.int .u8 (s[j].toNat : Int)] 5)
      clear okt
      go_wp2_with fail
      refine (Put_any S0 w0 _ b τ _ _ hR' HO.out (by omega) ht (.slice (some ⟨wr.heap.size, 0, none⟩) 1 1) [s[j]] (some wr.heap.size) (Sl.made wr [.int .u8 (s[j].toNat : Int)] 1 5 1 rfl (by simp [maxLen])) (fun g e => by cases e; simp) (by simp)).mono ?_
      rintro e W ⟨rfl, hW⟩
      by_cases hp : (τ.put [s[j]]).2 = true
      · have hq := put_ok HO.out s[j] hp
        have HQ : Hid (Ok (τ.put [s[j]]).1 (C + 8 * (τ.out.length - σ.out.length) + 8 * ((τ.put [s[j]]).1.out.length - τ.out.length)) ∧ (τ.put [s[j]]).1.out.length ≤ 256 ∧ τ.out.length ≤ (τ.put [s[j]]).1.out.length) := hq
        clear hq
        go_wp2
        go_roundg (gk - 1)
        case measure => omega
        case rel =>
          obtain ⟨q1, q2, q3⟩ := HQ.out
          refine ⟨j + 1, (τ.put [s[j]]).1, by omega, by go_num, hW.weaken fun g hg => by simp [hg], q1.mono (by omega), q2, by omega, ?_⟩
          rw [HW.out, HD.out]
          simp only [St.write, hp, if_true]
          rw [Nat.add_assoc, Nat.add_comm 1 j]
      · have hp' : (τ.put [s[j]]).2 = false := by simpa using hp
        clear hp
        go_wp2
        go_ret
        have e1 : σ.write s.data.toList = (τ, j) := by rw [HW.out, HD.out]; simp [St.write, hp']
        rw [e1]
        have hW2 := hW.weaken (y := x) (fun g hg => by simp [hg])
        rw [put_no _ hp'] at hW2
        exact ⟨rfl, hW2⟩
    · have e1 : σ.write s.data.toList = (τ, s.size) := by
        obtain rfl : j = s.size := by omega
        rw [HW.out, List.drop_eq_nil_of_le (by omega)]; simp [St.write]
      have HE : Hid (σ.write s.data.toList = (τ, s.size)) := e1
      clear e1 HW
      go_wp2
      go_ret
      rw [HE.out]
      exact ⟨rfl, hR⟩
end
end Go.Proofs.Ytnalckkllogdaaa
