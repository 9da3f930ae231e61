/- Walks: the program: bytes are put out. -/
import Derived.Test.YtfnglkhhmplejaaGreatProg5
import Derived.BigQuiet
import Derived.Deep.QuietTactic
import Derived.Deep.RegionWith
namespace Go.Proofs.YtfnglkhhmplejaaGreat
open Go Go.RowKit Go.Clk

section
variable (S0 : List Nat) (w0 : World) (x : List Nat) (b : Nat) (σ : St) (w : World) (C : Int)

set_option maxHeartbeats 1000000 in
set_option maxRecDepth 100000 in
theorem OPut_any (h : AtP S0 w0 x b σ w) (ok : Ok σ C) (hC : C ≤ 1152921504606846976) (hl : σ.out.length ≤ 256) (lv : Value) (l : List UInt8) (ol : Option Nat) (hL : Sl w 5 1 lv l.length (bys l) ol) (hn : l.length ≤ 10000) :
    Calls Tryz.prog 87 #[.pointer (some ⟨b, 18, none⟩), .int .i64 σ.o, lv] w fun e w' => e = .returned (.bool (σ.put l).2) ∧ AtP S0 w0 x b (σ.put l).1 w' := by
  obtain ⟨i0, hi, hz0, hz1, hz2⟩ := info_parts info_u8
  obtain ⟨vi, vu, vo, vs, hV⟩ := h
  have o0 := ok.o0; have o1 := ok.o1; have c0 := ok.c0; have c1 := ok.c1
  have k20 := hV.c_col
  obtain ⟨la, lcap, rfl, hl1, hl2⟩ := hL.shape
  have HR := renderL_col σ.o c0 l
  have HP : Hid (σ.put l = if 256 < σ.out.length + (renderL σ.o σ.col l).1.length then (σ, false) else ({ σ with out := σ.out ++ (renderL σ.o σ.col l).1, col := (renderL σ.o σ.col l).2 }, true)) := by
    show σ.put l = _
    unfold St.put
    rw [putAll_render]
    simp
  go_enter Tryz.func87, Tryz.ntmps87
  go_wp2_with fail
  refine (render_any σ.o σ.col _ o0 o1 c0 (by omega) _ l ol hL hn).mono ?_
  rintro e w1 ⟨am, capm, om, rfl, hM, hG, hom⟩
  have hV1 := hV.same hG
  generalize renderL σ.o σ.col l = R at *
  obtain ⟨M, ck⟩ := R
  simp only at HR hM HP ⊢
  clear hV k20 hL
  obtain ⟨oo, hs, hob, _, hput⟩ := hV1.lens_out
  obtain ⟨a, cap, rfl, hl3, hl4⟩ := hs.shape
  have k19 := hV1.c_out
  have f19 := hV1.frozen 19
  by_cases hbig : 256 < σ.out.length + M.length
  · clear hput
    go_wp2
    go_ret
    exact ⟨ret_bool (by rw [HP.out, if_pos hbig]), by rw [HP.out, if_pos hbig]; exact hV1.r⟩
  · have e63 : σ.out.length + M.length ≤ 256 := by omega
    go_wp2_with (at_builtin; refine wpList_append_sl rfl (.tmp 32) (.tmp 33) 70 33 rfl hs rfl i0 (.int .u8 0) 1 Tryz.underlying70 hi hz0 hz1 hz2 rfl (.slice am M.length capm) M.length (bys M) rfl ?src ?b1 ?b2 ?next)
    case src => exact hM.src Tryz.underlying33 (bys_one _)
    case b1 => unfold maxLen; omega
    case b2 => omega
    case next =>
      intro a' cap' w2 oz hs1 hg1 ho1
      have hlen : (σ.out ++ M).length = σ.out.length + M.length := List.length_append
      obtain ⟨q2, q3, hV2⟩ := hput w2 (.slice a' (σ.out.length + M.length) cap') (σ.out ++ M) oz hg1 (by rw [hlen, bys_app]; exact hs1) (by rcases ho1 with h1 | ⟨h1, _⟩; exact .inr (.inl h1); exact .inr (.inr ⟨_, h1, Nat.le_refl _⟩))
      have HE := (hV2.s_col ck).r
      have q20 := hV2.c_col
      have f20 := hV2.frozen 20
      clear hput hs hs1 hg1 ho1 hV1 k19 f19 hM
      go_wp2
      go_ret
      exact ⟨ret_bool (by rw [HP.out, if_neg hbig]), by rw [HP.out, if_neg hbig]; exact HE⟩

theorem AtP.drew {S0 : List Nat} {w0 w : World} {x : List Nat} {b : Nat} {σ : St} (h : AtP S0 w0 x b σ w) : AtP S0 w0 x b σ w.drew := by
  obtain ⟨vi, vu, vo, vs, h⟩ := h
  exact ⟨vi, vu, vo, vs, h.drew⟩
set_option maxHeartbeats 1000000 in
set_option maxRecDepth 100000 in
theorem putOut_any (h : AtP S0 w0 x b σ w) (ok : Ok σ C) (hC : C ≤ 1152921504606846976) (hl : σ.out.length ≤ 256) (lv : Value) (l : List UInt8) (ol : Option Nat) (hL : Sl w 5 1 lv l.length (bys l) ol) (hn : l.length ≤ 10000) :
    Calls Tryz.prog 60 #[.pointer (some ⟨b, 0, none⟩), lv] w fun e w' => e = .returned (.bool (σ.put l).2) ∧ AtP S0 w0 x b (σ.put l).1 w' := by
  have k1 : w.cell? ⟨b, 1, none⟩ = some (.int .i64 σ.o) := by obtain ⟨vi, vu, vo, vs, hV⟩ := h; exact hV.co
  have h' := h.drew
  have hL' := hL.drew
  go_enter Tryz.func60, Tryz.ntmps60
  go_wp2
  go_region_with (go_at_call 87; refine (OPut_any S0 w0 x b σ _ C h' ok hC hl lv l ol hL' hn).mono ?_; rintro e W ⟨rfl, hW⟩)
  all_goals go_wp2
  all_goals go_ret
  all_goals exact ⟨rfl, by assumption⟩
set_option maxHeartbeats 1000000 in
set_option maxRecDepth 100000 in
theorem PWrite_any (h : AtP S0 w0 x b σ w) (ok : Ok σ C) (hC : C ≤ 1152921504606800000) (hl : σ.out.length ≤ 256) (s : ByteArray) (hs : s.size ≤ maxLen) :
    Calls Tryz.prog 40 #[.pointer (some ⟨b, 0, none⟩), .string s] w fun e w' => e = .returned (.int .i64 ((σ.write s.data.toList).2 : Nat)) ∧ AtP S0 w0 x b (σ.write s.data.toList).1 w' := by
  unfold maxLen at hs
  have hsz : s.data.toList.length = s.size := by rw [Array.length_toList]; rfl
  go_enter Tryz.func40, Tryz.ntmps40
  go_wp2_with fail
  go_loopg [8] s.size (fun k i wr => ∃ (j : Nat) (τ : St), j + k = s.size ∧ i = .int .i64 j ∧ AtP S0 w0 x b τ wr ∧ Ok τ (C + 8 * (τ.out.length - σ.out.length)) ∧ τ.out.length ≤ 256 ∧ σ.out.length ≤ τ.out.length ∧
    σ.write s.data.toList = ((τ.write (s.data.toList.drop j)).1, (τ.write (s.data.toList.drop j)).2 + j))
  case atStart => exact ⟨0, σ, by omega, rfl, h, by simpa using ok, hl, Nat.le_refl _, by simp⟩
  case round =>
    obtain ⟨j, τ, hj, rfl, hR, okt, ht, ht2, hw⟩ := hrel
    have HW : Hid (σ.write s.data.toList = ((τ.write (s.data.toList.drop j)).1, (τ.write (s.data.toList.drop j)).2 + j)) := hw
    clear hw h
    by_cases hlt : j < s.size
    · have HD : Hid (s.data.toList.drop j = s[j] :: s.data.toList.drop (j + 1)) := by
        show s.data.toList.drop j = _
        rw [List.drop_eq_getElem_cons (by omega)]; rfl
      have HO : Hid (Ok τ (C + 8 * (τ.out.length - σ.out.length))) := okt
      have hR' : AtP S0 w0 x b τ (wr.alloc (.cells #[.int .u8 (s[j].toNat : Int)] 5)) := by obtain ⟨vi, vu, vo, vs, hV⟩ := hR; exact (hV.alloc _).r
      clear okt
      go_wp2_with fail
      refine (putOut_any S0 w0 x b τ _ _ hR' HO.out (by omega) ht (.slice (some ⟨wr.heap.size, 0, none⟩) 1 1) [s[j]] (some wr.heap.size) (Sl.made wr [.int .u8 (s[j].toNat : Int)] 1 5 1 rfl (by simp [maxLen])) (by simp)).mono ?_
      rintro e W ⟨rfl, hW⟩
      by_cases hp : (τ.put [s[j]]).2 = true
      · have hq := put_ok HO.out s[j] hp
        have HQ : Hid (Ok (τ.put [s[j]]).1 (C + 8 * (τ.out.length - σ.out.length) + 8 * ((τ.put [s[j]]).1.out.length - τ.out.length)) ∧ (τ.put [s[j]]).1.out.length ≤ 256 ∧ τ.out.length ≤ (τ.put [s[j]]).1.out.length) := hq
        clear hq
        go_wp2
        go_roundg (gk - 1)
        case measure => omega
        case rel =>
          obtain ⟨q1, q2, q3⟩ := HQ.out
          refine ⟨j + 1, (τ.put [s[j]]).1, by omega, by go_num, hW, q1.mono (by omega), q2, by omega, ?_⟩
          rw [HW.out, HD.out]
          simp only [St.write, hp, if_true]
          rw [Nat.add_assoc, Nat.add_comm 1 j]
      · have hp' : (τ.put [s[j]]).2 = false := by simpa using hp
        clear hp
        go_wp2
        go_ret
        have e1 : σ.write s.data.toList = (τ, j) := by rw [HW.out, HD.out]; simp [St.write, hp']
        rw [e1]
        rw [put_no _ hp'] at hW
        exact ⟨rfl, hW⟩
    · have e1 : σ.write s.data.toList = (τ, s.size) := by
        obtain rfl : j = s.size := by omega
        rw [HW.out, List.drop_eq_nil_of_le (by omega)]; simp [St.write]
      have HE : Hid (σ.write s.data.toList = (τ, s.size)) := e1
      clear e1 HW
      go_wp2
      go_ret
      rw [HE.out]
      exact ⟨rfl, hR⟩
end
end Go.Proofs.YtfnglkhhmplejaaGreat
