/- Walks: the program: what bytes become. -/
import Derived.Test.YtfnglkhhmplejaaGreatProg4
import Derived.Test.YtfnglkhhmplejaaGreatBase
import Derived.BigQuiet
import Derived.Deep.QuietTactic
import Derived.Deep.RegionWith
namespace Go.Proofs.YtfnglkhhmplejaaGreat
open Go Go.RowKit Go.Clk

set_option maxHeartbeats 2000000 in
set_option maxRecDepth 100000 in
theorem render_any (f col : Int) (w : World) (f0 : 0 ≤ f) (f1 : f < 8192) (c0 : 0 ≤ col) (c1 : col < 2305843009213693952) (lv : Value) (l : List UInt8) (ol : Option Nat) (hL : Sl w 5 1 lv l.length (bys l) ol) (hn : l.length ≤ 10000) :
    Calls Tryz.prog 118 #[.int .i64 f, .int .i64 col, lv] w fun e w' => ∃ a cap o, e = .returned (.tuple #[.slice a (renderL f col l).1.length cap, .int .i64 (renderL f col l).2]) ∧
      Sl w' 5 1 (.slice a (renderL f col l).1.length cap) (renderL f col l).1.length (bys (renderL f col l).1) o ∧ w.grownBy w' none ∧ ∀ g, o = some g → w.heap.size ≤ g := by
  obtain ⟨i0, hi, hz0, hz1, hz2⟩ := info_parts info_u8
  obtain ⟨la, lcap, rfl, hl1, hl2⟩ := hL.shape
  go_enter Tryz.func118, Tryz.ntmps118
  go_wp2_with fail
  go_loopg [1, 8, 15] l.length (fun k cv mv jv wr => ∃ (j : Nat) (a : Option Addr) (cap : Nat) (o : Option Nat), j + k = l.length ∧ jv = .int .i64 j ∧ cv = .int .i64 (renderL f col (l.take j)).2 ∧ mv = .slice a (renderL f col (l.take j)).1.length cap ∧
    Sl wr 5 1 (.slice a (renderL f col (l.take j)).1.length cap) (renderL f col (l.take j)).1.length (bys (renderL f col (l.take j)).1) o ∧ w.grownBy wr none ∧ ∀ g, o = some g → w.heap.size ≤ g)
  case atStart => exact ⟨0, none, 0, none, by omega, rfl, rfl, rfl, Sl.nil w _ _, grownBy_refl w none, fun g e => by cases e⟩
  case round =>
    obtain ⟨j, a, cap, o, hj, rfl, rfl, rfl, hM, hG, ho⟩ := hrel
    have hLr : Sl wr 5 1 (.slice la l.length lcap) l.length (bys l) ol := hL.same fun g e => hG.block g (hL.lt e) (by simp)
    have hR := renderL_col f c0 (l.take j)
    have hjl : (l.take j).length ≤ j := List.length_take_le _ _
    by_cases hlt : j < l.length
    · obtain ⟨g, off, cp, he, _⟩ := hLr.addr (by omega)
      cases he
      have kc := (hLr.cells rfl j (u := .int .u8 (l[j].toNat : Int)) (by simp [bys, List.getElem?_eq_getElem hlt])).1
      have HT : Hid (renderL f col (l.take (j + 1)) = ((renderL f col (l.take j)).1 ++ become f (renderL f col (l.take j)).2 l[j], moves f (renderL f col (l.take j)).2 (become f (renderL f col (l.take j)).2 l[j]))) := by
        show renderL f col (l.take (j + 1)) = _
        rw [List.take_succ_eq_append_getElem hlt, renderL_snoc]
      generalize renderL f col (l.take j) = R at *
      obtain ⟨M, ck⟩ := R
      simp only at hR hM HT ⊢
      go_wp2_with fail
      refine (become_any f ck l[j] _ f0 f1 hR.1 (by omega) _ rfl).mono ?_
      rintro e w1 ⟨a1, cap1, o1, rfl, hB, hG1, ho1⟩
      have hM1 : Sl w1 5 1 (.slice a M.length cap) M.length (bys M) o := hM.same fun g e => hG1.block g (hM.lt e) (by simp)
      have hG2 : w.grownBy w1 none := grownBy_then hG hG1 fun g e => by cases e
      have hne : ∀ g, o = some g → o1 ≠ some g := fun g e e1 => by have := hM.lt e; have := ho1 g e1; omega
      have ho2 : ∀ g, o1 = some g → w.heap.size ≤ g := fun g e => Nat.le_trans hG.size (ho1 g e)
      have hBl := become_len f hR.1 l[j]
      clear hM hG1 hG hLr kc hL ho1
      have HT2 : Hid (∃ B, become f ck l[j] = B) := ⟨_, rfl⟩
      generalize become f ck l[j] = B at *
      clear HT2
      have hck0 := hR.1
      have hck : ck ≤ 2305843009214693952 := by omega
      have hMl : M.length ≤ 80000 := by omega
      clear hR
      go_wp2_with fail
      go_loopg [1, 8, 24] B.length (fun k cv mv iv w2 => ∃ (i : Nat) (a : Option Addr) (cap : Nat) (o : Option Nat), i + k = B.length ∧ iv = .int .i64 i ∧ cv = .int .i64 (moves f ck (B.take i)) ∧ mv = .slice a (M.length + i) cap ∧
        Sl w2 5 1 (.slice a (M.length + i) cap) (M.length + i) (bys (M ++ B.take i)) o ∧ w.grownBy w2 none ∧ (∀ g, o = some g → w.heap.size ≤ g) ∧ (∀ g, o = some g → o1 ≠ some g) ∧ Sl w2 5 1 (.slice a1 B.length cap1) B.length (bys B) o1)
      case atStart => exact ⟨0, a, cap, o, by omega, rfl, by simp [moves], rfl, by simpa using hM1, hG2, ho, hne, hB⟩
      case round =>
        clear hM1 hG2 ho hne hB
        obtain ⟨i, a, cap, o, hi2, rfl, rfl, rfl, hM, hG, ho, hne, hB⟩ := hrel
        have hmv := moves_nonneg f (B.take i) hck0
        have hil : (B.take i).length ≤ i := List.length_take_le _ _
        by_cases hli : i < B.length
        · obtain ⟨bg, boff, bc, he, hbo⟩ := hB.addr (by omega)
          cases he
          have kc := (hB.cells rfl i (u := .int .u8 (B[i].toNat : Int)) (by simp [bys, List.getElem?_eq_getElem hli])).1
          have HV : Hid (moves f ck (B.take (i + 1)) = moved f (moves f ck (B.take i)) B[i]) := by
            show moves f ck (B.take (i + 1)) = _
            rw [List.take_succ_eq_append_getElem hli, moves_app]; rfl
          have HA : Hid (bys (M ++ B.take (i + 1)) = bys (M ++ B.take i) ++ [.int .u8 (B[i].toNat : Int)]) := by
            show bys (M ++ B.take (i + 1)) = _
            rw [List.take_succ_eq_append_getElem hli, ← List.append_assoc, bys_app]; rfl
          have hMb := hM.alloc (.cells #[.int .u8 (B[i].toNat : Int)] 5)
          have hlb := hB.lt hbo
          generalize moves f ck (B.take i) = cc at *
          have hcc0 := hmv.1
          have hcc1 : cc ≤ 2305843009214694952 := by omega
          clear hmv
          go_wp2_with (at_builtin; refine wpList_append_sl rfl (.tmp 28) (.tmp 30) 33 33 rfl hMb rfl i0 (.int .u8 0) 1 Tryz.underlying33 hi hz0 hz1 hz2 rfl (.slice (some ⟨wr.heap.size, 0, none⟩) 1 1) 1 [.int .u8 (B[i].toNat : Int)] rfl ?src ?b1 ?b2 ?next)
          case src => exact (Sl.made wr [.int .u8 (B[i].toNat : Int)] 1 5 1 rfl (by simp [maxLen])).src Tryz.underlying33 (by intro u hu; simp at hu; subst hu; rfl)
          case b1 => unfold maxLen; omega
          case b2 => omega
          case next =>
            intro a3 cap3 w3 o3 hs3 hg3 ho3
            have hgA : w.grownBy w3 none := grownBy_then (grownBy_then hG (World.grownBy_alloc wr _ none) fun g e => by cases e) hg3 ho
            have hBA : Sl w3 5 1 (.slice (some ⟨bg, boff, none⟩) B.length cap1) B.length (bys B) o1 := (hB.alloc (.cells #[.int .u8 (B[i].toNat : Int)] 5)).same fun g e => hg3.block g ((hB.alloc _).lt e) fun c => hne g c.symm e
            have hoA : ∀ g, o3 = some g → w.heap.size ≤ g := fun g e => by
              rcases ho3 with h | ⟨h, _⟩
              · exact ho g (by rw [← h, e])
              · rw [h] at e; cases e; have := hG.size; omega
            have hnA : ∀ g, o3 = some g → o1 ≠ some g := fun g e => by
              rcases ho3 with h | ⟨h, _⟩
              · exact hne g (by rw [← h, e])
              · rw [h] at e; cases e; rw [hbo]; simp; omega
            clear hMb hM hB hG hg3 ho3 hne ho kc
            go_wp2_with fail
            refine (move_any f cc B[i] _ rfl _ f0 f1 hcc0 (by omega)).mono ?_
            rintro e w4 ⟨rfl, hw⟩
            have hw := hw.symm
            subst hw
            go_wp2
            go_roundg (gk - 1)
            case measure => omega
            case rel => exact ⟨i + 1, a3, cap3, o3, by omega, by go_num, by rw [HV.out], rfl, by rw [HA.out]; exact hs3, hgA, hoA, hnA, hBA⟩
        · obtain rfl : i = B.length := by omega
          rw [List.take_length] at hM
          have HMv : Hid (moves f ck (B.take B.length) = moves f ck B) := by show moves f ck (B.take B.length) = _; rw [List.take_length]
          go_wp2
          go_roundg (l.length - (j + 1))
          case measure => omega
          case rel =>
            refine ⟨j + 1, a, cap, o, by omega, by go_num, by rw [HT.out, HMv.out], by rw [HT.out]; simp, by rw [HT.out]; simpa using hM, hG, ho⟩
    · obtain rfl : j = l.length := by omega
      have HF : Hid (l.take l.length = l) := List.take_length
      go_wp2
      go_ret2
      rw [HF.out] at hM ⊢
      exact ⟨a, cap, o, rfl, hM, hG, ho⟩
end Go.Proofs.YtfnglkhhmplejaaGreat
namespace Go.Proofs.YtfnglkhhmplejaaGreat
open Go Go.RowKit Go.Clk

section
variable (S0 : List Nat) (w0 : World) (x : List Nat) (b : Nat) (σ : St) (w : World) (C : Int)

set_option maxHeartbeats 1000000 in
set_option maxRecDepth 100000 in
theorem OPut_any (h : AtP S0 w0 x b σ w) (ok : Ok σ C) (hC : C ≤ 1152921504606846976) (hl : σ.out.length ≤ 256) (lv : Value) (l : List UInt8) (ol : Option Nat) (hL : Sl w 5 1 lv l.length (bys l) ol) (hn : l.length ≤ 10000) :
    Calls Tryz.prog 87 #[.pointer (some ⟨b, 18, none⟩), .int .i64 σ.o, lv] w fun e w' => e = .returned (.bool (σ.put l).2) ∧ AtP S0 w0 x b (σ.put l).1 w' := by
  obtain ⟨i0, hi, hz0, hz1, hz2⟩ := info_parts info_u8
  obtain ⟨vi, vu, vo, vs, hV⟩ := h
  have o0 := ok.o0; have o1 := ok.o1; have c0 := ok.c0; have c1 := ok.c1
  have k20 := hV.c_col
  obtain ⟨la, lcap, rfl, hl1, hl2⟩ := hL.shape
  have HR := renderL_col σ.o c0 l
  have HP : Hid (σ.put l = if 256 < σ.out.length + (renderL σ.o σ.col l).1.length then (σ, false) else ({ σ with out := σ.out ++ (renderL σ.o σ.col l).1, col := (renderL σ.o σ.col l).2 }, true)) := by
    show σ.put l = _
    unfold St.put
    rw [putAll_render]
    simp
  go_enter Tryz.func87, Tryz.ntmps87
  go_wp2_with fail
  refine (render_any σ.o σ.col _ o0 o1 c0 (by omega) _ l ol hL hn).mono ?_
  rintro e w1 ⟨am, capm, om, rfl, hM, hG, hom⟩
  have hV1 := hV.same hG
  generalize renderL σ.o σ.col l = R at *
  obtain ⟨M, ck⟩ := R
  simp only at HR hM HP ⊢
  clear hV k20 hL
  obtain ⟨oo, hs, hob, _, hput⟩ := hV1.lens_out
  obtain ⟨a, cap, rfl, hl3, hl4⟩ := hs.shape
  have k19 := hV1.c_out
  have f19 := hV1.frozen 19
  by_cases hbig : 256 < σ.out.length + M.length
  · clear hput
    go_wp2
    go_ret
    exact ⟨ret_bool (by rw [HP.out, if_pos hbig]), by rw [HP.out, if_pos hbig]; exact hV1.r⟩
  · have e63 : σ.out.length + M.length ≤ 256 := by omega
    go_wp2_with (at_builtin; refine wpList_append_sl rfl (.tmp 32) (.tmp 33) 70 33 rfl hs rfl i0 (.int .u8 0) 1 Tryz.underlying70 hi hz0 hz1 hz2 rfl (.slice am M.length capm) M.length (bys M) rfl ?src ?b1 ?b2 ?next)
    case src => exact hM.src Tryz.underlying33 (bys_one _)
    case b1 => unfold maxLen; omega
    case b2 => omega
    case next =>
      intro a' cap' w2 oz hs1 hg1 ho1
      have hlen : (σ.out ++ M).length = σ.out.length + M.length := List.length_append
      obtain ⟨q2, q3, hV2⟩ := hput w2 (.slice a' (σ.out.length + M.length) cap') (σ.out ++ M) oz hg1 (by rw [hlen, bys_app]; exact hs1) (by rcases ho1 with h1 | ⟨h1, _⟩; exact .inr (.inl h1); exact .inr (.inr ⟨_, h1, Nat.le_refl _⟩))
      have HE := (hV2.s_col ck).r
      have q20 := hV2.c_col
      have f20 := hV2.frozen 20
      clear hput hs hs1 hg1 ho1 hV1 k19 f19 hM
      go_wp2
      go_ret
      exact ⟨ret_bool (by rw [HP.out, if_neg hbig]), by rw [HP.out, if_neg hbig]; exact HE⟩

theorem AtP.drew {S0 : List Nat} {w0 w : World} {x : List Nat} {b : Nat} {σ : St} (h : AtP S0 w0 x b σ w) : AtP S0 w0 x b σ w.drew := by
  obtain ⟨vi, vu, vo, vs, h⟩ := h
  exact ⟨vi, vu, vo, vs, h.drew⟩
set_option maxHeartbeats 1000000 in
set_option maxRecDepth 100000 in
theorem putOut_any (h : AtP S0 w0 x b σ w) (ok : Ok σ C) (hC : C ≤ 1152921504606846976) (hl : σ.out.length ≤ 256) (lv : Value) (l : List UInt8) (ol : Option Nat) (hL : Sl w 5 1 lv l.length (bys l) ol) (hn : l.length ≤ 10000) :
    Calls Tryz.prog 60 #[.pointer (some ⟨b, 0, none⟩), lv] w fun e w' => e = .returned (.bool (σ.put l).2) ∧ AtP S0 w0 x b (σ.put l).1 w' := by
  have k1 : w.cell? ⟨b, 1, none⟩ = some (.int .i64 σ.o) := by obtain ⟨vi, vu, vo, vs, hV⟩ := h; exact hV.co
  have h' := h.drew
  have hL' := hL.drew
  go_enter Tryz.func60, Tryz.ntmps60
  go_wp2
  go_region_with (go_at_call 87; refine (OPut_any S0 w0 x b σ _ C h' ok hC hl lv l ol hL' hn).mono ?_; rintro e W ⟨rfl, hW⟩)
  all_goals go_wp2
  all_goals go_ret
  all_goals exact ⟨rfl, by assumption⟩
set_option maxHeartbeats 1000000 in
set_option maxRecDepth 100000 in
theorem PWrite_any (h : AtP S0 w0 x b σ w) (ok : Ok σ C) (hC : C ≤ 1152921504606800000) (hl : σ.out.length ≤ 256) (s : ByteArray) (hs : s.size ≤ maxLen) :
    Calls Tryz.prog 40 #[.pointer (some ⟨b, 0, none⟩), .string s] w fun e w' => e = .returned (.int .i64 ((σ.write s.data.toList).2 : Nat)) ∧ AtP S0 w0 x b (σ.write s.data.toList).1 w' := by
  unfold maxLen at hs
  have hsz : s.data.toList.length = s.size := by rw [Array.length_toList]; rfl
  go_enter Tryz.func40, Tryz.ntmps40
  go_wp2_with fail
  go_loopg [8] s.size (fun k i wr => ∃ (j : Nat) (τ : St), j + k = s.size ∧ i = .int .i64 j ∧ AtP S0 w0 x b τ wr ∧ Ok τ (C + 8 * (τ.out.length - σ.out.length)) ∧ τ.out.length ≤ 256 ∧ σ.out.length ≤ τ.out.length ∧
    σ.write s.data.toList = ((τ.write (s.data.toList.drop j)).1, (τ.write (s.data.toList.drop j)).2 + j))
  case atStart => exact ⟨0, σ, by omega, rfl, h, by simpa using ok, hl, Nat.le_refl _, by simp⟩
  case round =>
    obtain ⟨j, τ, hj, rfl, hR, okt, ht, ht2, hw⟩ := hrel
    have HW : Hid (σ.write s.data.toList = ((τ.write (s.data.toList.drop j)).1, (τ.write (s.data.toList.drop j)).2 + j)) := hw
    clear hw h
    by_cases hlt : j < s.size
    · have HD : Hid (s.data.toList.drop j = s[j] :: s.data.toList.drop (j + 1)) := by
        show s.data.toList.drop j = _
        rw [List.drop_eq_getElem_cons (by omega)]; rfl
      have HO : Hid (Ok τ (C + 8 * (τ.out.length - σ.out.length))) := okt
      have hR' : AtP S0 w0 x b τ (wr.alloc (.cells #[.int .u8 (s[j].toNat : Int)] 5)) := by obtain ⟨vi, vu, vo, vs, hV⟩ := hR; exact (hV.alloc _).r
      clear okt
      go_wp2_with fail
      refine (putOut_any S0 w0 x b τ _ _ hR' HO.out (by omega) ht (.slice (some ⟨wr.heap.size, 0, none⟩) 1 1) [s[j]] (some wr.heap.size) (Sl.made wr [.int .u8 (s[j].toNat : Int)] 1 5 1 rfl (by simp [maxLen])) (by simp)).mono ?_
      rintro e W ⟨rfl, hW⟩
      by_cases hp : (τ.put [s[j]]).2 = true
      · have hq := put_ok HO.out s[j] hp
        have HQ : Hid (Ok (τ.put [s[j]]).1 (C + 8 * (τ.out.length - σ.out.length) + 8 * ((τ.put [s[j]]).1.out.length - τ.out.length)) ∧ (τ.put [s[j]]).1.out.length ≤ 256 ∧ τ.out.length ≤ (τ.put [s[j]]).1.out.length) := hq
        clear hq
        go_wp2
        go_roundg (gk - 1)
        case measure => omega
        case rel =>
          obtain ⟨q1, q2, q3⟩ := HQ.out
          refine ⟨j + 1, (τ.put [s[j]]).1, by omega, by go_num, hW, q1.mono (by omega), q2, by omega, ?_⟩
          rw [HW.out, HD.out]
          simp only [St.write, hp, if_true]
          rw [Nat.add_assoc, Nat.add_comm 1 j]
      · have hp' : (τ.put [s[j]]).2 = false := by simpa using hp
        clear hp
        go_wp2
        go_ret
        have e1 : σ.write s.data.toList = (τ, j) := by rw [HW.out, HD.out]; simp [St.write, hp']
        rw [e1]
        rw [put_no _ hp'] at hW
        exact ⟨rfl, hW⟩
    · have e1 : σ.write s.data.toList = (τ, s.size) := by
        obtain rfl : j = s.size := by omega
        rw [HW.out, List.drop_eq_nil_of_le (by omega)]; simp [St.write]
      have HE : Hid (σ.write s.data.toList = (τ, s.size)) := e1
      clear e1 HW
      go_wp2
      go_ret
      rw [HE.out]
      exact ⟨rfl, hR⟩
end
end Go.Proofs.YtfnglkhhmplejaaGreat
namespace Go.Proofs.YtfnglkhhmplejaaGreat
open Go Go.RowKit Go.Clk

section
variable (S0 : List Nat) (w0 : World) (x : List Nat) (b : Nat) (σ : St) (w : World)

set_option maxHeartbeats 1000000 in
set_option maxRecDepth 100000 in
theorem take_urg (h : AtP S0 w0 x b σ w) (n : Int) (hn : 0 ≤ n) (hl : σ.urg.length ≤ 2199023255552) :
    Calls Tryz.prog 73 #[.pointer (some ⟨b, 18, none⟩), .int .i64 n] w fun e w' => e = .returned (.string (str (σ.urg.take n.toNat))) ∧ AtP S0 w0 x b { σ with urg := σ.urg.drop n.toNat } w' := by
  obtain ⟨i0, hi, hz0, hz1, hz2⟩ := info_parts info_u8
  obtain ⟨vi, vu, vo, vs, hV⟩ := h
  obtain ⟨oo, hs, hob, _, hput⟩ := hV.lens_urg
  obtain ⟨a, cap, rfl, hl3, hl4⟩ := hs.shape
  have kq := hV.c_urg
  have fq := hV.frozen 18
  have HC : Hid (∀ m : Nat, m ≤ σ.urg.length → σ.urg.take m = σ.urg.take n.toNat → σ.urg.drop m = σ.urg.drop n.toNat → ∀ a2 cap2, Sl w 5 1 (.slice a2 (σ.urg.length - m) cap2) (σ.urg.length - m) ((bys σ.urg).drop m) oo →
      AtP S0 w0 x b { σ with urg := σ.urg.drop n.toNat } (w.setCell ⟨b, 18, none⟩ (.slice a2 (σ.urg.length - m) cap2))) := by
    intro m hm _ hd a2 cap2 h2
    have e1 : (σ.urg.drop n.toNat).length = σ.urg.length - m := by rw [← hd]; simp
    have e2 : bys (σ.urg.drop n.toNat) = (bys σ.urg).drop m := by rw [← hd]; simp [bys, List.map_drop]
    obtain ⟨_, _, h3⟩ := hput w (.slice a2 (σ.urg.length - m) cap2) (σ.urg.drop n.toNat) oo (grownBy_refl w oo) (by rw [e1, e2]; exact h2) (.inr (.inl rfl))
    exact h3.r
  clear hput
  have HT : ∀ m : Nat, (bys σ.urg).take m = bys (σ.urg.take m) := fun m => by simp [bys, List.map_take]
  by_cases hle : n ≤ σ.urg.length
  · go_enter Tryz.func73, Tryz.ntmps73
    go_wp2_with (refine wpList_front rfl (.tmp 14) (.tmp 15) 70 rfl i0 Tryz.underlying70 hi rfl hs n rfl hn hle ?_)
    intro hf
    go_wp2_with (first | refine wpList_string rfl (.tmp 16) 70 9 rfl Tryz.underlying70 Tryz.underlying5 Tryz.underlying9 rfl hf ?_ | refine wpList_cut rfl (.tmp 21) (.tmp 22) 70 rfl i0 Tryz.underlying70 hi hz1 rfl hs n rfl hn hle ?_)
    intro a2 cap2 h2
    have HE := HC.out n.toNat (by omega) rfl rfl a2 cap2 (by simpa using h2)
    clear HC h2 hf
    go_wp2
    go_ret
    exact ⟨rfl, HE⟩
  · have hle2 : ((σ.urg.length : Nat) : Int) ≤ n := by omega
    have hle3 : ((σ.urg.length : Nat) : Int) ≤ (σ.urg.length : Nat) := by omega
    have hz : (0 : Int) ≤ (σ.urg.length : Nat) := by omega
    go_enter Tryz.func73, Tryz.ntmps73
    go_wp2_with (first | refine wpList_front rfl (.tmp 14) (.tmp 15) 70 rfl i0 Tryz.underlying70 hi rfl hs (σ.urg.length : Nat) rfl (by omega) (by omega) ?_ | refine wpList_string rfl (.tmp 16) 70 9 rfl Tryz.underlying70 Tryz.underlying5 Tryz.underlying9 rfl hs ?_ | refine wpList_cut rfl (.tmp 21) (.tmp 22) 70 rfl i0 Tryz.underlying70 hi hz1 rfl hs (σ.urg.length : Nat) rfl (by omega) (by omega) ?_)
    intro a2 cap2 h2
    have HE := HC.out σ.urg.length (Nat.le_refl _) (by rw [List.take_of_length_le (Nat.le_refl _), List.take_of_length_le (by omega)]) (by rw [List.drop_eq_nil_of_le (Nat.le_refl _), List.drop_eq_nil_of_le (by omega)]) a2 cap2 (by simpa using h2)
    have HS : Hid (σ.urg.take n.toNat = σ.urg) := List.take_of_length_le (by omega)
    clear HC h2
    go_wp2
    go_ret
    rw [HS.out]
    exact ⟨rfl, by simpa using HE⟩

set_option maxHeartbeats 1000000 in
set_option maxRecDepth 100000 in
theorem take_out (h : AtP S0 w0 x b σ w) (n : Int) (hn : 0 ≤ n) (hl : σ.out.length ≤ 2199023255552) :
    Calls Tryz.prog 73 #[.pointer (some ⟨b, 19, none⟩), .int .i64 n] w fun e w' => e = .returned (.string (str (σ.out.take n.toNat))) ∧ AtP S0 w0 x b { σ with out := σ.out.drop n.toNat } w' := by
  obtain ⟨i0, hi, hz0, hz1, hz2⟩ := info_parts info_u8
  obtain ⟨vi, vu, vo, vs, hV⟩ := h
  obtain ⟨oo, hs, hob, _, hput⟩ := hV.lens_out
  obtain ⟨a, cap, rfl, hl3, hl4⟩ := hs.shape
  have kq := hV.c_out
  have fq := hV.frozen 19
  have HC : Hid (∀ m : Nat, m ≤ σ.out.length → σ.out.take m = σ.out.take n.toNat → σ.out.drop m = σ.out.drop n.toNat → ∀ a2 cap2, Sl w 5 1 (.slice a2 (σ.out.length - m) cap2) (σ.out.length - m) ((bys σ.out).drop m) oo →
      AtP S0 w0 x b { σ with out := σ.out.drop n.toNat } (w.setCell ⟨b, 19, none⟩ (.slice a2 (σ.out.length - m) cap2))) := by
    intro m hm _ hd a2 cap2 h2
    have e1 : (σ.out.drop n.toNat).length = σ.out.length - m := by rw [← hd]; simp
    have e2 : bys (σ.out.drop n.toNat) = (bys σ.out).drop m := by rw [← hd]; simp [bys, List.map_drop]
    obtain ⟨_, _, h3⟩ := hput w (.slice a2 (σ.out.length - m) cap2) (σ.out.drop n.toNat) oo (grownBy_refl w oo) (by rw [e1, e2]; exact h2) (.inr (.inl rfl))
    exact h3.r
  clear hput
  have HT : ∀ m : Nat, (bys σ.out).take m = bys (σ.out.take m) := fun m => by simp [bys, List.map_take]
  by_cases hle : n ≤ σ.out.length
  · go_enter Tryz.func73, Tryz.ntmps73
    go_wp2_with (refine wpList_front rfl (.tmp 14) (.tmp 15) 70 rfl i0 Tryz.underlying70 hi rfl hs n rfl hn hle ?_)
    intro hf
    go_wp2_with (first | refine wpList_string rfl (.tmp 16) 70 9 rfl Tryz.underlying70 Tryz.underlying5 Tryz.underlying9 rfl hf ?_ | refine wpList_cut rfl (.tmp 21) (.tmp 22) 70 rfl i0 Tryz.underlying70 hi hz1 rfl hs n rfl hn hle ?_)
    intro a2 cap2 h2
    have HE := HC.out n.toNat (by omega) rfl rfl a2 cap2 (by simpa using h2)
    clear HC h2 hf
    go_wp2
    go_ret
    exact ⟨rfl, HE⟩
  · have hle2 : ((σ.out.length : Nat) : Int) ≤ n := by omega
    have hle3 : ((σ.out.length : Nat) : Int) ≤ (σ.out.length : Nat) := by omega
    have hz : (0 : Int) ≤ (σ.out.length : Nat) := by omega
    go_enter Tryz.func73, Tryz.ntmps73
    go_wp2_with (first | refine wpList_front rfl (.tmp 14) (.tmp 15) 70 rfl i0 Tryz.underlying70 hi rfl hs (σ.out.length : Nat) rfl (by omega) (by omega) ?_ | refine wpList_string rfl (.tmp 16) 70 9 rfl Tryz.underlying70 Tryz.underlying5 Tryz.underlying9 rfl hs ?_ | refine wpList_cut rfl (.tmp 21) (.tmp 22) 70 rfl i0 Tryz.underlying70 hi hz1 rfl hs (σ.out.length : Nat) rfl (by omega) (by omega) ?_)
    intro a2 cap2 h2
    have HE := HC.out σ.out.length (Nat.le_refl _) (by rw [List.take_of_length_le (Nat.le_refl _), List.take_of_length_le (by omega)]) (by rw [List.drop_eq_nil_of_le (Nat.le_refl _), List.drop_eq_nil_of_le (by omega)]) a2 cap2 (by simpa using h2)
    have HS : Hid (σ.out.take n.toNat = σ.out) := List.take_of_length_le (by omega)
    clear HC h2
    go_wp2
    go_ret
    rw [HS.out]
    exact ⟨rfl, by simpa using HE⟩


theorem str_app (a b : List UInt8) : str a ++ str b = str (a ++ b) := by
  apply ByteArray.ext
  simp [str]
theorem str_size (a : List UInt8) : (str a).size = a.length := by simp [str, ByteArray.size]

set_option maxHeartbeats 1000000 in
set_option maxRecDepth 100000 in
theorem Send_any (h : AtP S0 w0 x b σ w) (n : Int) (hn : 0 ≤ n) (hn' : n ≤ 9223372036854775807) (hu : σ.urg.length ≤ 2199023255552) (ho : σ.out.length ≤ 256) :
    Calls Tryz.prog 47 #[.pointer (some ⟨b, 18, none⟩), .int .i64 n] w fun e w' => e = .returned (.string (str (σ.drain n.toNat).2)) ∧ AtP S0 w0 x b (σ.drain n.toNat).1 w' := by
  go_enter Tryz.func47, Tryz.ntmps47
  go_wp2_with fail
  refine (take_urg S0 w0 x b σ _ h n hn hu).mono ?_
  rintro e W ⟨rfl, hW⟩
  have k21 : W.cell? ⟨b, 21, none⟩ = some (.bool σ.stopped) := by obtain ⟨vi, vu, vo, vs, hV⟩ := hW; exact hV.c_stopped
  have hsz := str_size (σ.urg.take n.toNat)
  have hlen : (σ.urg.take n.toNat).length ≤ n.toNat := List.length_take_le _ _
  have hlen2 : (σ.urg.take n.toNat).length ≤ σ.urg.length := List.length_take_le' _ _
  have HU : Hid (σ.drain n.toNat = if σ.stopped then ({ σ with urg := σ.urg.drop n.toNat }, σ.urg.take n.toNat) else ({ σ with urg := σ.urg.drop n.toNat, out := σ.out.drop (n.toNat - (σ.urg.take n.toNat).length) }, σ.urg.take n.toNat ++ σ.out.take (n.toNat - (σ.urg.take n.toNat).length))) := rfl
  generalize σ.urg.take n.toNat = u at *
  clear h
  by_cases hst : σ.stopped = true
  · go_wp2
    go_ret
    rw [HU.out, if_pos hst]
    exact ⟨rfl, hW⟩
  · have hst : σ.stopped = false := by simpa using hst
    have hun : (u.length : Int) ≤ n := by omega
    go_wp2_with fail
    have HT : Hid ((n - (u.length : Int)).toNat = n.toNat - u.length) := by show (n - (u.length : Int)).toNat = _; omega
    refine (take_out S0 w0 x b _ _ hW _ (by omega) (by show σ.out.length ≤ _; omega)).mono ?_
    rintro e W2 ⟨rfl, hW2⟩
    rw [HT.out] at hW2 ⊢
    have hsz2 := str_size (σ.out.take (n.toNat - u.length))
    have hl2 : (σ.out.take (n.toNat - u.length)).length ≤ σ.out.length := List.length_take_le' _ _
    have HU2 : Hid (σ.drain n.toNat = ({ σ with urg := σ.urg.drop n.toNat, out := σ.out.drop (n.toNat - u.length) }, u ++ σ.out.take (n.toNat - u.length))) := by
      show σ.drain n.toNat = _
      rw [HU.out, hst]; rfl
    clear HU
    generalize σ.out.take (n.toNat - u.length) = o2 at *
    go_wp2
    go_ret
    rw [HU2.out, str_app]
    exact ⟨rfl, hW2⟩
set_option maxHeartbeats 1000000 in
set_option maxRecDepth 100000 in
theorem PDrain_no (h : AtP S0 w0 x b σ w) (n : Int) (hn : n < 0) :
    Calls Tryz.prog 27 #[.pointer (some ⟨b, 0, none⟩), .int .i64 n] w fun e w' => e = .returned (.tuple #[.string (str []), .int .i64 2]) ∧ AtP S0 w0 x b σ w' := by
  go_enter Tryz.func27, Tryz.ntmps27
  go_wp2
  go_ret2
  exact ⟨rfl, h⟩
set_option maxHeartbeats 1000000 in
set_option maxRecDepth 100000 in
theorem PDrain_any (h : AtP S0 w0 x b σ w) (n : Int) (hn : 0 ≤ n) (hn' : n ≤ 9223372036854775807) (hu : σ.urg.length ≤ 2199023255552) (ho : σ.out.length ≤ 256) :
    Calls Tryz.prog 27 #[.pointer (some ⟨b, 0, none⟩), .int .i64 n] w fun e w' => e = .returned (.tuple #[.string (str (σ.drain n.toNat).2), .int .i64 0]) ∧ AtP S0 w0 x b (σ.drain n.toNat).1 w' := by
  go_enter Tryz.func27, Tryz.ntmps27
  go_wp2_with (go_at_call 47; refine (Send_any S0 w0 x b σ _ h n hn hn' hu ho).mono ?_; rintro e W ⟨rfl, hW⟩)
  go_ret2
  exact ⟨rfl, hW⟩
end
end Go.Proofs.YtfnglkhhmplejaaGreat
