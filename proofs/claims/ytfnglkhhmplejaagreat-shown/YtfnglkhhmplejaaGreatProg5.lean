/- Walks: the program: what bytes become. -/
import Derived.Test.YtfnglkhhmplejaaGreatProg4
import Derived.Test.YtfnglkhhmplejaaGreatBase
namespace Go.Proofs.YtfnglkhhmplejaaGreat
open Go Go.RowKit Go.Clk

set_option maxHeartbeats 2000000 in
set_option maxRecDepth 100000 in
theorem render_any (f col : Int) (w : World) (f0 : 0 ≤ f) (f1 : f < 8192) (c0 : 0 ≤ col) (c1 : col < 2305843009213693952) (lv : Value) (l : List UInt8) (ol : Option Nat) (hL : Sl w 5 1 lv l.length (bys l) ol) (hn : l.length ≤ 10000) :
    Calls Tryz.prog 118 #[.int .i64 f, .int .i64 col, lv] w fun e w' => ∃ a cap o, e = .returned (.tuple #[.slice a (renderL f col l).1.length cap, .int .i64 (renderL f col l).2]) ∧
      Sl w' 5 1 (.slice a (renderL f col l).1.length cap) (renderL f col l).1.length (bys (renderL f col l).1) o ∧ w.grownBy w' none ∧ ∀ g, o = some g → w.heap.size ≤ g := by
  obtain ⟨i0, hi, hz0, hz1, hz2⟩ := info_parts info_u8
  obtain ⟨la, lcap, rfl, hl1, hl2⟩ := hL.shape
  go_enter Tryz.func118, Tryz.ntmps118
  go_wp2_with fail
  go_loopg [1, 8, 15] l.length (fun k cv mv jv wr => ∃ (j : Nat) (a : Option Addr) (cap : Nat) (o : Option Nat), j + k = l.length ∧ jv = .int .i64 j ∧ cv = .int .i64 (renderL f col (l.take j)).2 ∧ mv = .slice a (renderL f col (l.take j)).1.length cap ∧
    Sl wr 5 1 (.slice a (renderL f col (l.take j)).1.length cap) (renderL f col (l.take j)).1.length (bys (renderL f col (l.take j)).1) o ∧ w.grownBy wr none ∧ ∀ g, o = some g → w.heap.size ≤ g)
  case atStart => exact ⟨0, none, 0, none, by omega, rfl, rfl, rfl, Sl.nil w _ _, grownBy_refl w none, fun g e => by cases e⟩
  case round =>
    obtain ⟨j, a, cap, o, hj, rfl, rfl, rfl, hM, hG, ho⟩ := hrel
    have hLr : Sl wr 5 1 (.slice la l.length lcap) l.length (bys l) ol := hL.same fun g e => hG.block g (hL.lt e) (by simp)
    have hR := renderL_col f c0 (l.take j)
    have hjl : (l.take j).length ≤ j := List.length_take_le _ _
    by_cases hlt : j < l.length
    · obtain ⟨g, off, cp, he, _⟩ := hLr.addr (by omega)
      cases he
      have kc := (hLr.cells rfl j (u := .int .u8 (l[j].toNat : Int)) (by simp [bys, List.getElem?_eq_getElem hlt])).1
      have HT : Hid (renderL f col (l.take (j + 1)) = ((renderL f col (l.take j)).1 ++ become f (renderL f col (l.take j)).2 l[j], moves f (renderL f col (l.take j)).2 (become f (renderL f col (l.take j)).2 l[j]))) := by
        show renderL f col (l.take (j + 1)) = _
        rw [List.take_succ_eq_append_getElem hlt, renderL_snoc]
      generalize renderL f col (l.take j) = R at *
      obtain ⟨M, ck⟩ := R
      simp only at hR hM HT ⊢
      go_wp2_with fail
      refine (become_any f ck l[j] _ f0 f1 hR.1 (by omega) _ rfl).mono ?_
      rintro e w1 ⟨a1, cap1, o1, rfl, hB, hG1, ho1⟩
      have hM1 : Sl w1 5 1 (.slice a M.length cap) M.length (bys M) o := hM.same fun g e => hG1.block g (hM.lt e) (by simp)
      have hG2 : w.grownBy w1 none := grownBy_then hG hG1 fun g e => by cases e
      have hne : ∀ g, o = some g → o1 ≠ some g := fun g e e1 => by have := hM.lt e; have := ho1 g e1; omega
      have ho2 : ∀ g, o1 = some g → w.heap.size ≤ g := fun g e => Nat.le_trans hG.size (ho1 g e)
      have hBl := become_len f hR.1 l[j]
      clear hM hG1 hG hLr kc hL ho1
      have HT2 : Hid (∃ B, become f ck l[j] = B) := ⟨_, rfl⟩
      generalize become f ck l[j] = B at *
      clear HT2
      have hck0 := hR.1
      have hck : ck ≤ 2305843009214693952 := by omega
      have hMl : M.length ≤ 80000 := by omega
      clear hR
      go_wp2_with fail
      go_loopg [1, 8, 24] B.length (fun k cv mv iv w2 => ∃ (i : Nat) (a : Option Addr) (cap : Nat) (o : Option Nat), i + k = B.length ∧ iv = .int .i64 i ∧ cv = .int .i64 (moves f ck (B.take i)) ∧ mv = .slice a (M.length + i) cap ∧
        Sl w2 5 1 (.slice a (M.length + i) cap) (M.length + i) (bys (M ++ B.take i)) o ∧ w.grownBy w2 none ∧ (∀ g, o = some g → w.heap.size ≤ g) ∧ (∀ g, o = some g → o1 ≠ some g) ∧ Sl w2 5 1 (.slice a1 B.length cap1) B.length (bys B) o1)
      case atStart => exact ⟨0, a, cap, o, by omega, rfl, by simp [moves], rfl, by simpa using hM1, hG2, ho, hne, hB⟩
      case round =>
        clear hM1 hG2 ho hne hB
        obtain ⟨i, a, cap, o, hi2, rfl, rfl, rfl, hM, hG, ho, hne, hB⟩ := hrel
        have hmv := moves_nonneg f (B.take i) hck0
        have hil : (B.take i).length ≤ i := List.length_take_le _ _
        by_cases hli : i < B.length
        · obtain ⟨bg, boff, bc, he, hbo⟩ := hB.addr (by omega)
          cases he
          have kc := (hB.cells rfl i (u := .int .u8 (B[i].toNat : Int)) (by simp [bys, List.getElem?_eq_getElem hli])).1
          have HV : Hid (moves f ck (B.take (i + 1)) = moved f (moves f ck (B.take i)) B[i]) := by
            show moves f ck (B.take (i + 1)) = _
            rw [List.take_succ_eq_append_getElem hli, moves_app]; rfl
          have HA : Hid (bys (M ++ B.take (i + 1)) = bys (M ++ B.take i) ++ [.int .u8 (B[i].toNat : Int)]) := by
            show bys (M ++ B.take (i + 1)) = _
            rw [List.take_succ_eq_append_getElem hli, ← List.append_assoc, bys_app]; rfl
          have hMb := hM.alloc (.cells #[.int .u8 (B[i].toNat : Int)] 5)
          have hlb := hB.lt hbo
          generalize moves f ck (B.take i) = cc at *
          have hcc0 := hmv.1
          have hcc1 : cc ≤ 2305843009214694952 := by omega
          clear hmv
          go_wp2_with (at_builtin; refine wpList_append_sl rfl (.tmp 28) (.tmp 30) 33 33 rfl hMb rfl i0 (.int .u8 0) 1 Tryz.underlying33 hi hz0 hz1 hz2 rfl (.slice (some ⟨wr.heap.size, 0, none⟩) 1 1) 1 [.int .u8 (B[i].toNat : Int)] rfl ?src ?b1 ?b2 ?next)
          case src => exact (Sl.made wr [.int .u8 (B[i].toNat : Int)] 1 5 1 rfl (by simp [maxLen])).src Tryz.underlying33 (by intro u hu; simp at hu; subst hu; rfl)
          case b1 => unfold maxLen; omega
          case b2 => omega
          case next =>
            intro a3 cap3 w3 o3 hs3 hg3 ho3
            have hgA : w.grownBy w3 none := grownBy_then (grownBy_then hG (World.grownBy_alloc wr _ none) fun g e => by cases e) hg3 ho
            have hBA : Sl w3 5 1 (.slice (some ⟨bg, boff, none⟩) B.length cap1) B.length (bys B) o1 := (hB.alloc (.cells #[.int .u8 (B[i].toNat : Int)] 5)).same fun g e => hg3.block g ((hB.alloc _).lt e) fun c => hne g c.symm e
            have hoA : ∀ g, o3 = some g → w.heap.size ≤ g := fun g e => by
              rcases ho3 with h | ⟨h, _⟩
              · exact ho g (by rw [← h, e])
              · rw [h] at e; cases e; have := hG.size; omega
            have hnA : ∀ g, o3 = some g → o1 ≠ some g := fun g e => by
              rcases ho3 with h | ⟨h, _⟩
              · exact hne g (by rw [← h, e])
              · rw [h] at e; cases e; rw [hbo]; simp; omega
            clear hMb hM hB hG hg3 ho3 hne ho kc
            go_wp2_with fail
            refine (move_any f cc B[i] _ rfl _ f0 f1 hcc0 (by omega)).mono ?_
            rintro e w4 ⟨rfl, hw⟩
            have hw := hw.symm
            subst hw
            go_wp2
            go_roundg (gk - 1)
            case measure => omega
            case rel => exact ⟨i + 1, a3, cap3, o3, by omega, by go_num, by rw [HV.out], rfl, by rw [HA.out]; exact hs3, hgA, hoA, hnA, hBA⟩
        · obtain rfl : i = B.length := by omega
          rw [List.take_length] at hM
          have HMv : Hid (moves f ck (B.take B.length) = moves f ck B) := by show moves f ck (B.take B.length) = _; rw [List.take_length]
          go_wp2
          go_roundg (l.length - (j + 1))
          case measure => omega
          case rel =>
            refine ⟨j + 1, a, cap, o, by omega, by go_num, by rw [HT.out, HMv.out], by rw [HT.out]; simp, by rw [HT.out]; simpa using hM, hG, ho⟩
    · obtain rfl : j = l.length := by omega
      have HF : Hid (l.take l.length = l) := List.take_length
      go_wp2
      go_ret2
      rw [HF.out] at hM ⊢
      exact ⟨a, cap, o, rfl, hM, hG, ho⟩
end Go.Proofs.YtfnglkhhmplejaaGreat
