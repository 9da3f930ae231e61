/- Walks: clackkeep's screen: what a line looks like. -/
import Derived.Test.YtfnglkhhmplejaaGreatKL
import Derived.Test.YtfnglkhhmplejaaGreatKeep
import Derived.Deep.DeepCutAuto
import Derived.Deep.CutBlock
import Derived.BigQuiet
import Derived.Deep.QuietTactic
import Derived.BigRegion
namespace Go.Clk
open Go
theorem rend_next (p : List UInt8) (j : Nat) (h : j < p.length) : rend (p.take (j + 1)) = rend (p.take j) ++ pieceR (rend (p.take j)).length p[j] := by
  rw [List.take_add_one, List.getElem?_eq_getElem h]
  exact rend_snoc _ _
theorem rend_short (p : List UInt8) : (rend p).length ≤ 8 * p.length := rendF_len p 0
end Go.Clk
namespace Go.Proofs.YtfnglkhhmplejaaGreat
open Go Go.RowKit Go.Clk
/-- A slice of bytes that is the walk's own, new since w. -/
def Mine (w : World) (l : List UInt8) (v : Value) (o : Option Nat) (W : World) : Prop := Sl W 5 1 v l.length (bys l) o ∧ w.grownBy W none ∧ ∀ g, o = some g → w.heap.size ≤ g
theorem Mine.more {w W : World} {l : List UInt8} {v : Value} {o : Option Nat} (h : Mine w l v o W) (ns : List UInt8) {a' : Option Addr} {cap' : Nat} {w1 : World} {oz : Option Nat} (ob : Obj)
    (h1 : Sl w1 5 1 (.slice a' (l.length + ns.length) cap') (l.length + ns.length) (bys l ++ bys ns) oz) (h2 : (W.alloc ob).grownBy w1 o) (h3 : oz = o ∨ oz = some (W.heap.size + 1) ∧ W.heap.size + 1 < w1.heap.size) :
    Mine w (l ++ ns) (.slice a' (l.length + ns.length) cap') oz w1 := by
  obtain ⟨_, g1, g2⟩ := h
  refine ⟨?_, ?_, ?_⟩
  · rw [bys_app, List.length_append]; exact h1
  · exact grownBy_then (grownBy_then g1 (⟨rfl, rfl, rfl, by simp, fun k hk _ => Below.heap_alloc W ob k hk⟩ : W.grownBy (W.alloc ob) none) (by simp)) h2 g2
  · intro g e
    rcases h3 with q | ⟨q, _⟩
    · exact g2 g (by rw [← q, e])
    · rw [q] at e; cases e; have := g1.size; omega
set_option maxHeartbeats 4000000 in
set_option maxRecDepth 100000 in
theorem rendered_any (w : World) (v : Value) (p : List UInt8) (o : Option Nat) (hs : Sl w 5 1 v p.length (bys p) o) (hp : p.length ≤ 1000) :
    Calls Tryz.prog 36 #[v] w fun e w' => ∃ v' o', e = .returned v' ∧ Mine w (rend p) v' o' w' := by
  obtain ⟨i0, hi, hz0, hz1, hz2⟩ := info_parts info_u8
  obtain ⟨a, cap, rfl, hc1, hc2⟩ := hs.shape
  have HS : Hid (Sl w 5 1 (.slice a p.length cap) p.length (bys p) o) := hs
  clear hs
  go_enter Tryz.func36, Tryz.ntmps36
  go_wp2_with fail
  go_loopg [3, 4, 5] p.length (fun kk vv iv _ wr => ∃ (j : Nat) (v3 : Value) (o3 : Option Nat), j + kk = p.length ∧ vv = v3 ∧ iv = .int .i64 j ∧ Hid (Mine w (rend (p.take j)) v3 o3 wr))
  case atStart => exact ⟨0, _, none, by omega, rfl, rfl, Sl.nil _ _ _, grownBy_refl w none, fun g e => by cases e⟩
  case round =>
    obtain ⟨j, v3, o3, hj, rfl, rfl, hm⟩ := hrel
    obtain ⟨a3, cap3, rfl, hd1, hd2⟩ := hm.out.1.shape
    by_cases hlt : j < p.length
    · have hlt' : (j : Int) < (p.length : Int) := by omega
      have hrl := rend_short (p.take j)
      have htl : (p.take j).length ≤ 1000 := by simp; omega
      have HN : Hid (rend (p.take (j + 1)) = rend (p.take j) ++ pieceR (rend (p.take j)).length p[j]) := rend_next p j hlt
      obtain ⟨g, off, cap', he, rfl⟩ := HS.out.addr (by omega)
      cases he
      have kc : wr.cell? ⟨g, off + j, none⟩ = some (.int .u8 p[j].toNat) := by
        have h1 := (HS.out.cells rfl j (u := .int .u8 p[j].toNat) (by simp [bys, hlt])).1
        have h2 := hm.out.2.1
        rw [World.cell?_of_block (h2.block g (HS.out.lt rfl) (by simp))]; exact h1
      generalize p[j] = c at *
      generalize hQ : rend (p.take j) = Q at *
      clear hQ
      by_cases h9 : c.toNat = 9
      · have n9 : ((c.toNat : Int) == 9) = true := by simp; omega
        have HP : Hid (pieceR Q.length c = List.replicate (8 - Q.length % 8) 32) := by show pieceR _ _ = _; unfold pieceR; rw [if_pos h9]
        clear h9
        go_wp2_with (at_builtin; refine wpList_append_sl rfl (.tmp 23) (.tmp 24) 33 33 rfl (hm.out.1.alloc (.cells #[.int .u8 32] 5)) rfl i0 (.int .u8 0) 1 Tryz.underlying33 hi hz0 hz1 hz2 rfl (.slice (some ⟨wr.heap.size, 0, none⟩) 1 1) 1 [.int .u8 32] rfl ?src ?b1 ?b2 ?next)
        case src => exact (Sl.made wr [.int .u8 32] 1 5 1 rfl (by simp [maxLen])).src Tryz.underlying33 (by intro u hu; simp at hu; subst hu; rfl)
        case b1 => unfold maxLen; omega
        case b2 => omega
        case next =>
          intro a' cap' w1 oz hs1 hg1 ho1
          have hm2 := hm.out.more [32] (.cells #[.int .u8 32] 5) hs1 hg1 ho1
          clear hs1 hg1 ho1
          have hQ8 : Q.length ≤ 8000 := by omega
          obtain ⟨K1, hK1⟩ : ∃ K1, K1 = gk := ⟨_, rfl⟩
          have hj1 : j + K1 = p.length := by omega
          have hK2 : K1 ≤ gk := by omega
          have hK3 : 0 < K1 := by omega
          clear hK1
          go_wp2_with fail
          go_loopg [3] 8 (fun kk vv wx => ∃ (m : Nat) (v4 : Value) (o4 : Option Nat), m + kk = 9 ∧ 1 ≤ m ∧ m ≤ 8 - Q.length % 8 ∧ vv = v4 ∧ Hid (Mine w (Q ++ List.replicate m 32) v4 o4 wx))
          case atStart => exact ⟨1, _, oz, by omega, by omega, by omega, rfl, hm2⟩
          case round =>
            clear hm2
            obtain ⟨m, v4, o4, hmk, hm1, hm8, rfl, hx⟩ := hrel
            obtain ⟨a4, cap4, rfl, he1, he2⟩ := hx.out.1.shape
            have hl4 : (Q ++ List.replicate m (32 : UInt8)).length = Q.length + m := by simp
            rw [hl4]
            by_cases hz : (Q.length + m) % 8 = 0
            · have z1 : (((Q.length + m : Nat) : Int).tmod 8 != 0) = false := by rw [Int.tmod_eq_emod_of_nonneg (by omega)]; simp; omega
              have z2 : (((Q.length + m : Nat) : Int) % 8 != 0) = false := by simp; omega
              have HM2 : Hid (Mine w (rend (p.take (j + 1))) (.slice a4 (Q.length + m) cap4) o4 wr) := by
                show Mine w _ _ o4 wr
                have e5 : 8 - Q.length % 8 = m := by omega
                rw [HN.out, HP.out, e5]
                have := hx.out
                rw [hl4] at this; exact this
              clear hx HN HP
              go_wp2_with fail
              go_roundg (K1 - 1)
              case measure => omega
              case rel => exact ⟨j + 1, _, o4, by omega, rfl, by go_num, HM2⟩
            · have z1 : (((Q.length + m : Nat) : Int).tmod 8 != 0) = true := by rw [Int.tmod_eq_emod_of_nonneg (by omega)]; simp; omega
              have z2 : (((Q.length + m : Nat) : Int) % 8 != 0) = true := by simp; omega
              have hx2 : Sl wr 5 1 (.slice a4 (Q.length + m) cap4) (Q.length + m) (bys (Q ++ List.replicate m 32)) o4 := by have := hx.out.1; rw [hl4] at this; exact this
              go_wp2_with (at_builtin; refine wpList_append_sl rfl (.tmp 30) (.tmp 31) 33 33 rfl (hx2.alloc (.cells #[.int .u8 32] 5)) rfl i0 (.int .u8 0) 1 Tryz.underlying33 hi hz0 hz1 hz2 rfl (.slice (some ⟨wr.heap.size, 0, none⟩) 1 1) 1 [.int .u8 32] rfl ?src2 ?c1 ?c2 ?next2)
              case src2 => exact (Sl.made wr [.int .u8 32] 1 5 1 rfl (by simp [maxLen])).src Tryz.underlying33 (by intro u hu; simp at hu; subst hu; rfl)
              case c1 => unfold maxLen; omega
              case c2 => omega
              case next2 =>
                intro a' cap' w1 oz hs1 hg1 ho1
                have hm3 := hx.out.more [32] (a' := a') (cap' := cap') (.cells #[.int .u8 32] 5) (by rw [hl4]; exact hs1) hg1 ho1
                have HM3 : Hid (Mine w (Q ++ List.replicate (m + 1) 32) (.slice a' (Q.length + m + 1) cap') oz w1) := by
                  show Mine w _ _ oz w1
                  rw [List.append_assoc, ← List.replicate_succ'] at hm3
                  rw [hl4] at hm3
                  exact hm3
                have hm9 : m + 1 ≤ 8 - Q.length % 8 := by omega
                clear hs1 hg1 ho1 hm3 hx hx2
                go_wp2_with fail
                go_roundg (gk - 1)
                case measure => omega
                case rel => exact ⟨m + 1, _, oz, by omega, by omega, hm9, rfl, HM3⟩
      have n9 : ((c.toNat : Int) == 9) = false := beq_eq_false_iff_ne.2 (by omega)
      by_cases h32 : c.toNat < 32
      · have n32 : (c.toNat : Int) < 32 := by omega
        have HP : Hid (pieceR Q.length c = [94, c + 64]) := by show pieceR _ _ = _; unfold pieceR; rw [if_neg h9, if_pos h32]
        have e64 : Hid (bys [94, c + 64] = [.int .u8 94, .int .u8 ((c.toNat : Int) + 64)]) := by
          show bys [94, c + 64] = _
          have e1 : (c + 64).toNat = c.toNat + 64 := by rw [UInt8.toNat_add]; simp; omega
          simp [bys, e1]
        go_wp2_with (at_builtin; refine wpList_append_sl rfl (.tmp 36) (.tmp 39) 33 33 rfl (hm.out.1.alloc (.cells #[.int .u8 94, .int .u8 ((c.toNat : Int) + 64)] 5)) rfl i0 (.int .u8 0) 1 Tryz.underlying33 hi hz0 hz1 hz2 rfl (.slice (some ⟨wr.heap.size, 0, none⟩) 2 2) 2 [.int .u8 94, .int .u8 ((c.toNat : Int) + 64)] rfl ?src ?b1 ?b2 ?next)
        case src => exact (Sl.made wr [.int .u8 94, .int .u8 ((c.toNat : Int) + 64)] 2 5 1 rfl (by simp [maxLen])).src Tryz.underlying33 (by intro u hu; simp at hu; rcases hu with rfl | rfl <;> rfl)
        case b1 => unfold maxLen; omega
        case b2 => omega
        case next =>
          intro a' cap' w1 oz hs1 hg1 ho1
          have hm2 := hm.out.more [94, c + 64] (a' := a') (cap' := cap') (.cells #[.int .u8 94, .int .u8 ((c.toNat : Int) + 64)] 5) (by rw [e64.out]; exact hs1) hg1 ho1
          clear hs1 hg1 ho1
          have HM2 : Hid (Mine w (rend (p.take (j + 1))) (.slice a' (Q.length + 2) cap') oz w1) := by show Mine w _ _ oz w1; rw [HN.out, HP.out]; exact hm2
          clear hm2 HN HP e64
          go_wp2_with fail
          go_roundg (gk - 1)
          case measure => omega
          case rel => exact ⟨j + 1, _, oz, by omega, rfl, by go_num, HM2⟩
      have n32 : ¬ (c.toNat : Int) < 32 := by omega
      by_cases h127 : c.toNat = 127
      · have n127 : ((c.toNat : Int) == 127) = true := by simp; omega
        have HP : Hid (pieceR Q.length c = [94, 63]) := by show pieceR _ _ = _; unfold pieceR; rw [if_neg h9, if_neg h32, if_pos h127]
        clear h127
        go_wp2_with (at_builtin; refine wpList_append_sl rfl (.tmp 44) (.tmp 45) 33 33 rfl (hm.out.1.alloc (.cells #[.int .u8 94, .int .u8 63] 5)) rfl i0 (.int .u8 0) 1 Tryz.underlying33 hi hz0 hz1 hz2 rfl (.slice (some ⟨wr.heap.size, 0, none⟩) 2 2) 2 [.int .u8 94, .int .u8 63] rfl ?src ?b1 ?b2 ?next)
        case src => exact (Sl.made wr [.int .u8 94, .int .u8 63] 2 5 1 rfl (by simp [maxLen])).src Tryz.underlying33 (by intro u hu; simp at hu; rcases hu with rfl | rfl <;> rfl)
        case b1 => unfold maxLen; omega
        case b2 => omega
        case next =>
          intro a' cap' w1 oz hs1 hg1 ho1
          have hm2 := hm.out.more [94, 63] (.cells #[.int .u8 94, .int .u8 63] 5) hs1 hg1 ho1
          clear hs1 hg1 ho1
          have HM2 : Hid (Mine w (rend (p.take (j + 1))) (.slice a' (Q.length + 2) cap') oz w1) := by show Mine w _ _ oz w1; rw [HN.out, HP.out]; exact hm2
          clear hm2 HN HP
          go_wp2_with fail
          go_roundg (gk - 1)
          case measure => omega
          case rel => exact ⟨j + 1, _, oz, by omega, rfl, by go_num, HM2⟩
      have n127 : ((c.toNat : Int) == 127) = false := beq_eq_false_iff_ne.2 (by omega)
      have HP : Hid (pieceR Q.length c = [c]) := by show pieceR _ _ = _; unfold pieceR; rw [if_neg h9, if_neg h32, if_neg h127]
      go_wp2_with (at_builtin; refine wpList_append_sl rfl (.tmp 16) (.tmp 18) 33 33 rfl (hm.out.1.alloc (.cells #[.int .u8 c.toNat] 5)) rfl i0 (.int .u8 0) 1 Tryz.underlying33 hi hz0 hz1 hz2 rfl (.slice (some ⟨wr.heap.size, 0, none⟩) 1 1) 1 [.int .u8 c.toNat] rfl ?src ?b1 ?b2 ?next)
      case src => exact (Sl.made wr [.int .u8 c.toNat] 1 5 1 rfl (by simp [maxLen])).src Tryz.underlying33 (by intro u hu; simp at hu; subst hu; rfl)
      case b1 => unfold maxLen; omega
      case b2 => omega
      case next =>
        intro a' cap' w1 oz hs1 hg1 ho1
        have hm2 := hm.out.more [c] (.cells #[.int .u8 c.toNat] 5) hs1 hg1 ho1
        clear hs1 hg1 ho1
        have HM2 : Hid (Mine w (rend (p.take (j + 1))) (.slice a' (Q.length + 1) cap') oz w1) := by show Mine w _ _ oz w1; rw [HN.out, HP.out]; exact hm2
        clear hm2 HN HP
        go_wp2_with fail
        go_roundg (gk - 1)
        case measure => omega
        case rel => exact ⟨j + 1, _, oz, by omega, rfl, by go_num, HM2⟩
    · obtain rfl : j = p.length := by omega
      have HM : Hid (Mine w (rend p) (.slice a3 (rend (p.take p.length)).length cap3) o3 wr) := by have := hm.out; rw [List.take_length] at this ⊢; exact this
      clear hm
      go_wp2_with fail
      go_ret
      exact ⟨_, o3, rfl, HM.out⟩
/-- A screen at Sc, its row in the block o. -/
structure ScAt (Sc : Nat) (o : Option Nat) (s : Scr) (w : World) : Prop where
  ex : ∃ v, Blk w Sc 35 [v, .int .i64 (s.at_ : Nat)] ∧ Sl w 5 1 v s.row.length (bys s.row) o
  ne : ∀ g, o = some g → g ≠ Sc
theorem ScAt.grown {Sc : Nat} {o : Option Nat} {s : Scr} {w W : World} (h : ScAt Sc o s w) (hg : w.grownBy W none) : ScAt Sc o s W := by
  obtain ⟨⟨v, hb, hs⟩, hn⟩ := h
  refine ⟨⟨v, ?_, hs.same fun g e => hg.block g (hs.lt e) (by simp)⟩, hn⟩
  unfold Blk; rw [hg.block Sc hb.lt (by simp)]; exact hb
theorem ScAt.drewN {Sc : Nat} {o : Option Nat} {s : Scr} {w : World} (h : ScAt Sc o s w) (n : Nat) : ScAt Sc o s (w.drewN n) := h.grown ⟨rfl, rfl, rfl, Nat.le_refl _, fun _ _ _ => rfl⟩
theorem ScAt.kq {Sc : Nat} {o : Option Nat} {s : Scr} {w w' : World} {x : List Nat} (h : ScAt Sc o s w) (hk : Kq x w w') (h1 : Sc ∈ x) (h2 : ∀ g, o = some g → g ∈ x) : ScAt Sc o s w' := by
  obtain ⟨⟨v, hb, hs⟩, hn⟩ := h
  exact ⟨⟨v, hk.blk hb h1, hk.sl hs h2⟩, hn⟩
theorem Mine.drewN {w W : World} {l : List UInt8} {v : Value} {o : Option Nat} (h : Mine w l v o W) (n : Nat) : Mine w l v o (W.drewN n) :=
  ⟨h.1.same fun _ _ => rfl, ⟨h.2.1.os, h.2.1.tape, h.2.1.output, h.2.1.size, h.2.1.block⟩, h.2.2⟩
set_option maxHeartbeats 4000000 in
set_option maxRecDepth 100000 in
theorem seen_any (Sc : Nat) (o : Option Nat) (s : Scr) (w : World) (h : ScAt Sc o s w) (v : Value) (p : List UInt8) (o2 : Option Nat) (hs : Sl w 5 1 v p.length (bys p) o2) (hp : p.length ≤ 1000) (hsn : Seen s (rend p)) (hrow : s.row.length ≤ 100000) :
    Calls Tryz.prog 19 #[.pointer (some ⟨Sc, 0, none⟩), v] w fun e w' => e = .returned (.bool true) ∧ w.grownBy w' none := by
  have hre := rendered_any w v p o2 hs hp
  obtain ⟨hat, nb, hro⟩ := hsn
  have hle : (rend p).length ≤ s.row.length := by rw [hro]; simp
  have HGet : Hid (∀ i (hi : i < s.row.length), if hq : i < (rend p).length then s.row[i] = (rend p)[i] else s.row[i] = 32) := fun i hi => by
    split
    · rename_i hq
      simp only [hro]
      rw [List.getElem_append_left hq]
    · rename_i hq
      simp only [hro]
      rw [List.getElem_append_right (by omega)]
      simp
  have HC : Hid (ScAt Sc o s w) := h
  clear h hs hro
  generalize rend p = Q at *
  go_enter Tryz.func19, Tryz.ntmps19
  have f1 : ¬ ((s.row.length : Nat) : Int) < ((Q.length : Nat) : Int) := by omega
  have f2 : decide (s.row.length < Q.length) = false := by simp; omega
  go_wp2_with (go_at_call 36; refine hre.mono ?_; clear hre; rintro e W1 ⟨v', o', rfl, hm⟩; have hc1 := HC.out.grown hm.2.1; obtain ⟨vr, hb, hsr⟩ := hc1.ex; obtain ⟨ra, rcap, rfl, _, _⟩ := hsr.shape; obtain ⟨qa, qcap, rfl, _, _⟩ := hm.1.shape; have k0 := hb.cell 0 rfl; have k1 := hb.cell 1 rfl; rw [hat] at k1)
  have HM : Hid (Mine w Q (.slice qa Q.length qcap) o' W1) := hm
  have HS2 : Hid (ScAt Sc o s W1) := hc1
  have HR : Hid (Blk W1 Sc 35 [.slice ra s.row.length rcap, .int .i64 (s.at_ : Nat)] ∧ Sl W1 5 1 (.slice ra s.row.length rcap) s.row.length (bys s.row) o) := ⟨hb, hsr⟩
  clear hb hsr hc1 hm HC
  go_loopg [6] s.row.length (fun k iv wr => ∃ (i : Nat), i + k = s.row.length ∧ iv = .int .i64 i ∧ Hid (Mine w Q (.slice qa Q.length qcap) o' wr) ∧ Hid (Blk wr Sc 35 [.slice ra s.row.length rcap, .int .i64 (s.at_ : Nat)] ∧ Sl wr 5 1 (.slice ra s.row.length rcap) s.row.length (bys s.row) o))
  case atStart => exact ⟨0, by omega, rfl, HM, HR⟩
  case round =>
    clear HM HR HS2 k0 k1
    obtain ⟨i, hik, rfl, HM, HR⟩ := hrel
    have k0 := HR.out.1.cell 0 rfl
    by_cases hil : i < s.row.length
    · have hil' : (i : Int) < (s.row.length : Int) := by omega
      obtain ⟨rg, roff, rc, he, _⟩ := HR.out.2.addr (by omega)
      cases he
      have kr := (HR.out.2.cells rfl i (u := .int .u8 s.row[i].toNat) (by simp [bys, hil])).1
      have hgt := HGet.out i hil
      by_cases hq : i < Q.length
      · rw [dif_pos hq] at hgt
        rw [hgt] at kr
        have hq' : (i : Int) < (Q.length : Int) := by omega
        have hq2 : ¬ (Q.length : Int) ≤ (i : Int) := by omega
        have hq3 : decide (Q.length ≤ i) = false := by simp; omega
        obtain ⟨qg, qoff, qc, he, _⟩ := HM.out.1.addr (by omega)
        cases he
        have kq := (HM.out.1.cells rfl i (u := .int .u8 Q[i].toNat) (by simp [bys, hq])).1
        clear hgt
        generalize Q[i] = cc at *
        go_wp2_with fail
        go_quiet (fail)
        go_wp2_with fail
        go_roundg (gk - 1)
        case measure => omega
        case rel => exact ⟨i + 1, by omega, by go_num, HM.out.drewN _, HR.out.1, HR.out.2.same fun _ _ => rfl⟩
      · rw [dif_neg hq] at hgt
        rw [hgt] at kr
        have hq' : ¬ (i : Int) < (Q.length : Int) := by omega
        have hq2 : (Q.length : Int) ≤ (i : Int) := by omega
        have hq3 : decide (i < Q.length) = false := by simp; omega
        have kr2 : wr.cell? ⟨rg, roff + i, none⟩ = some (.int .u8 32) := kr
        clear hgt kr
        go_wp2_with fail
        go_quiet (fail)
        go_wp2_with fail
        go_roundg (gk - 1)
        case measure => omega
        case rel => exact ⟨i + 1, by omega, by go_num, HM.out.drewN _, HR.out.1, HR.out.2.same fun _ _ => rfl⟩
    · obtain rfl : i = s.row.length := by omega
      have HG : Hid (w.grownBy wr none) := HM.out.2.1
      go_wp2_with fail
      go_ret
      exact ⟨rfl, HG.out⟩
end Go.Proofs.YtfnglkhhmplejaaGreat
namespace Go.Clk
open Go
theorem shows_next (s : Scr) (l : List UInt8) (j : Nat) (h : j < l.length) : s.shows (l.take (j + 1)) = (s.shows (l.take j)).show1 l[j] := by
  rw [List.take_add_one, List.getElem?_eq_getElem h]
  show s.shows (l.take j ++ [l[j]]) = _
  rw [Scr.shows_app]; rfl
theorem show1_bound (s : Scr) (c : UInt8) : (s.show1 c).at_ ≤ s.at_ + 1 ∧ (s.show1 c).row.length ≤ max s.row.length (s.at_ + 1) := by
  unfold Scr.show1 Scr.pad
  repeat' split
  all_goals simp
  all_goals omega
theorem shows_bound (s : Scr) (l : List UInt8) : ∀ j, (s.shows (l.take j)).at_ ≤ s.at_ + j ∧ (s.shows (l.take j)).row.length ≤ s.row.length + s.at_ + j + 1 := by
  intro j
  induction j with
  | zero => simp [Scr.shows]; omega
  | succ j ih =>
    by_cases h : j < l.length
    · rw [shows_next s l j h]
      have := show1_bound (s.shows (l.take j)) l[j]
      omega
    · have e : l.take (j + 1) = l.take j := by rw [List.take_of_length_le (by omega), List.take_of_length_le (by omega)]
      rw [e]; omega
end Go.Clk
namespace Go.Proofs.YtfnglkhhmplejaaGreat
open Go Go.RowKit Go.Clk
theorem LnTo.refl (L : Nat) (o : Option Nat) (w : World) : LnTo L o o w w := ⟨Kp.refl _ w, .inl rfl⟩
theorem LnTo.trans {L : Nat} {o o1 o2 : Option Nat} {w w1 w2 : World} (h : LnTo L o o1 w w1) (k : LnTo L o1 o2 w1 w2) : LnTo L o o2 w w2 := by
  obtain ⟨h1, h2⟩ := h
  obtain ⟨k1, k2⟩ := k
  refine ⟨h1.trans k1 fun x hx => ?_, ?_⟩
  · rcases List.mem_cons.1 hx with rfl | hx
    · exact .inl (by simp)
    · have e : o1 = some x := by simpa using hx
      rcases h2 with q | q | ⟨g, q, g1, g2⟩
      · exact .inl (by rw [← q, e]; simp)
      · rw [q] at e; cases e
      · rw [q] at e; cases e; exact .inr g1
  · rcases k2 with q | q | ⟨g, q, g1, g2⟩
    · rcases h2 with r | r | ⟨g, r, g1, g2⟩
      · exact .inl (by rw [q, r])
      · exact .inr (.inl (by rw [q, r]))
      · exact .inr (.inr ⟨g, by rw [q, r], g1, Nat.lt_of_lt_of_le g2 k1.size⟩)
    · exact .inr (.inl q)
    · exact .inr (.inr ⟨g, q, Nat.le_trans h1.size g1, g2⟩)
theorem LnTo.drewN {L : Nat} {o o' : Option Nat} {w W : World} (h : LnTo L o o' w W) (n : Nat) : LnTo L o o' w (W.drewN n) := ⟨⟨h.1.os, h.1.tape, h.1.output, h.1.size, h.1.block⟩, h.2⟩
/-- The column of a screen is set. -/
theorem ScAt.put {Sc : Nat} {o : Option Nat} {s : Scr} {w : World} (h : ScAt Sc o s w) (n : Nat) : ScAt Sc o ⟨s.row, n⟩ (w.setCell ⟨Sc, 1, none⟩ (.int .i64 n)) ∧ LnTo Sc o o w (w.setCell ⟨Sc, 1, none⟩ (.int .i64 n)) := by
  obtain ⟨⟨v, hb, hs⟩, hn⟩ := h
  exact ⟨⟨⟨v, hb.set 1 _, hs.set _ _ hn⟩, hn⟩, (Kp.refl _ w).set _ _ (.inl (by simp)), .inl rfl⟩
theorem ScAt.wipe {Sc : Nat} {o : Option Nat} {s : Scr} {w : World} (h : ScAt Sc o s w) : ScAt Sc none ⟨[], s.at_⟩ (w.setCell ⟨Sc, 0, none⟩ (.slice none 0 0)) ∧ LnTo Sc o none w (w.setCell ⟨Sc, 0, none⟩ (.slice none 0 0)) := by
  obtain ⟨⟨v, hb, hs⟩, hn⟩ := h
  exact ⟨⟨⟨_, hb.set 0 _, Sl.nil _ _ _⟩, fun g e => by cases e⟩, (Kp.refl _ w).set _ _ (.inl (by simp)), .inr (.inl rfl)⟩
/-- A blank is put behind the row. -/
theorem ScAt.push {Sc : Nat} {o : Option Nat} {s : Scr} {w : World} (h : ScAt Sc o s w) : ∃ a cap, w.cell? ⟨Sc, 0, none⟩ = some (.slice a s.row.length cap) ∧ Sl (w.alloc (.cells #[.int .u8 32] 5)) 5 1 (.slice a s.row.length cap) s.row.length (bys s.row) o ∧
    ∀ a' cap' w1 oz, Sl w1 5 1 (.slice a' (s.row.length + 1) cap') (s.row.length + 1) (bys s.row ++ [.int .u8 32]) oz → (w.alloc (.cells #[.int .u8 32] 5)).grownBy w1 o → (oz = o ∨ oz = some (w.heap.size + 1) ∧ w.heap.size + 1 < w1.heap.size) →
      (w1.cell? ⟨Sc, 0, none⟩ = some (.slice a s.row.length cap) ∧ w1.frozen? ⟨Sc, 0, none⟩ = false) ∧ ScAt Sc oz ⟨s.row ++ [32], s.at_⟩ (w1.setCell ⟨Sc, 0, none⟩ (.slice a' (s.row.length + 1) cap')) ∧ LnTo Sc o oz w (w1.setCell ⟨Sc, 0, none⟩ (.slice a' (s.row.length + 1) cap')) := by
  obtain ⟨⟨v, hb, hs⟩, hn⟩ := h
  obtain ⟨a, cap, rfl, hl1, hl2⟩ := hs.shape
  have hs' := hs.alloc (.cells #[.int .u8 32] 5)
  have hb' := hb.alloc (.cells #[.int .u8 32] 5)
  refine ⟨a, cap, hb.cell 0 rfl, hs', fun a' cap' w1 oz h1 h2 h3 => ?_⟩
  have hk0 : Kp (Sc :: o.toList) w (w.alloc (.cells #[.int .u8 32] 5)) := (Kp.refl _ w).alloc _
  have hk1 : Kp (Sc :: o.toList) w w1 := hk0.grown h2 fun k e => .inl (by simp [e])
  have hL : Sc < (w.alloc (.cells #[.int .u8 32] 5)).heap.size := hb'.lt
  have hbl : Blk w1 Sc 35 [.slice a s.row.length cap, .int .i64 (s.at_ : Nat)] := by
    unfold Blk
    rw [h2.block Sc hL fun e => hn Sc e.symm rfl]; exact hb'
  have hzn : ∀ g, oz = some g → g ≠ Sc := by
    intro g e
    rcases h3 with h | ⟨h, _⟩
    · exact hn g (by rw [← h, e])
    · rw [h] at e; cases e; have : Sc < w.heap.size := hb.lt; omega
  refine ⟨⟨hbl.cell 0 rfl, hbl.frozen 0⟩, ⟨⟨_, hbl.set 0 _, ?_⟩, hzn⟩, hk1.set _ _ (.inl (by simp)), ?_⟩
  · have e1 : bys (s.row ++ [32]) = bys s.row ++ [.int .u8 32] := by rw [bys_app]; rfl
    dsimp only
    rw [List.length_append, e1]
    exact h1.set _ _ hzn
  · rcases h3 with h | ⟨h, h5⟩
    · exact .inl h
    · refine .inr (.inr ⟨_, h, by omega, ?_⟩)
      simpa using h5
/-- A byte of the row is set. -/
theorem ScAt.poke {Sc : Nat} {o : Option Nat} {s : Scr} {w : World} (h : ScAt Sc o s w) (k : Nat) (hk : k < s.row.length) (c : UInt8) : ∃ g off cap, o = some g ∧ w.cell? ⟨Sc, 0, none⟩ = some (.slice (some ⟨g, off, none⟩) s.row.length cap) ∧ (∃ u, w.cell? ⟨g, off + k, none⟩ = some (.int .u8 u)) ∧ w.frozen? ⟨g, off + k, none⟩ = false ∧
    ScAt Sc o ⟨s.row.set k c, s.at_⟩ (w.setCell ⟨g, off + k, none⟩ (.int .u8 c.toNat)) ∧ LnTo Sc o o w (w.setCell ⟨g, off + k, none⟩ (.int .u8 c.toNat)) := by
  obtain ⟨⟨v, hb, hs⟩, hn⟩ := h
  obtain ⟨g, off, cap, rfl, rfl⟩ := hs.addr (by omega)
  have hc := hs.cells rfl k (u := .int .u8 s.row[k].toNat) (by simp [bys, hk])
  refine ⟨g, off, cap, rfl, hb.cell 0 rfl, ⟨_, hc.1⟩, hc.2, ⟨⟨_, hb.other _ _ (Ne.symm (hn g rfl)), ?_⟩, hn⟩, (Kp.refl _ w).set _ _ (.inl (by simp)), .inl rfl⟩
  have := hs.poke k (.int .u8 c.toNat)
  have e : bys (s.row.set k c) = (bys s.row).set k (.int .u8 c.toNat) := by simp [bys, List.map_set]
  dsimp only
  rw [List.length_set, e]
  exact this
set_option maxHeartbeats 4000000 in
set_option maxRecDepth 100000 in
theorem shows_any (Sc : Nat) (o : Option Nat) (s : Scr) (w : World) (h : ScAt Sc o s w) (l : List UInt8) (hb : s.row.length + s.at_ + l.length + 1 ≤ 100000) :
    Calls Tryz.prog 15 #[.pointer (some ⟨Sc, 0, none⟩), .string (str l)] w fun e w' => e = .returned (.tuple #[]) ∧ ∃ o', ScAt Sc o' (s.shows l) w' ∧ LnTo Sc o o' w w' := by
  obtain ⟨i0, hi, hz0, hz1, hz2⟩ := info_parts info_u8
  have hsz : (str l).size = l.length := str_size l
  have HB : Hid (∀ j, (s.shows (l.take j)).at_ ≤ s.at_ + j ∧ (s.shows (l.take j)).row.length ≤ s.row.length + s.at_ + j + 1) := shows_bound s l
  have HSZ : Hid ((str l).size = l.length) := hsz
  have hs0 : ScAt Sc o (s.shows (l.take 0)) w := h
  clear hsz h
  go_enter Tryz.func15, Tryz.ntmps15
  go_wp2_with fail
  go_loopg [4, 5] (str l).size (fun kk iv _ wr => ∃ (j : Nat) (o1 : Option Nat) (st : Scr), j + kk = (str l).size ∧ iv = .int .i64 j ∧ Hid (ScAt Sc o1 st wr) ∧ Hid (LnTo Sc o o1 w wr) ∧ Hid (st = s.shows (l.take j)))
  case atStart => exact ⟨0, o, _, by omega, rfl, hs0, LnTo.refl _ _ _, rfl⟩
  case round =>
    clear hs0
    obtain ⟨j, o1, st, hj, rfl, hsc, hto, hst⟩ := hrel
    by_cases hlt : j < (str l).size
    · have hlt' : (j : Int) < ((str l).size : Int) := by omega
      have hjl : j < l.length := by have := HSZ.out; omega
      have hcj : (str l)[j] = l[j] := by show l.toArray[j] = _; simp
      have HN : Hid (s.shows (l.take (j + 1)) = st.show1 (str l)[j]) := by show s.shows _ = _; rw [shows_next s l j hjl, hcj, hst.out]
      have hbd := HB.out j
      rw [← hst.out] at hbd
      obtain ⟨hb1, hb2⟩ := hbd
      obtain ⟨v, hbk, hsl⟩ := hsc.out.ex
      obtain ⟨ra, rcap, rfl, _, _⟩ := hsl.shape
      have k0 := hbk.cell 0 rfl
      have k1 := hbk.cell 1 rfl
      have f0 := hbk.frozen 0
      have f1 := hbk.frozen 1
      clear hbk hsl hcj HB
      have hsz2 : (str l).size ≤ l.length := by have := HSZ.out; omega
      clear HSZ
      have HW : Hid (∀ c, st.show1 c = if c.toNat = 8 then ⟨st.row, st.at_ - 1⟩ else if c.toNat = 13 then ⟨st.row, 0⟩ else if c.toNat = 10 then ⟨[], st.at_⟩ else ⟨(Scr.pad st.row st.at_).set st.at_ c, st.at_ + 1⟩) := fun c => rfl
      by_cases h8 : (str l)[j].toNat = 8
      · have n8 : (((str l)[j].toNat : Int) == 8) = true := by simp; omega
        have HN2 : Hid (s.shows (l.take (j + 1)) = ⟨st.row, st.at_ - 1⟩) := by show s.shows _ = _; rw [HN.out, HW.out, if_pos h8]
        clear h8 HN HW
        by_cases hz : 0 < st.at_
        · have hz' : (0 : Int) < (st.at_ : Int) := by omega
          obtain ⟨hp1, hp2⟩ := hsc.out.put (st.at_ - 1)
          have ec : ((st.at_ - 1 : Nat) : Int) = (st.at_ : Int) - 1 := by omega
          rw [ec] at hp1 hp2
          have HP1 : Hid (ScAt Sc o1 ⟨st.row, st.at_ - 1⟩ (wr.setCell ⟨Sc, 1, none⟩ (.int .i64 ((st.at_ : Int) - 1)))) := hp1
          have HP2 : Hid (LnTo Sc o o1 w (wr.setCell ⟨Sc, 1, none⟩ (.int .i64 ((st.at_ : Int) - 1)))) := hto.out.trans hp2
          clear hp1 hp2 ec
          go_wp2_with fail
          go_roundg (gk - 1)
          case measure => omega
          case rel => exact ⟨j + 1, o1, _, by omega, by go_num, HP1, HP2, HN2.out.symm⟩
        · have hz' : ¬ (0 : Int) < (st.at_ : Int) := by omega
          have HX : Hid (⟨st.row, st.at_ - 1⟩ = st) := by
            show (⟨st.row, st.at_ - 1⟩ : Scr) = st
            have : st.at_ - 1 = st.at_ := by omega
            rw [this]
          go_wp2_with fail
          go_roundg (gk - 1)
          case measure => omega
          case rel => exact ⟨j + 1, o1, st, by omega, by go_num, hsc, hto, by show st = _; rw [HN2.out, HX.out]⟩
      have n8 : (((str l)[j].toNat : Int) == 8) = false := beq_eq_false_iff_ne.2 (by omega)
      by_cases h13 : (str l)[j].toNat = 13
      · have n13 : (((str l)[j].toNat : Int) == 13) = true := by simp; omega
        have HN2 : Hid (s.shows (l.take (j + 1)) = ⟨st.row, 0⟩) := by show s.shows _ = _; rw [HN.out, HW.out, if_neg h8, if_pos h13]
        obtain ⟨hp1, hp2⟩ := hsc.out.put 0
        have HP1 : Hid (ScAt Sc o1 ⟨st.row, 0⟩ (wr.setCell ⟨Sc, 1, none⟩ (.int .i64 0))) := hp1
        have HP2 : Hid (LnTo Sc o o1 w (wr.setCell ⟨Sc, 1, none⟩ (.int .i64 0))) := hto.out.trans hp2
        clear h8 h13 HN HW hp1 hp2
        go_wp2_with fail
        go_roundg (gk - 1)
        case measure => omega
        case rel => exact ⟨j + 1, o1, _, by omega, by go_num, HP1, HP2, HN2.out.symm⟩
      have n13 : (((str l)[j].toNat : Int) == 13) = false := beq_eq_false_iff_ne.2 (by omega)
      by_cases h10 : (str l)[j].toNat = 10
      · have n10 : (((str l)[j].toNat : Int) == 10) = true := by simp; omega
        have HN2 : Hid (s.shows (l.take (j + 1)) = ⟨[], st.at_⟩) := by show s.shows _ = _; rw [HN.out, HW.out, if_neg h8, if_neg h13, if_pos h10]
        obtain ⟨hp1, hp2⟩ := hsc.out.wipe
        have HP1 : Hid (ScAt Sc none ⟨[], st.at_⟩ (wr.setCell ⟨Sc, 0, none⟩ (.slice none 0 0))) := hp1
        have HP2 : Hid (LnTo Sc o none w (wr.setCell ⟨Sc, 0, none⟩ (.slice none 0 0))) := hto.out.trans hp2
        clear h8 h13 h10 HN HW hp1 hp2
        go_wp2_with fail
        go_roundg (gk - 1)
        case measure => omega
        case rel => exact ⟨j + 1, none, _, by omega, by go_num, HP1, HP2, HN2.out.symm⟩
      have n10 : (((str l)[j].toNat : Int) == 10) = false := beq_eq_false_iff_ne.2 (by omega)
      have HN2 : Hid (s.shows (l.take (j + 1)) = ⟨(Scr.pad st.row st.at_).set st.at_ (str l)[j], st.at_ + 1⟩) := by show s.shows _ = _; rw [HN.out, HW.out, if_neg h8, if_neg h13, if_neg h10]
      clear h8 h13 h10 HN HW
      obtain ⟨K1, hK1⟩ : ∃ K1, K1 = gk := ⟨_, rfl⟩
      have hj1 : j + K1 = (str l).size := by omega
      have hK2 : K1 ≤ gk := by omega
      have hK3 : 0 < K1 := by omega
      clear hK1
      obtain ⟨R0, hR0⟩ : ∃ R0 : Nat, st.row.length = R0 := ⟨_, rfl⟩
      have HR0 : Hid (st.row.length = R0) := hR0
      have hr1 : R0 ≤ 100000 := by omega
      clear hR0 k0 k1 f0 f1
      go_wp2_with fail
      clear n8 n13 n10
      rename_i e8 e13 e10 KX aX
      simp only [e8, e13, e10]
      go_loopg [] (st.at_ + 1) (fun kk wr => ∃ (m : Nat) (o3 : Option Nat), m ≤ st.at_ + 1 - R0 ∧ st.at_ + 1 ≤ kk + m ∧ Hid (ScAt Sc o3 ⟨st.row ++ List.replicate m 32, st.at_⟩ wr) ∧ Hid (LnTo Sc o o3 w wr))
      case atStart => exact ⟨0, o1, by omega, by omega, by show ScAt Sc o1 ⟨st.row ++ List.replicate 0 32, st.at_⟩ wr; simpa using hsc.out, hto⟩
      case round =>
        clear hsc hto
        obtain ⟨m, o3, hm1, hm2, hsc, hto⟩ := hrel
        have hl0 : (st.row ++ List.replicate m (32 : UInt8)).length = R0 + m := by rw [List.length_append, HR0.out]; simp
        obtain ⟨rowm, hrm⟩ : ∃ rowm, st.row ++ List.replicate m (32 : UInt8) = rowm := ⟨_, rfl⟩
        have HRM : Hid (st.row ++ List.replicate m (32 : UInt8) = rowm) := hrm
        rw [hrm] at hl0 hsc
        have HL0 : Hid (rowm.length = R0 + m) := hl0
        clear hrm hl0
        obtain ⟨v, hbk, hsl⟩ := hsc.out.ex
        obtain ⟨ra, rcap, rfl, _, _⟩ := hsl.shape
        have k0 := hbk.cell 0 (v := .slice ra rowm.length rcap) rfl
        have k1 := hbk.cell 1 (v := .int .i64 (st.at_ : Nat)) rfl
        clear hbk hsl
        by_cases hle : rowm.length ≤ st.at_
        · have hle' : ((rowm.length : Nat) : Int) ≤ ((st.at_ : Nat) : Int) := by omega
          have hrl : rowm.length ≤ 100000 := by omega
          have hmm : m + 1 ≤ st.at_ + 1 - R0 := by have := HL0.out; omega
          go_wp2_with fail
          go_quiet (fail)
          obtain ⟨pa, pcap, c0, psl, hpush⟩ := (hsc.out.drewN nq).push
          have HPU : Hid _ := hpush
          have htd := hto.out.drewN nq
          have HTD : Hid (LnTo Sc o o3 w (wr.drewN nq)) := htd
          have c1 : (wr.drewN nq).cell? ⟨Sc, 0, none⟩ = some (.slice pa rowm.length pcap) := c0
          clear hpush htd k0 k1 c0
          go_wp2_with (at_builtin; refine wpList_append_sl rfl (.tmp 30) (.tmp 31) 33 33 rfl psl rfl i0 (.int .u8 0) 1 Tryz.underlying33 hi hz0 hz1 hz2 rfl (.slice (some ⟨(wr.drewN nq).heap.size, 0, none⟩) 1 1) 1 [.int .u8 32] rfl ?src ?b1 ?b2 ?next)
          case src => exact (Sl.made (wr.drewN nq) [.int .u8 32] 1 5 1 rfl (by simp [maxLen])).src Tryz.underlying33 (by intro u hu; simp at hu; subst hu; rfl)
          case b1 => unfold maxLen; omega
          case b2 => omega
          case next =>
            intro a' cap' w1 oz hs1 hg1 ho1
            obtain ⟨⟨q0, q1⟩, hsc3, hto3⟩ := HPU.out a' cap' w1 oz hs1 hg1 ho1
            have HS3 : Hid (ScAt Sc oz ⟨st.row ++ List.replicate (m + 1) 32, st.at_⟩ (w1.setCell ⟨Sc, 0, none⟩ (.slice a' (rowm.length + 1) cap'))) := by
              show ScAt Sc oz _ _
              rw [List.replicate_succ', ← List.append_assoc, HRM.out]; exact hsc3
            have HT3 : Hid (LnTo Sc o oz w (w1.setCell ⟨Sc, 0, none⟩ (.slice a' (rowm.length + 1) cap'))) := HTD.out.trans hto3
            clear hs1 hg1 ho1 HPU HTD hsc3 hto3 psl c1
            go_wp2_with fail
            go_roundg (gk - 1)
            case measure => omega
            case rel => exact ⟨m + 1, oz, hmm, by omega, HS3, HT3⟩
        · have hle' : ¬ ((rowm.length : Nat) : Int) ≤ ((st.at_ : Nat) : Int) := by omega
          have hrl : st.at_ < rowm.length := by omega
          have hmx : m = st.at_ + 1 - R0 := by have := HL0.out; omega
          have HPD : Hid (Scr.pad st.row st.at_ = rowm) := by show Scr.pad _ _ = _; unfold Scr.pad; rw [HR0.out, ← hmx]; exact HRM.out
          clear hmx
          go_wp2_with fail
          go_quiet (fail)
          obtain ⟨g, off, pcap, ho3, c0, ⟨u, cu⟩, fz, hsc4, hto4⟩ := (hsc.out.drewN (nq + 1)).poke st.at_ hrl (str l)[j]
          have hto5 := (hto.out.drewN (nq + 1)).trans hto4
          have c1 : wr.cell? ⟨Sc, 0, none⟩ = some (.slice (some ⟨g, off, none⟩) rowm.length pcap) := c0
          have cu1 : wr.cell? ⟨g, off + st.at_, none⟩ = some (.int .u8 u) := cu
          have fz1 : wr.frozen? ⟨g, off + st.at_, none⟩ = false := fz
          have hlt5 : ((st.at_ : Nat) : Int) < ((rowm.length : Nat) : Int) := by omega
          have hne1 : g ≠ Sc := hsc.out.ne g ho3
          have hne2 : Sc ≠ g := Ne.symm hne1
          obtain ⟨v5, hbk5, _⟩ := hsc.out.ex
          have ff1 := hbk5.frozen 1
          obtain ⟨hp1, hp2⟩ := hsc4.put (st.at_ + 1)
          have ec : ((st.at_ + 1 : Nat) : Int) = (st.at_ : Int) + 1 := by omega
          rw [ec] at hp1 hp2
          have HP1 : Hid (ScAt Sc o3 ⟨(Scr.pad st.row st.at_).set st.at_ (str l)[j], st.at_ + 1⟩ (((wr.drewN (nq + 1)).setCell ⟨g, off + st.at_, none⟩ (.int .u8 (str l)[j].toNat)).setCell ⟨Sc, 1, none⟩ (.int .i64 ((st.at_ : Int) + 1)))) := by show ScAt Sc o3 _ _; rw [HPD.out]; exact hp1
          have HP2 : Hid (LnTo Sc o o3 w (((wr.drewN (nq + 1)).setCell ⟨g, off + st.at_, none⟩ (.int .u8 (str l)[j].toNat)).setCell ⟨Sc, 1, none⟩ (.int .i64 ((st.at_ : Int) + 1)))) := hto5.trans hp2
          clear hsc4 hto4 ho3 k0 c0 cu fz hto5 hbk5 hp1 hp2 ec
          go_wp2_with fail
          go_region
          go_wp2_with fail
          go_roundg (K1 - 1)
          case measure => omega
          case rel => exact ⟨j + 1, o3, _, by omega, by go_num, HP1, HP2, HN2.out.symm⟩
    · obtain rfl : j = (str l).size := by omega
      have HE : Hid (st = s.shows l) := by show st = _; rw [hst.out, List.take_of_length_le (by have := HSZ.out; omega)]
      clear hst
      go_wp2_with fail
      go_end0
      exact ⟨rfl, o1, by rw [← HE.out]; exact hsc.out, hto.out⟩
end Go.Proofs.YtfnglkhhmplejaaGreat
