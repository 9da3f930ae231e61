/- Walks: clackkeep's lines. -/
import Derived.Test.YtfnglkhhmplejaaGreatKW
import Derived.Deep.DeepCutAuto
import Derived.Deep.CutBlock
namespace Go.Clk
open Go
theorem wordB_gap (c : UInt8) (r : List UInt8) (h : gapB c = true) : wordB (c :: r) = 1 + wordB r := by
  unfold wordB; simp [h]; omega
def inB (r : List UInt8) : Nat := (r.takeWhile fun c => !gapB c).length
theorem inB_in (c : UInt8) (r : List UInt8) (h : gapB c = false) : inB (c :: r) = 1 + inB r := by
  unfold inB; simp [h]; omega
theorem inB_gap (c : UInt8) (r : List UInt8) (h : gapB c = true) : inB (c :: r) = 0 := by
  unfold inB; simp [h]
theorem wordB_in (c : UInt8) (r : List UInt8) (h : gapB c = false) : wordB (c :: r) = inB (c :: r) := by
  unfold wordB inB; simp [h]
theorem rev_take (p : List UInt8) (q : Nat) (h : q < p.length) : (p.take (q + 1)).reverse = p[q] :: (p.take q).reverse := by
  rw [List.take_add_one, List.getElem?_eq_getElem h]; simp
end Go.Clk
namespace Go.Proofs.YtfnglkhhmplejaaGreat
open Go Go.RowKit Go.Clk
/-- A line that lies at L, its bytes in the block o. -/
structure LnAt (L : Nat) (o : Option Nat) (p : List UInt8) (en fi : Bool) (w : World) : Prop where
  ex : ∃ v, Blk w L 38 [v, .bool en, .bool fi] ∧ Sl w 5 1 v p.length (bys p) o
  ne : ∀ g, o = some g → g ≠ L
/-- What a reader gets of a line. -/
def lineText (p : List UInt8) (fi : Bool) : ByteArray := str (p ++ if fi then [] else [10])
/-- What a line may turn. -/
def LnTo (L : Nat) (o o' : Option Nat) (w w' : World) : Prop := Kp (L :: o.toList) w w' ∧ (o' = o ∨ o' = none ∨ ∃ g, o' = some g ∧ w.heap.size ≤ g ∧ g < w'.heap.size)
section
variable {L : Nat} {o : Option Nat} {p : List UInt8} {en fi : Bool} {w w' : World}
theorem LnAt.kq {x : List Nat} (h : LnAt L o p en fi w) (hk : Kq x w w') (h1 : L ∈ x) (h2 : ∀ g, o = some g → g ∈ x) : LnAt L o p en fi w' := by
  obtain ⟨⟨v, hb, hs⟩, hn⟩ := h
  exact ⟨⟨v, hk.blk hb h1, hk.sl hs h2⟩, hn⟩
theorem LnAt.kq' (h : LnAt L o p en fi w) (hk : Kq (L :: o.toList) w w') : LnAt L o p en fi w' := h.kq hk (by simp) (fun g e => by simp [e])
theorem LnAt.lt (h : LnAt L o p en fi w) : L < w.heap.size := by obtain ⟨⟨v, hb, _⟩, _⟩ := h; exact hb.lt
theorem AtT.line {w0 : World} {b : Nat} {σ : St} {o' : Option Nat} (h : AtT [] w0 (L :: o.toList) b σ w) (hk : LnTo L o o' w w') (h0 : w0.heap.size ≤ L) (h1 : ∀ g, o = some g → w0.heap.size ≤ g) :
    AtT [] w0 (L :: o'.toList) b σ w' ∧ (∀ g, o' = some g → w0.heap.size ≤ g) := by
  obtain ⟨hk, ho⟩ := hk
  obtain ⟨ρ, hs, ⟨vi, vu, vo, vs, h⟩⟩ := h
  have hkp : Kp [] w0 w' := h.2.kp.trans hk fun g hg => by
    rcases List.mem_cons.1 hg with rfl | hg
    · exact .inr h0
    · exact .inr (h1 g (by simpa using hg))
  have hb : ∀ k, k < w.heap.size → k ∉ L :: o.toList → w'.heap[k]? = w.heap[k]? := fun k q1 q2 => hk.block k q1 q2
  have h2 := h.2.same hkp hk.size hb
  rcases ho with rfl | rfl | ⟨g, rfl, g1, g2⟩
  · exact ⟨⟨ρ, hs, vi, vu, vo, vs, h.1, h2⟩, h1⟩
  · exact ⟨⟨ρ, hs, vi, vu, vo, vs, h.1, h2.weaken fun g hg => by simp at hg; simp [hg]⟩, fun g e => by cases e⟩
  · have h3 := h.2.avoid hkp hk.size hb g1 g2
    refine ⟨⟨ρ, hs, vi, vu, vo, vs, h.1, h3.weaken fun z hz => ?_⟩, fun z e => by cases e; exact Nat.le_trans h.2.kp.size g1⟩
    simp at hz
    rcases hz with rfl | rfl
    · simp
    · simp
end
section
variable (L : Nat) (o : Option Nat) (p : List UInt8) (en fi : Bool) (w : World)
set_option maxHeartbeats 400000 in
theorem text_any (h : LnAt L o p en fi w) (hp : p.length ≤ 100000) : Calls Tryz.prog 18 #[.pointer (some ⟨L, 0, none⟩)] w fun e w' => e = .returned (.string (lineText p fi)) ∧ w = w' := by
  obtain ⟨⟨v, hb, hs⟩, _⟩ := h
  have c0 := hb.cell 0 rfl
  have c2 := hb.cell 2 rfl
  clear hb
  cases fi with
  | true =>
    have e1 : Hid (lineText p true = str p) := by show lineText p true = _; simp [lineText]
    go_enter Tryz.func18, Tryz.ntmps18
    go_wp2_with (refine wpList_string rfl (.tmp 10) 33 9 rfl Tryz.underlying33 Tryz.underlying5 Tryz.underlying9 rfl hs ?_)
    go_ret
    rw [e1.out]
    exact ⟨rfl, rfl⟩
  | false =>
    have hsz : ¬ 9223372036854775807 < (str p).size + 1 := by rw [str_size]; omega
    have e1 : Hid (lineText p false = str p ++ ⟨#[10]⟩) := by
      show lineText p false = _
      apply ByteArray.ext
      rw [ByteArray.data_append]
      simp [str, lineText]
    go_enter Tryz.func18, Tryz.ntmps18
    go_wp2_with (refine wpList_string rfl (.tmp 15) 33 9 rfl Tryz.underlying33 Tryz.underlying5 Tryz.underlying9 rfl hs ?_)
    go_ret
    rw [e1.out]
    exact ⟨rfl, rfl⟩
set_option maxHeartbeats 1000000 in
set_option maxRecDepth 100000 in
/-- The last word is rubbed out. -/
theorem typed_word (h : LnAt L o p false false w) (hp : p.length ≤ 100000) (f : Bool) :
    Calls Tryz.prog 14 #[.pointer (some ⟨L, 0, none⟩), .int .u8 23, .bool true, .bool f] w fun e w' => e = .returned (.tuple #[]) ∧ ∃ o', LnAt L o' (p.take (p.length - wordB p.reverse)) false false w' ∧ LnTo L o o' w w' := by
  obtain ⟨i0, hi, hz0, hz1, hz2⟩ := info_parts info_u8
  obtain ⟨⟨v, hb, hs⟩, hn⟩ := h
  have c0 := hb.cell 0 rfl
  have f0 := hb.frozen 0
  by_cases hne : p = []
  · subst hne
    obtain ⟨a, cap, rfl, hl1, hl2⟩ := hs.shape
    have HE : Hid (∃ o', LnAt L o' ([].take (([] : List UInt8).length - wordB ([] : List UInt8).reverse)) false false (w.setCell ⟨L, 0, none⟩ (.slice a 0 cap)) ∧ LnTo L o o' w (w.setCell ⟨L, 0, none⟩ (.slice a 0 cap))) := by
      refine ⟨o, ⟨⟨_, hb.set 0 _, ?_⟩, hn⟩, ?_, .inl rfl⟩
      · exact hs.set _ _ hn
      · exact (Kp.refl _ w).set _ _ (.inl (by simp))
    go_enter Tryz.func14, Tryz.ntmps14
    go_wp2_with fail
    go_loopg [8] 0 (fun k nv wr => nv = .int .i64 0 ∧ wr = w)
    case atStart => exact ⟨rfl, rfl⟩
    case round =>
      obtain ⟨rfl, hwr⟩ := hrel
      have hwr := hwr.symm
      subst hwr
      go_wp2_with fail
      go_loopg [8] 0 (fun k nv wr => nv = .int .i64 0 ∧ wr = w)
      case atStart => exact ⟨rfl, rfl⟩
      case round =>
        obtain ⟨rfl, hwr⟩ := hrel
        have hwr := hwr.symm
        subst hwr
        go_wp2_with (refine wpList_front rfl (.tmp 107) (.tmp 108) 33 rfl i0 Tryz.underlying33 hi rfl hs _ rfl (by omega) (by simp) ?_)
        intro hs2
        go_wp2_with fail
        go_end0
        exact ⟨rfl, HE.out⟩
  · have hpl : 0 < p.length := by cases p with
      | nil => exact absurd rfl hne
      | cons a r => simp
    obtain ⟨g, off, cap, rfl, rfl⟩ := hs.addr hpl
    have hgn := hn g rfl
    have HS : Hid (Sl w 5 1 (.slice (some ⟨g, off, none⟩) p.length cap) p.length (bys p) (some g)) := hs
    have HE : Hid (∀ k : Nat, k ≤ p.length → wordB p.reverse = p.length - k → Sl w 5 1 (.slice (some ⟨g, off, none⟩) k cap) k ((bys p).take k) (some g) → ∃ o', LnAt L o' (p.take (p.length - wordB p.reverse)) false false (w.setCell ⟨L, 0, none⟩ (.slice (some ⟨g, off, none⟩) k cap)) ∧ LnTo L (some g) o' w (w.setCell ⟨L, 0, none⟩ (.slice (some ⟨g, off, none⟩) k cap))) := fun k hk hw h2 => by
      refine ⟨some g, ⟨⟨_, hb.set 0 _, ?_⟩, hn⟩, (Kp.refl _ w).set _ _ (.inl (by simp)), .inl rfl⟩
      have e1 : p.length - wordB p.reverse = k := by omega
      rw [e1]
      have e2 : (p.take k).length = k := by simp; omega
      have e3 : (bys p).take k = bys (p.take k) := by unfold bys; rw [List.map_take]
      rw [e3] at h2
      rw [e2]
      exact h2.set _ _ hn
    clear hb hs hn hne
    go_enter Tryz.func14, Tryz.ntmps14
    go_wp2_with fail
    go_loopg [8] p.length (fun k nv wr => ∃ (f : Nat), f ≤ k ∧ k ≤ f ∧ f ≤ p.length ∧ nv = .int .i64 f ∧ wr = w ∧ Hid (wordB p.reverse = (p.length - f) + wordB (p.take f).reverse))
    case atStart => exact ⟨p.length, by omega, by omega, by omega, rfl, rfl, by show _ = _; simp⟩
    case round =>
      obtain ⟨f, hfk, hfk2, hfl, rfl, hwr, hwd⟩ := hrel
      have hwr := hwr.symm
      subst hwr
      by_cases hz : 0 < f
      · obtain ⟨q, rfl⟩ : ∃ q, f = q + 1 := ⟨f - 1, by omega⟩
        have hql : q < p.length := by omega
        have HD : Hid ((p.take (q + 1)).reverse = p[q] :: (p.take q).reverse) := rev_take p q hql
        have kc := (HS.out.cells rfl q (u := .int .u8 p[q].toNat) (by simp [bys, hql])).1
        have HG : Hid (gapB p[q] = (((p[q].toNat : Int) == 32) || ((p[q].toNat : Int) == 9))) := rfl
        generalize p[q] = d at *
        cases h32 : ((d.toNat : Int) == 32) with
        | true =>
          have HX : Hid (wordB p.reverse = (p.length - q) + wordB (p.take q).reverse) := by show _ = _; rw [hwd.out, HD.out, wordB_gap _ _ (by rw [HG.out, h32]; rfl)]; omega
          clear hwd HD HG
          go_wp2_with fail
          go_roundg (gk - 1)
          case measure => omega
          case rel => exact ⟨q, by omega, by omega, by omega, by go_num, rfl, HX⟩
        | false =>
          cases h9 : ((d.toNat : Int) == 9) with
          | true =>
            have HX : Hid (wordB p.reverse = (p.length - q) + wordB (p.take q).reverse) := by show _ = _; rw [hwd.out, HD.out, wordB_gap _ _ (by rw [HG.out, h32, h9]; rfl)]; omega
            clear hwd HD HG
            go_wp2_with fail
            go_roundg (gk - 1)
            case measure => omega
            case rel => exact ⟨q, by omega, by omega, by omega, by go_num, rfl, HX⟩
          | false =>
            have HX : Hid (wordB p.reverse = (p.length - (q + 1)) + inB (p.take (q + 1)).reverse) := by show _ = _; rw [hwd.out, HD.out, wordB_in _ _ (by rw [HG.out, h32, h9]; rfl)]
            clear hwd HD HG
            go_wp2_with fail
            clear h32 h9 kc hz
            go_loopg [8] (q + 1) (fun k nv wr => ∃ (f : Nat), f ≤ k ∧ k ≤ f ∧ f ≤ p.length ∧ nv = .int .i64 f ∧ wr = w ∧ Hid (wordB p.reverse = (p.length - f) + inB (p.take f).reverse))
            case atStart => exact ⟨q + 1, by omega, by omega, by omega, by go_num, rfl, HX⟩
            case round =>
              obtain ⟨f, hfk, hfk2, hfl, rfl, hwr, hwd⟩ := hrel
              have hwr := hwr.symm
              subst hwr
              by_cases hz : 0 < f
              · obtain ⟨q, rfl⟩ : ∃ q, f = q + 1 := ⟨f - 1, by omega⟩
                have hql : q < p.length := by omega
                have HD : Hid ((p.take (q + 1)).reverse = p[q] :: (p.take q).reverse) := rev_take p q hql
                have kc := (HS.out.cells rfl q (u := .int .u8 p[q].toNat) (by simp [bys, hql])).1
                have HG : Hid (gapB p[q] = (((p[q].toNat : Int) == 32) || ((p[q].toNat : Int) == 9))) := rfl
                generalize p[q] = d at *
                cases h32 : ((d.toNat : Int) == 32) with
                | true =>
                  have h32' : ((d.toNat : Int) != 32) = false := by simpa using h32
                  have HX : Hid (wordB p.reverse = p.length - (q + 1)) := by show _ = _; rw [hwd.out, HD.out, inB_gap _ _ (by rw [HG.out, h32]; rfl)]; rfl
                  clear hwd HD HG h32
                  go_wp2_with (refine wpList_front rfl (.tmp 107) (.tmp 108) 33 rfl i0 Tryz.underlying33 hi rfl HS.out _ rfl (by omega) (by omega) ?_)
                  intro hs2
                  go_wp2_with fail
                  go_end0
                  exact ⟨rfl, HE.out (q + 1) (by omega) HX.out (by simpa using hs2)⟩
                | false =>
                  have h32' : ((d.toNat : Int) != 32) = true := by simpa using h32
                  cases h9 : ((d.toNat : Int) == 9) with
                  | true =>
                    have h9' : ((d.toNat : Int) != 9) = false := by simpa using h9
                    have HX : Hid (wordB p.reverse = p.length - (q + 1)) := by show _ = _; rw [hwd.out, HD.out, inB_gap _ _ (by rw [HG.out, h32, h9]; rfl)]; rfl
                    clear hwd HD HG h32 h9
                    go_wp2_with (refine wpList_front rfl (.tmp 107) (.tmp 108) 33 rfl i0 Tryz.underlying33 hi rfl HS.out _ rfl (by omega) (by omega) ?_)
                    intro hs2
                    go_wp2_with fail
                    go_end0
                    exact ⟨rfl, HE.out (q + 1) (by omega) HX.out (by simpa using hs2)⟩
                  | false =>
                    have h9' : ((d.toNat : Int) != 9) = true := by simpa using h9
                    have HX : Hid (wordB p.reverse = (p.length - q) + inB (p.take q).reverse) := by show _ = _; rw [hwd.out, HD.out, inB_in _ _ (by rw [HG.out, h32, h9]; rfl)]; omega
                    clear hwd HD HG h32 h9
                    go_wp2_with fail
                    go_roundg (gk - 1)
                    case measure => omega
                    case rel => exact ⟨q, by omega, by omega, by omega, by go_num, rfl, HX⟩
              · obtain rfl : f = 0 := by omega
                have HX : Hid (wordB p.reverse = p.length - 0) := by show _ = _; rw [hwd.out]; simp [inB]
                clear hwd
                go_wp2_with (refine wpList_front rfl (.tmp 107) (.tmp 108) 33 rfl i0 Tryz.underlying33 hi rfl HS.out _ rfl (by omega) (by omega) ?_)
                intro hs2
                go_wp2_with fail
                go_end0
                exact ⟨rfl, HE.out 0 (by omega) HX.out (by simpa using hs2)⟩
      · obtain rfl : f = 0 := by omega
        have HX : Hid (wordB p.reverse = (p.length - 0) + inB (p.take 0).reverse) := by show _ = _; rw [hwd.out]; simp [inB, wordB]
        clear hwd
        go_wp2_with fail
        clear hz
        go_loopg [8] 0 (fun k nv wr => ∃ (f : Nat), f ≤ k ∧ k ≤ f ∧ f ≤ p.length ∧ nv = .int .i64 f ∧ wr = w ∧ Hid (wordB p.reverse = (p.length - f) + inB (p.take f).reverse))
        case atStart => exact ⟨0, by omega, by omega, by omega, rfl, rfl, HX⟩
        case round =>
          obtain ⟨f, hfk, hfk2, hfl, rfl, hwr, hwd⟩ := hrel
          have hwr := hwr.symm
          subst hwr
          by_cases hz : 0 < f
          · obtain ⟨q, rfl⟩ : ∃ q, f = q + 1 := ⟨f - 1, by omega⟩
            have hql : q < p.length := by omega
            have HD : Hid ((p.take (q + 1)).reverse = p[q] :: (p.take q).reverse) := rev_take p q hql
            have kc := (HS.out.cells rfl q (u := .int .u8 p[q].toNat) (by simp [bys, hql])).1
            have HG : Hid (gapB p[q] = (((p[q].toNat : Int) == 32) || ((p[q].toNat : Int) == 9))) := rfl
            generalize p[q] = d at *
            cases h32 : ((d.toNat : Int) == 32) with
            | true =>
              have h32' : ((d.toNat : Int) != 32) = false := by simpa using h32
              have HX : Hid (wordB p.reverse = p.length - (q + 1)) := by show _ = _; rw [hwd.out, HD.out, inB_gap _ _ (by rw [HG.out, h32]; rfl)]; rfl
              clear hwd HD HG h32
              go_wp2_with (refine wpList_front rfl (.tmp 107) (.tmp 108) 33 rfl i0 Tryz.underlying33 hi rfl HS.out _ rfl (by omega) (by omega) ?_)
              intro hs2
              go_wp2_with fail
              go_end0
              exact ⟨rfl, HE.out (q + 1) (by omega) HX.out (by simpa using hs2)⟩
            | false =>
              have h32' : ((d.toNat : Int) != 32) = true := by simpa using h32
              cases h9 : ((d.toNat : Int) == 9) with
              | true =>
                have h9' : ((d.toNat : Int) != 9) = false := by simpa using h9
                have HX : Hid (wordB p.reverse = p.length - (q + 1)) := by show _ = _; rw [hwd.out, HD.out, inB_gap _ _ (by rw [HG.out, h32, h9]; rfl)]; rfl
                clear hwd HD HG h32 h9
                go_wp2_with (refine wpList_front rfl (.tmp 107) (.tmp 108) 33 rfl i0 Tryz.underlying33 hi rfl HS.out _ rfl (by omega) (by omega) ?_)
                intro hs2
                go_wp2_with fail
                go_end0
                exact ⟨rfl, HE.out (q + 1) (by omega) HX.out (by simpa using hs2)⟩
              | false =>
                have h9' : ((d.toNat : Int) != 9) = true := by simpa using h9
                have HX : Hid (wordB p.reverse = (p.length - q) + inB (p.take q).reverse) := by show _ = _; rw [hwd.out, HD.out, inB_in _ _ (by rw [HG.out, h32, h9]; rfl)]; omega
                clear hwd HD HG h32 h9
                go_wp2_with fail
                go_roundg (gk - 1)
                case measure => omega
                case rel => exact ⟨q, by omega, by omega, by omega, by go_num, rfl, HX⟩
          · obtain rfl : f = 0 := by omega
            have HX : Hid (wordB p.reverse = p.length - 0) := by show _ = _; rw [hwd.out]; simp [inB]
            clear hwd
            go_wp2_with (refine wpList_front rfl (.tmp 107) (.tmp 108) 33 rfl i0 Tryz.underlying33 hi rfl HS.out _ rfl (by omega) (by omega) ?_)
            intro hs2
            go_wp2_with fail
            go_end0
            exact ⟨rfl, HE.out 0 (by omega) HX.out (by simpa using hs2)⟩
set_option maxHeartbeats 1000000 in
set_option maxRecDepth 100000 in
/-- A byte is typed. -/
theorem typed_any (h : LnAt L o p false false w) (hp : p.length ≤ 100000) (c : UInt8) (x f : Bool) :
    Calls Tryz.prog 14 #[.pointer (some ⟨L, 0, none⟩), .int .u8 c.toNat, .bool x, .bool f] w fun e w' => e = .returned (.tuple #[]) ∧ ∃ o', LnAt L o' (typed x f p c).1 (typed x f p c).2.1 (typed x f p c).2.2 w' ∧ LnTo L o o' w w' := by
  obtain ⟨i0, hi, hz0, hz1, hz2⟩ := info_parts info_u8
  obtain ⟨⟨v, hb, hs⟩, hn⟩ := h
  have c0 := hb.cell 0 rfl
  have c1 := hb.cell 1 rfl
  have c2 := hb.cell 2 rfl
  have f0 := hb.frozen 0
  have f1 := hb.frozen 1
  have f2 := hb.frozen 2
  obtain ⟨a, cap, rfl, hl1, hl2⟩ := hs.shape
  by_cases h127 : c.toNat = 127
  · have ht : Hid (typed x f p c = (p.take (p.length - 1), false, false)) := by show typed x f p c = _; unfold typed; rw [if_pos h127]
    have hc : (c.toNat : Int) = 127 := by omega
    rw [hc]
    by_cases hz : 0 < p.length
    · have hz' : 0 < (p.length : Int) := by omega
      have HE : Hid (Sl w 5 1 (.slice a (p.length - 1) cap) (p.length - 1) ((bys p).take (p.length - 1)) o → ∃ o', LnAt L o' (p.take (p.length - 1)) false false (w.setCell ⟨L, 0, none⟩ (.slice a (p.length - 1) cap)) ∧ LnTo L o o' w (w.setCell ⟨L, 0, none⟩ (.slice a (p.length - 1) cap))) := fun h2 => by
        refine ⟨o, ⟨⟨_, hb.set 0 _, ?_⟩, hn⟩, (Kp.refl _ w).set _ _ (.inl (by simp)), .inl rfl⟩
        have e2 : (p.take (p.length - 1)).length = p.length - 1 := by simp
        have e3 : (bys p).take (p.length - 1) = bys (p.take (p.length - 1)) := by unfold bys; rw [List.map_take]
        rw [e3] at h2
        rw [e2]
        exact h2.set _ _ hn
      clear hb hn hc h127
      go_enter Tryz.func14, Tryz.ntmps14
      go_wp2_with (refine wpList_front rfl (.tmp 33) (.tmp 35) 33 rfl i0 Tryz.underlying33 hi rfl hs _ rfl (by omega) (by omega) ?_)
      intro hs2
      go_wp2_with fail
      go_end0
      rw [ht.out]
      exact ⟨rfl, HE.out (by simpa using hs2)⟩
    · have hp0 : p = [] := by cases p with
        | nil => rfl
        | cons a r => simp at hz
      subst hp0
      have HE : Hid (∃ o', LnAt L o' (([] : List UInt8).take (([] : List UInt8).length - 1)) false false w ∧ LnTo L o o' w w) := ⟨o, ⟨⟨_, hb, hs⟩, hn⟩, Kp.refl _ w, .inl rfl⟩
      clear hb hn hs
      go_enter Tryz.func14, Tryz.ntmps14
      go_wp2_with fail
      go_end0
      rw [ht.out]
      exact ⟨rfl, HE.out⟩
  have n127 : ((c.toNat : Int) == 127) = false := beq_eq_false_iff_ne.2 (by omega)
  by_cases h21 : c.toNat = 21
  · have ht : Hid (typed x f p c = ([], false, false)) := by show typed x f p c = _; unfold typed; rw [if_neg h127, if_pos h21]
    have hc : (c.toNat : Int) = 21 := by omega
    rw [hc]
    have HE : Hid (∃ o', LnAt L o' [] false false (w.setCell ⟨L, 0, none⟩ (.slice none 0 0)) ∧ LnTo L o o' w (w.setCell ⟨L, 0, none⟩ (.slice none 0 0))) :=
      ⟨none, ⟨⟨_, hb.set 0 _, Sl.nil _ _ _⟩, fun g e => by cases e⟩, (Kp.refl _ w).set _ _ (.inl (by simp)), .inr (.inl rfl)⟩
    clear hb hn hc h127 n127 hs
    go_enter Tryz.func14, Tryz.ntmps14
    go_wp2_with fail
    go_end0
    rw [ht.out]
    exact ⟨rfl, HE.out⟩
  have n21 : ((c.toNat : Int) == 21) = false := beq_eq_false_iff_ne.2 (by omega)
  by_cases h23 : c.toNat = 23 ∧ x = true
  · have ht : typed x f p c = (p.take (p.length - wordB p.reverse), false, false) := by unfold typed; rw [if_neg h127, if_neg h21, if_pos h23]
    obtain ⟨h23, rfl⟩ := h23
    have hc : (c.toNat : Int) = 23 := by omega
    rw [hc, ht]
    exact typed_word L o p w ⟨⟨_, hb, hs⟩, hn⟩ hp f
  have n23 : (((c.toNat : Int) == 23) = false) ∨ (((c.toNat : Int) == 23) = true ∧ x = false) := by
    by_cases h : c.toNat = 23
    · right; exact ⟨by simp [h], by cases x with
        | true => exact absurd ⟨h, rfl⟩ h23
        | false => rfl⟩
    · left; exact beq_eq_false_iff_ne.2 (by omega)
  by_cases h4 : c.toNat = 4 ∧ f = true
  · have ht : Hid (typed x f p c = (p, true, true)) := by show typed x f p c = _; unfold typed; rw [if_neg h127, if_neg h21, if_neg h23, if_pos h4]
    obtain ⟨h4, rfl⟩ := h4
    have hc : (c.toNat : Int) = 4 := by omega
    rw [hc]
    have HE : Hid (∃ o', LnAt L o' p true true ((w.setCell ⟨L, 1, none⟩ (.bool true)).setCell ⟨L, 2, none⟩ (.bool true)) ∧ LnTo L o o' w ((w.setCell ⟨L, 1, none⟩ (.bool true)).setCell ⟨L, 2, none⟩ (.bool true))) :=
      ⟨o, ⟨⟨_, (hb.set 1 _).set 2 _, (hs.set _ _ hn).set _ _ hn⟩, hn⟩, ((Kp.refl _ w).set _ _ (.inl (by simp))).set _ _ (.inl (by simp)), .inl rfl⟩
    clear hb hn hc h127 n127 hs n21 n23 h23
    go_enter Tryz.func14, Tryz.ntmps14
    go_wp2_with fail
    go_end0
    rw [ht.out]
    exact ⟨rfl, HE.out⟩
  have n4 : (((c.toNat : Int) == 4) = false) ∨ (((c.toNat : Int) == 4) = true ∧ f = false) := by
    by_cases h : c.toNat = 4
    · right; exact ⟨by simp [h], by cases f with
        | true => exact absurd ⟨h, rfl⟩ h4
        | false => rfl⟩
    · left; exact beq_eq_false_iff_ne.2 (by omega)
  by_cases h10 : c.toNat = 10 ∨ c.toNat = 13
  · have ht : Hid (typed x f p c = (p, true, false)) := by show typed x f p c = _; unfold typed; rw [if_neg h127, if_neg h21, if_neg h23, if_neg h4, if_pos h10]
    have HE : Hid (∃ o', LnAt L o' p true false (w.setCell ⟨L, 1, none⟩ (.bool true)) ∧ LnTo L o o' w (w.setCell ⟨L, 1, none⟩ (.bool true))) :=
      ⟨o, ⟨⟨_, hb.set 1 _, hs.set _ _ hn⟩, hn⟩, (Kp.refl _ w).set _ _ (.inl (by simp)), .inl rfl⟩
    clear hb hn hs
    rcases h10 with h10 | h10
    · have hc : (c.toNat : Int) = 10 := by omega
      rw [hc]
      clear hc h127 n127 n21 n23 n4 h23 h4
      go_enter Tryz.func14, Tryz.ntmps14
      go_wp2_with fail
      go_end0
      rw [ht.out]
      exact ⟨rfl, HE.out⟩
    · have hc : (c.toNat : Int) = 13 := by omega
      rw [hc]
      clear hc h127 n127 n21 n23 n4 h23 h4
      go_enter Tryz.func14, Tryz.ntmps14
      go_wp2_with fail
      go_end0
      rw [ht.out]
      exact ⟨rfl, HE.out⟩
  have n10 : ((c.toNat : Int) == 10) = false := beq_eq_false_iff_ne.2 (by omega)
  have n13 : ((c.toNat : Int) == 13) = false := beq_eq_false_iff_ne.2 (by omega)
  have ht : Hid (typed x f p c = (p ++ [c], false, false)) := by show typed x f p c = _; unfold typed; rw [if_neg h127, if_neg h21, if_neg h23, if_neg h4, if_neg h10]
  have hs' := hs.alloc (.cells #[.int .u8 c.toNat] 5)
  have hb' := hb.alloc (.cells #[.int .u8 c.toNat] 5)
  have HE : Hid (∀ a' cap' w1 oz, Sl w1 5 1 (.slice a' (p.length + 1) cap') (p.length + 1) (bys p ++ [.int .u8 c.toNat]) oz → (w.alloc (.cells #[.int .u8 c.toNat] 5)).grownBy w1 o → (oz = o ∨ oz = some (w.heap.size + 1) ∧ w.heap.size + 1 < w1.heap.size) →
      (w1.cell? ⟨L, 0, none⟩ = some (.slice a p.length cap) ∧ w1.frozen? ⟨L, 0, none⟩ = false) ∧ ∃ o', LnAt L o' (p ++ [c]) false false (w1.setCell ⟨L, 0, none⟩ (.slice a' (p.length + 1) cap')) ∧ LnTo L o o' w (w1.setCell ⟨L, 0, none⟩ (.slice a' (p.length + 1) cap'))) := fun a' cap' w1 oz h1 h2 h3 => by
    have hk0 : Kp (L :: o.toList) w (w.alloc (.cells #[.int .u8 c.toNat] 5)) := (Kp.refl _ w).alloc _
    have hk1 : Kp (L :: o.toList) w w1 := hk0.grown h2 fun k e => .inl (by simp [e])
    have hL : L < (w.alloc (.cells #[.int .u8 c.toNat] 5)).heap.size := hb'.lt
    have hbl : Blk w1 L 38 [.slice a p.length cap, .bool false, .bool false] := by
      unfold Blk
      rw [h2.block L hL fun e => hn L e.symm rfl]; exact hb'
    have hzn : ∀ g, oz = some g → g ≠ L := by
      intro g e
      rcases h3 with h | ⟨h, _⟩
      · exact hn g (by rw [← h, e])
      · rw [h] at e; cases e; have : L < w.heap.size := hb.lt; omega
    refine ⟨⟨hbl.cell 0 rfl, hbl.frozen 0⟩, oz, ⟨⟨_, hbl.set 0 _, ?_⟩, hzn⟩, hk1.set _ _ (.inl (by simp)), ?_⟩
    · have e1 : bys (p ++ [c]) = bys p ++ [.int .u8 c.toNat] := by rw [bys_app]; rfl
      rw [List.length_append, e1]
      exact h1.set _ _ hzn
    · rcases h3 with h | ⟨h, h5⟩
      · exact .inl h
      · refine .inr (.inr ⟨_, h, by omega, ?_⟩)
        simpa using h5
  clear hb hn
  have hll := hs.1
  go_enter Tryz.func14, Tryz.ntmps14
  rcases n23 with n23 | ⟨n23, rfl⟩
  · rcases n4 with n4 | ⟨n4, rfl⟩
    · go_wp2_with (at_builtin; refine wpList_append_sl rfl (.tmp 18) (.tmp 20) 33 33 rfl hs' rfl i0 (.int .u8 0) 1 Tryz.underlying33 hi hz0 hz1 hz2 rfl (.slice (some ⟨w.heap.size, 0, none⟩) 1 1) 1 [.int .u8 c.toNat] rfl ?src ?b1 ?b2 ?next)
      case src => exact (Sl.made w [.int .u8 c.toNat] 1 5 1 rfl (by simp [maxLen])).src Tryz.underlying33 (by intro u hu; simp at hu; subst hu; rfl)
      case b1 => unfold maxLen; omega
      case b2 => omega
      case next =>
        intro a' cap' w1 oz hs1 hg1 ho1
        obtain ⟨⟨k0, k1⟩, hW⟩ := HE.out a' cap' w1 oz hs1 hg1 ho1
        clear hs1 hg1 ho1 HE hs hs' hb'
        go_wp2_with fail
        go_end0
        rw [ht.out]
        exact ⟨rfl, hW⟩
    · go_wp2_with (at_builtin; refine wpList_append_sl rfl (.tmp 18) (.tmp 20) 33 33 rfl hs' rfl i0 (.int .u8 0) 1 Tryz.underlying33 hi hz0 hz1 hz2 rfl (.slice (some ⟨w.heap.size, 0, none⟩) 1 1) 1 [.int .u8 c.toNat] rfl ?src ?b1 ?b2 ?next)
      case src => exact (Sl.made w [.int .u8 c.toNat] 1 5 1 rfl (by simp [maxLen])).src Tryz.underlying33 (by intro u hu; simp at hu; subst hu; rfl)
      case b1 => unfold maxLen; omega
      case b2 => omega
      case next =>
        intro a' cap' w1 oz hs1 hg1 ho1
        obtain ⟨⟨k0, k1⟩, hW⟩ := HE.out a' cap' w1 oz hs1 hg1 ho1
        clear hs1 hg1 ho1 HE hs hs' hb'
        go_wp2_with fail
        go_end0
        rw [ht.out]
        exact ⟨rfl, hW⟩
  · rcases n4 with n4 | ⟨n4, rfl⟩
    · go_wp2_with (at_builtin; refine wpList_append_sl rfl (.tmp 18) (.tmp 20) 33 33 rfl hs' rfl i0 (.int .u8 0) 1 Tryz.underlying33 hi hz0 hz1 hz2 rfl (.slice (some ⟨w.heap.size, 0, none⟩) 1 1) 1 [.int .u8 c.toNat] rfl ?src ?b1 ?b2 ?next)
      case src => exact (Sl.made w [.int .u8 c.toNat] 1 5 1 rfl (by simp [maxLen])).src Tryz.underlying33 (by intro u hu; simp at hu; subst hu; rfl)
      case b1 => unfold maxLen; omega
      case b2 => omega
      case next =>
        intro a' cap' w1 oz hs1 hg1 ho1
        obtain ⟨⟨k0, k1⟩, hW⟩ := HE.out a' cap' w1 oz hs1 hg1 ho1
        clear hs1 hg1 ho1 HE hs hs' hb'
        go_wp2_with fail
        go_end0
        rw [ht.out]
        exact ⟨rfl, hW⟩
    · go_wp2_with (at_builtin; refine wpList_append_sl rfl (.tmp 18) (.tmp 20) 33 33 rfl hs' rfl i0 (.int .u8 0) 1 Tryz.underlying33 hi hz0 hz1 hz2 rfl (.slice (some ⟨w.heap.size, 0, none⟩) 1 1) 1 [.int .u8 c.toNat] rfl ?src ?b1 ?b2 ?next)
      case src => exact (Sl.made w [.int .u8 c.toNat] 1 5 1 rfl (by simp [maxLen])).src Tryz.underlying33 (by intro u hu; simp at hu; subst hu; rfl)
      case b1 => unfold maxLen; omega
      case b2 => omega
      case next =>
        intro a' cap' w1 oz hs1 hg1 ho1
        obtain ⟨⟨k0, k1⟩, hW⟩ := HE.out a' cap' w1 oz hs1 hg1 ho1
        clear hs1 hg1 ho1 HE hs hs' hb'
        go_wp2_with fail
        go_end0
        rw [ht.out]
        exact ⟨rfl, hW⟩
end
end Go.Proofs.YtfnglkhhmplejaaGreat
