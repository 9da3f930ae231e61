/- Walks: the program: lines are forgotten. -/
import Derived.Test.YtfnglkhhmplejaaGreatProg18
import Derived.Test.YtfnglkhhmplejaaGreatBase2
namespace Go.Proofs.YtfnglkhhmplejaaGreat
open Go Go.RowKit Go.Clk

section
variable (S0 : List Nat) (w0 : World) (x : List Nat) (b : Nat) (σ : St) (w : World) (K : Int)

set_option maxHeartbeats 2000000 in
set_option maxRecDepth 100000 in
theorem Forget_any (h : AtP S0 w0 x b σ w) (hil : σ.inq.length ≤ 256) :
    Calls Tryz.prog 74 #[.pointer (some ⟨b, 17, none⟩)] w fun e w' => e = .returned (.tuple #[]) ∧ AtP S0 w0 x b { σ with inq := St.forget σ.inq } w' := by
  obtain ⟨t0, hti, htz0, htz1, htz2⟩ := info_parts info_pent
  obtain ⟨vi, vu, vo, vs, hV⟩ := h
  obtain ⟨oi, hsi, _, _, _⟩ := hV.lens_in
  obtain ⟨ai, ci, rfl, hl1, hl2⟩ := hsi.shape
  have k17 := hV.c_in
  clear hsi
  go_enter Tryz.func74, Tryz.ntmps74
  go_wp2_with fail
  go_loopg [2, 4, 9] σ.inq.length (fun k lv pv iv wz => ∃ (j ℓ : Nat) (a : Option Addr) (cap : Nat) (ol : Option Nat), j + k = σ.inq.length ∧ lv = .slice a ℓ cap ∧ iv = .int .i64 j ∧ Sl wz 112 4 (.slice a ℓ cap) ℓ (pents (St.forget (σ.inq.take j))) ol ∧ (∀ g, ol = some g → w0.heap.size ≤ g ∧ g ∉ x) ∧
    PV S0 w0 (ol.toList ++ x) b σ (.slice ai σ.inq.length ci) vu vo vs wz ∧ ℓ ≤ j)
  case atStart => exact ⟨0, 0, none, 0, none, by omega, rfl, rfl, Sl.nil _ _ _, (fun g h => by cases h), hV, by omega⟩
  case round =>
    clear hV k17
    obtain ⟨j, ℓ, a, cap, ol, hj, rfl, rfl, hsl, hol, hY, hℓ⟩ := hrel
    obtain ⟨oi, hsi, _, _, _⟩ := hY.lens_in
    have z17 := hY.c_in
    by_cases hlt : j < σ.inq.length
    · obtain ⟨ug, uoff, uc, he, rfl⟩ := hsi.addr (by omega)
      cases he
      have HT : Hid (σ.inq.take (j + 1) = σ.inq.take j ++ [σ.inq[j]]) := List.take_succ_eq_append_getElem hlt
      obtain ⟨en, hen⟩ : ∃ en, σ.inq[j] = en := ⟨_, rfl⟩
      rw [hen] at HT
      have zb := (hsi.cells rfl (j * 4 + 0) (u := .int .u8 (en.b.toNat : Int)) (by rw [pents_get σ.inq j hlt 0 (by omega), hen]; rfl)).1
      have zf := (hsi.cells rfl (j * 4 + 1) (u := .bool en.file) (by rw [pents_get σ.inq j hlt 1 (by omega), hen]; rfl)).1
      have ze := (hsi.cells rfl (j * 4 + 2) (u := .bool en.fin) (by rw [pents_get σ.inq j hlt 2 (by omega), hen]; rfl)).1
      have zc := (hsi.cells rfl (j * 4 + 3) (u := .int .i64 en.cells) (by rw [pents_get σ.inq j hlt 3 (by omega), hen]; rfl)).1
      simp only [← Nat.add_assoc, Nat.add_zero] at zb zf ze zc
      clear hsi hen
      go_wp2_with (refine wpList_store_whole rfl (.tmp 4) (.tmp 12) 112 rfl wr.heap.size rfl [.int .u8 en.b.toNat, .bool en.file, .bool en.fin, .int .i64 en.cells] rfl 112 [.int .u8 0, .bool false, .bool false, .int .i64 0] (Blk.new wr _ _) rfl rfl (by intro u hu; simp at hu; rcases hu with rfl | rfl | rfl | rfl <;> rfl) ?_)
      intro W hbk hgW hsz
      have hY1 : PV S0 w0 (wr.heap.size :: (ol.toList ++ x)) b σ (.slice (some ⟨ug, uoff, none⟩) σ.inq.length ci) vu vo vs W := by
        have h0 := hY.boxed (.cells #[.int .u8 0, .bool false, .bool false, .int .i64 0] 112)
        exact ⟨h0.1, h0.2.grown hgW fun g e => by cases e; exact ⟨by simp, hY.2.kp.size⟩⟩
      have hs1 : Sl W 112 4 (.slice a ℓ cap) ℓ (pents (St.forget (σ.inq.take j))) ol := by
        have h0 := hsl.alloc (.cells #[.int .u8 0, .bool false, .bool false, .int .i64 0] 112)
        obtain ⟨_, _, _, _, hb⟩ := hgW
        exact h0.same fun g e => hb g (h0.lt e) (by have := hsl.lt e; intro hc; cases hc; omega)
      have hlW := hbk.lt
      have b0 := hbk.cell 0 rfl
      have b1 := hbk.cell 1 rfl
      have hk0 := hY.2.kp.size
      have hbel : ∀ g, g ∈ x → g < W.heap.size := fun g hg => hY1.2.below (by simp [hg])
      have hY2 : PV S0 w0 (ol.toList ++ x) b σ (.slice (some ⟨ug, uoff, none⟩) σ.inq.length ci) vu vo vs W := hY1.weaken fun g hg => by simp at hg ⊢; exact .inr hg
      have hWs : w0.heap.size ≤ W.heap.size := hY2.2.kp.size
      clear hY hsl hgW hsz hY1 zb zf ze zc z17 hbk
      cases hfile : en.file with
      | true =>
        rw [hfile] at b1
        have HF : Hid (St.forget (σ.inq.take (j + 1)) = St.forget (σ.inq.take j)) := by show St.forget (σ.inq.take (j + 1)) = _; rw [HT.out, forget_snoc_file _ _ hfile]
        clear HT
        go_wp2
        go_roundg (gk - 1)
        case measure => omega
        case rel => exact ⟨j + 1, ℓ, a, cap, ol, by omega, rfl, by go_num, by rw [HF.out]; exact hs1, hol, hY2, by omega⟩
      | false =>
        rw [hfile] at b1
        have HF : Hid (St.forget (σ.inq.take (j + 1)) = St.forget (σ.inq.take j) ++ [⟨en.b, false, false, 0⟩]) := by show St.forget (σ.inq.take (j + 1)) = _; rw [HT.out, forget_snoc_byte _ _ hfile]
        have hY3 := hY2.alloc (.cells #[.int .u8 en.b.toNat, .bool false, .bool false, .int .i64 0] 112)
        have hs2 := hs1.alloc (.cells #[.int .u8 en.b.toNat, .bool false, .bool false, .int .i64 0] 112)
        clear HT hY2 hs1
        go_wp2_with (at_builtin; refine wpList_append_sl rfl (.tmp 16) (.tmp 20) 69 69 rfl hs2 rfl t0 _ 16 Tryz.underlying69 hti htz0 htz1 htz2 rfl (.slice (some ⟨W.heap.size, 0, none⟩) 1 1) 1 [.int .u8 en.b.toNat, .bool false, .bool false, .int .i64 0] rfl ?srca ?b1a ?b2a ?nexta)
        case srca => exact (Sl.made W [.int .u8 en.b.toNat, .bool false, .bool false, .int .i64 0] 1 112 4 rfl (by simp [maxLen])).src Tryz.underlying69 (by intro u hu; simp at hu; rcases hu with rfl | rfl | rfl | rfl <;> rfl)
        case b1a => unfold maxLen; omega
        case b2a => omega
        case nexta =>
          intro a1 cap1 w1 ol1 hs4 hg1 ho1
          have hY4 := hY3.local (x := x) hg1 (ol' := ol1) (by simpa using ho1) (fun g h => (hol g h).1)
          have hol1 : ∀ g, ol1 = some g → w0.heap.size ≤ g ∧ g ∉ x := by
            intro g h
            rcases ho1 with h1 | ⟨h1, _⟩
            · exact hol g (by rw [← h1, h])
            · rw [h1] at h; cases h
              refine ⟨by first | omega | (simp; omega), fun hc => ?_⟩
              have := hbel _ hc
              first | omega | (simp at this; omega)
          clear hY3 hs2 hol ho1 hg1 hbel b0 b1
          go_wp2
          go_roundg (gk - 1)
          case measure => omega
          case rel => exact ⟨j + 1, ℓ + 1, a1, cap1, ol1, by omega, rfl, by go_num, by rw [HF.out, pents_app]; exact hs4, hol1, hY4, by omega⟩
    · have HT : Hid (St.forget (σ.inq.take j) = St.forget σ.inq) := by show St.forget (σ.inq.take j) = _; rw [List.take_of_length_le (by omega)]
      rw [HT.out] at hsl
      have hlen : ℓ = (St.forget σ.inq).length := by have := hsl.1; rw [pents_len] at this; omega
      subst hlen
      have hZ := hY.adopt_in (.slice a (St.forget σ.inq).length cap) (St.forget σ.inq) ol x hsl (fun g h => ⟨by simp [h], .inr (hol g h).1, (hol g h).2⟩) (fun z hz => by simp [hz])
      have f17 := hY.frozen 17
      have hR := hZ.r
      clear hZ hY hsl hol hsi HT
      go_wp2
      go_end0
      exact ⟨rfl, hR⟩
end
end Go.Proofs.YtfnglkhhmplejaaGreat
