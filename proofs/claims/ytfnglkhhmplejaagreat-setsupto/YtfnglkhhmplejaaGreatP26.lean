/- Walks: the program: entries are taken off the front of the queue. -/
import Derived.Test.YtfnglkhhmplejaaGreatProg25
import Derived.Test.YtfnglkhhmplejaaGreatP20
import Derived.Test.YtfnglkhhmplejaaGreatP12
import Derived.Deep.DeepCutAuto
namespace Go.Proofs.YtfnglkhhmplejaaGreat
open Go Go.RowKit Go.Clk

section
variable (S0 : List Nat) (w0 : World) (x : List Nat) (b : Nat) (σ : St) (w : World) (K : Int)

set_option maxHeartbeats 2000000 in
set_option maxRecDepth 100000 in
theorem qTake_any (h : AtP S0 w0 x b σ w) (hil : σ.inq.length ≤ 256) (n : Int) (hn : 0 ≤ n) (hn1 : n ≤ 1000) :
    Calls Tryz.prog 85 #[.pointer (some ⟨b, 17, none⟩), .int .i64 n] w fun e w' => e = .returned (.string (str (bytesOf (σ.inq.take n.toNat)))) ∧ AtP S0 w0 x b { σ with inq := σ.inq.drop n.toNat } w' := by
  obtain ⟨t0, hti, htz0, htz1, htz2⟩ := info_parts info_pent
  obtain ⟨i0, hi, hz0, hz1, hz2⟩ := info_parts info_u8
  obtain ⟨vi, vu, vo, vs, hV⟩ := h
  obtain ⟨oi, hsi, _, _, _⟩ := hV.lens_in
  obtain ⟨ai, ci, rfl, hl1, hl2⟩ := hsi.shape
  have k17 := hV.c_in
  obtain ⟨m, hm⟩ : ∃ m : Nat, m = min n.toNat σ.inq.length := ⟨_, rfl⟩
  have e1 : σ.inq.take n.toNat = σ.inq.take m := by rw [hm, List.take_eq_take_iff]; omega
  have e2 : σ.inq.drop n.toNat = σ.inq.drop m := by
    rw [hm]
    by_cases hc : n.toNat ≤ σ.inq.length
    · rw [Nat.min_eq_left hc]
    · rw [Nat.min_eq_right (by omega), List.drop_eq_nil_of_le (by omega), List.drop_eq_nil_of_le (by omega)]
  rw [e1, e2]
  have hml : m ≤ σ.inq.length := by omega
  have HM : Hid (m = min n.toNat σ.inq.length) := hm
  have HS : Hid (Sl w 112 4 (.slice ai σ.inq.length ci) σ.inq.length (pents σ.inq) oi) := hsi
  clear e1 e2 hsi hm
  go_enter Tryz.func85, Tryz.ntmps85
  go_upto_region 2 with fail
  go_cut [1] (fun s1 wx => s1 = .int .i64 m ∧ wx = w)
  case first =>
    go_wp2_with fail
    all_goals (go_meet; exact ⟨by have := HM.out; congr 1; omega, rfl⟩)
  case rest =>
  obtain ⟨rfl, rfl⟩ := hcut
  clear HM
  go_wp2_with fail
  go_loopg [5, 7, 20] m (fun k lv pv iv wz => ∃ (j ℓ : Nat) (a : Option Addr) (cap : Nat) (ol : Option Nat), j + k = m ∧ lv = .slice a ℓ cap ∧ iv = .int .i64 j ∧ Sl wz 5 1 (.slice a ℓ cap) ℓ (bys (bytesOf (σ.inq.take j))) ol ∧ (∀ g, ol = some g → w0.heap.size ≤ g ∧ g ∉ x) ∧
    PV S0 w0 (ol.toList ++ x) b σ (.slice ai σ.inq.length ci) vu vo vs wz ∧ ℓ ≤ j)
  case atStart => exact ⟨0, 0, none, 0, none, by omega, rfl, rfl, Sl.nil _ _ _, (fun g h => by cases h), hV, by omega⟩
  case round =>
    clear hV k17 HS
    obtain ⟨j, ℓ, a, cap, ol, hj, rfl, rfl, hsl, hol, hY, hℓ⟩ := hrel
    obtain ⟨oi, hsi, _, _, hput⟩ := hY.lens_in
    have z17 := hY.c_in
    by_cases hlt : j < m
    · have hlt' : j < σ.inq.length := by omega
      obtain ⟨ug, uoff, uc, he, rfl⟩ := hsi.addr (by omega)
      cases he
      have HT : Hid (σ.inq.take (j + 1) = σ.inq.take j ++ [σ.inq[j]]) := List.take_succ_eq_append_getElem hlt'
      obtain ⟨en, hen⟩ : ∃ en, σ.inq[j] = en := ⟨_, rfl⟩
      rw [hen] at HT
      have zb := (hsi.cells rfl (j * 4 + 0) (u := .int .u8 (en.b.toNat : Int)) (by rw [pents_get σ.inq j hlt' 0 (by omega), hen]; rfl)).1
      have zf := (hsi.cells rfl (j * 4 + 1) (u := .bool en.file) (by rw [pents_get σ.inq j hlt' 1 (by omega), hen]; rfl)).1
      have ze := (hsi.cells rfl (j * 4 + 2) (u := .bool en.fin) (by rw [pents_get σ.inq j hlt' 2 (by omega), hen]; rfl)).1
      have zc := (hsi.cells rfl (j * 4 + 3) (u := .int .i64 en.cells) (by rw [pents_get σ.inq j hlt' 3 (by omega), hen]; rfl)).1
      simp only [← Nat.add_assoc, Nat.add_zero] at zb zf ze zc
      clear hsi hen hput
      go_wp2_with (refine wpList_store_whole rfl (.tmp 7) (.tmp 23) 112 rfl wr.heap.size rfl [.int .u8 en.b.toNat, .bool en.file, .bool en.fin, .int .i64 en.cells] rfl 112 [.int .u8 0, .bool false, .bool false, .int .i64 0] (Blk.new wr _ _) rfl rfl (by intro u hu; simp at hu; rcases hu with rfl | rfl | rfl | rfl <;> rfl) ?_)
      intro W hbk hgW hsz
      have hY1 : PV S0 w0 (wr.heap.size :: (ol.toList ++ x)) b σ (.slice (some ⟨ug, uoff, none⟩) σ.inq.length ci) vu vo vs W := by
        have h0 := hY.boxed (.cells #[.int .u8 0, .bool false, .bool false, .int .i64 0] 112)
        exact ⟨h0.1, h0.2.grown hgW fun g e => by cases e; exact ⟨by simp, hY.2.kp.size⟩⟩
      have hs1 : Sl W 5 1 (.slice a ℓ cap) ℓ (bys (bytesOf (σ.inq.take j))) ol := by
        have h0 := hsl.alloc (.cells #[.int .u8 0, .bool false, .bool false, .int .i64 0] 112)
        obtain ⟨_, _, _, _, hb⟩ := hgW
        exact h0.same fun g e => hb g (h0.lt e) (by have := hsl.lt e; intro hc; cases hc; omega)
      have hlW := hbk.lt
      have b0 := hbk.cell 0 rfl
      have b1 := hbk.cell 1 rfl
      have hk0 := hY.2.kp.size
      have hbel : ∀ g, g ∈ x → g < W.heap.size := fun g hg => hY1.2.below (by simp [hg])
      have hY2 : PV S0 w0 (ol.toList ++ x) b σ (.slice (some ⟨ug, uoff, none⟩) σ.inq.length ci) vu vo vs W := hY1.weaken fun g hg => by simp at hg ⊢; exact .inr hg
      have hWs : w0.heap.size ≤ W.heap.size := hY2.2.kp.size
      clear hY hsl hgW hsz hY1 zb zf ze zc z17 hbk
      cases hfile : en.file with
      | true =>
        rw [hfile] at b1
        have HB : Hid (bytesOf (σ.inq.take (j + 1)) = bytesOf (σ.inq.take j)) := by show bytesOf (σ.inq.take (j + 1)) = _; rw [HT.out, bytesOf_snoc_file _ _ hfile]
        clear HT
        go_wp2
        go_roundg (gk - 1)
        case measure => omega
        case rel => exact ⟨j + 1, ℓ, a, cap, ol, by omega, rfl, by go_num, by rw [HB.out]; exact hs1, hol, hY2, by omega⟩
      | false =>
        rw [hfile] at b1
        have HB : Hid (bytesOf (σ.inq.take (j + 1)) = bytesOf (σ.inq.take j) ++ [en.b]) := by show bytesOf (σ.inq.take (j + 1)) = _; rw [HT.out, bytesOf_snoc_byte _ _ hfile]
        have hY3 := hY2.alloc (.cells #[.int .u8 en.b.toNat] 5)
        have hs2 := hs1.alloc (.cells #[.int .u8 en.b.toNat] 5)
        clear HT hY2 hs1
        go_wp2_with (at_builtin; refine wpList_append_sl rfl (.tmp 27) (.tmp 30) 33 33 rfl hs2 rfl i0 (.int .u8 0) 1 Tryz.underlying33 hi hz0 hz1 hz2 rfl (.slice (some ⟨W.heap.size, 0, none⟩) 1 1) 1 [.int .u8 en.b.toNat] rfl ?srca ?b1a ?b2a ?nexta)
        case srca => exact (Sl.made W [.int .u8 en.b.toNat] 1 5 1 rfl (by simp [maxLen])).src Tryz.underlying33 (by intro u hu; simp at hu; subst hu; rfl)
        case b1a => unfold maxLen; omega
        case b2a => omega
        case nexta =>
          intro a1 cap1 w1 ol1 hs4 hg1 ho1
          have hY4 := hY3.local (x := x) hg1 (ol' := ol1) (by simpa using ho1) (fun g h => (hol g h).1)
          have hol1 : ∀ g, ol1 = some g → w0.heap.size ≤ g ∧ g ∉ x := by
            intro g h
            rcases ho1 with h1 | ⟨h1, _⟩
            · exact hol g (by rw [← h1, h])
            · rw [h1] at h; cases h
              refine ⟨by first | omega | (simp; omega), fun hc => ?_⟩
              have := hbel _ hc
              first | omega | (simp at this; omega)
          clear hY3 hs2 hol ho1 hg1 hbel b0 b1
          go_wp2
          go_roundg (gk - 1)
          case measure => omega
          case rel => exact ⟨j + 1, ℓ + 1, a1, cap1, ol1, by omega, rfl, by go_num, by rw [HB.out, bys_app]; exact hs4, hol1, hY4, by omega⟩
    · obtain rfl : j = m := by omega
      have HSi : Hid (Sl wr 112 4 (.slice ai σ.inq.length ci) σ.inq.length (pents σ.inq) oi) := hsi
      have f17 := hY.frozen 17
      go_wp2_with (refine wpList_cut rfl (.tmp 36) (.tmp 37) 69 rfl t0 Tryz.underlying69 hti htz1 rfl HSi.out (j : Int) (by first | rfl | simp [Act.eval]) (by omega) (by omega) ?_)
      intro a2 cap2 hs2
      obtain ⟨_, _, hZ⟩ := hput wr (.slice a2 (σ.inq.length - j) cap2) (σ.inq.drop j) oi (grownBy_refl wr oi) (by rw [List.length_drop, pents_drop]; simpa using hs2) (.inr (.inl rfl))
      have hZr := hZ.r.weaken (y := x) fun g hg => by simp [hg]
      have hsl2 := hsl.set ⟨b, 17, none⟩ (.slice a2 (σ.inq.length - j) cap2) fun g e hc => by
        have hx2 := hY.2.ne (g := g) (by simp [e])
        exact hx2 hc
      clear hput hZ hs2 hsl hsi HSi hY hol
      go_wp2_with (refine wpList_string rfl (.tmp 40) 33 9 rfl Tryz.underlying33 Tryz.underlying5 Tryz.underlying9 rfl hsl2 ?_)
      go_wp2
      go_ret
      exact ⟨rfl, hZr⟩
end
end Go.Proofs.YtfnglkhhmplejaaGreat
namespace Go.Proofs.YtfnglkhhmplejaaGreat
open Go Go.RowKit Go.Clk

section
variable (S0 : List Nat) (w0 : World) (x : List Nat) (b : Nat) (σ : St) (w : World) (K : Int)

set_option maxHeartbeats 2000000 in
set_option maxRecDepth 100000 in
theorem TakeLine_any (h : AtP S0 w0 x b σ w) (hil : σ.inq.length ≤ 256) (hwl : ∀ e ∈ σ.inq, e.file = true → e.fin = true) (hfl : 0 < fline σ.inq) (n : Nat) (hn1 : n ≤ 256) (ni : Int) (hni : ni = (n : Int)) :
    Calls Tryz.prog 84 #[.pointer (some ⟨b, 17, none⟩), .int .i64 ni] w fun e w' => e = .returned (.string (str (bytesOf (σ.inq.take (takeN n σ.inq))))) ∧ AtP S0 w0 x b { σ with inq := σ.inq.drop (takeN n σ.inq) } w' := by
  subst hni
  have hfle := fline_le σ.inq
  have HK : Hid (takeN n σ.inq = min (if decide (n < fline σ.inq) && fileAt σ.inq n then n + 1 else n) (fline σ.inq)) := takeN_lines n σ.inq hwl hfl
  obtain ⟨f, hf⟩ : ∃ f, fline σ.inq = f := ⟨_, rfl⟩
  obtain ⟨k, hk⟩ : ∃ k, takeN n σ.inq = k := ⟨_, rfl⟩
  rw [hf] at HK hfl hfle
  rw [hk] at HK ⊢
  have HF : Hid (fline σ.inq = f) := hf
  have HT : Hid (∀ (W : World) (v : Int), v = (k : Int) → k ≤ 257 → AtP S0 w0 x b σ W → Calls Tryz.prog 85 #[.pointer (some ⟨b, 17, none⟩), .int .i64 v] W fun e w' => e = .returned (.string (str (bytesOf (σ.inq.take k)))) ∧ AtP S0 w0 x b { σ with inq := σ.inq.drop k } w') := by
    intro W v hv hk2 hW
    subst hv
    have := qTake_any S0 w0 x b σ W hW hil (k : Int) (by omega) (by omega)
    simpa using this
  clear hf hk hwl
  obtain ⟨vi, vu, vo, vs, hV⟩ := h
  obtain ⟨oi, hsi, _, _, _⟩ := hV.lens_in
  obtain ⟨ai, ci, rfl, hl1, hl2⟩ := hsi.shape
  have k17 := hV.c_in
  have HFL : Hid (∀ (W : World), w.grownBy W none → Calls Tryz.prog 116 #[.slice ai σ.inq.length ci] W fun e w' => e = .returned (.int .i64 (f : Int)) ∧ W.grownBy w' none) := by
    intro W hg
    have := FirstLine_any W (.slice ai σ.inq.length ci) σ.inq oi (hsi.same fun g e => hg.block g (hsi.lt e) (by simp)) hil
    rwa [HF.out] at this
  clear hsi
  have hfc : f ≤ ci := by omega
  have hfc' : (f : Int) ≤ (ci : Int) := by omega
  go_enter Tryz.func84, Tryz.ntmps84
  go_upto_region 1 with fail
  go_cut [5] (fun s5 wx => s5 = .slice ai f ci ∧ PV S0 w0 x b σ (.slice ai σ.inq.length ci) vu vo vs wx)
  case first =>
    have hd : w.grownBy w.drew none := ⟨rfl, rfl, rfl, Nat.le_refl _, fun _ _ _ => rfl⟩
    have hVd := hV.drew
    go_region_with (go_at_call 116; refine (HFL.out _ hd).mono ?_; rintro e W ⟨rfl, hgW⟩; have kW := (hVd.same hgW).c_in)
    all_goals (go_wp2_with fail; go_meet; exact ⟨by first | rfl | simp, hVd.same hgW⟩)
  case rest =>
  clear hV k17 HFL
  obtain ⟨rfl, hV⟩ := hcut
  have hR := hV.r
  by_cases hnf : n < f
  · have hnf' : (n : Int) < (f : Int) := by omega
    have hnl : n < σ.inq.length := by omega
    obtain ⟨oi, hsi, _, _, _⟩ := hV.lens_in
    obtain ⟨ug, uoff, uc, he, rfl⟩ := hsi.addr (by omega)
    cases he
    have zf := (hsi.cells rfl (n * 4 + 1) (u := .bool σ.inq[n].file) (by rw [pents_get σ.inq n hnl 1 (by omega)]; rfl)).1
    simp only [← Nat.add_assoc] at zf
    have HA : Hid (fileAt σ.inq n = σ.inq[n].file) := by show fileAt σ.inq n = _; unfold fileAt; rw [List.getElem?_eq_getElem hnl]
    rw [decide_eq_true hnf, Bool.true_and] at HK
    cases hfile : σ.inq[n].file with
    | true =>
      have hk : k = n + 1 := by rw [HK.out, HA.out, hfile]; simp; omega
      rw [hfile] at zf
      subst hk
      clear HK HA hfile hV hsi HF
      have hmin : (n : Int) + 1 ≤ (f : Int) := by omega
      go_wp2_with (go_at_call 85; refine (HT.out _ _ (by omega) (by omega) hR).mono ?_; rintro e W ⟨rfl, hW⟩)
      all_goals go_ret
      all_goals exact ⟨rfl, hW⟩
    | false =>
      have hk : k = n := by rw [HK.out, HA.out, hfile]; simp; omega
      rw [hfile] at zf
      subst hk
      clear HK HA hfile hV hsi HF
      have hmin : (k : Int) ≤ (f : Int) := by omega
      go_wp2_with (go_at_call 85; refine (HT.out _ _ (by omega) (by omega) hR).mono ?_; rintro e W ⟨rfl, hW⟩)
      all_goals go_ret
      all_goals exact ⟨rfl, hW⟩
  · have hk : k = f := by rw [HK.out, decide_eq_false hnf, Bool.false_and]; simp; omega
    have hnf' : ¬ (n : Int) < (f : Int) := by omega
    subst hk
    clear HK hV HF
    go_wp2_with (go_at_call 85; refine (HT.out _ _ (by omega) (by omega) hR).mono ?_; rintro e W ⟨rfl, hW⟩)
    all_goals go_ret
    all_goals exact ⟨rfl, hW⟩
end
end Go.Proofs.YtfnglkhhmplejaaGreat
