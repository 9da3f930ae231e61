/- Walks: the reference's terminal: entries are rubbed out. (Written by mkRef14.py.) -/
import Derived.Test.YtfnglkhhmplejaaGreatR12
import Derived.Test.YtfnglkhhmplejaaGreatBase2
namespace Go.Clk
open Go Go.RowKit
theorem ents_dropLast (l : List Ent) : ents l.dropLast = (ents l).take ((l.length - 1) * 4) := by
  rcases List.eq_nil_or_concat l with rfl | ⟨r, a, rfl⟩
  · rfl
  · rw [List.concat_eq_append, List.dropLast_concat, ents_app, List.length_append]
    have : (r.length + [a].length - 1) * 4 = (ents r).length := by rw [ents_len]; simp
    rw [this, List.take_left]
end Go.Clk
namespace Go.Proofs.YtfnglkhhmplejaaGreat
open Go Go.RowKit Go.Clk

section
variable (S0 : List Nat) (w0 : World) (x : List Nat) (b : Nat) (σ : St) (w : World) (K : Int)

set_option maxHeartbeats 4000000 in
set_option maxRecDepth 100000 in
theorem rub_any (h : AtR S0 w0 x b σ w) (ok : Inv K σ) (hK : K ≤ 1099511627776) (n : Nat) (hn : n ≤ σ.inq.length) (s : Bool) (ni : Int) (hni : ni = (n : Int)) :
    Calls Tryz.prog 160 #[.pointer (some ⟨b, 0, none⟩), .int .i64 ni, .bool s] w fun r w' => r = .returned (.tuple #[]) ∧ AtR S0 w0 x b (St.rub s n σ) w' := by
  subst hni
  obtain ⟨i0, hi, hz0, hz1, hz2⟩ := info_parts info_u8
  obtain ⟨t0, hti, htz0, htz1, htz2⟩ := info_parts info_ent
  have hil := ok.inq
  go_enter Tryz.func160, Tryz.ntmps160
  go_wp2_with fail
  go_loopg [1] n (fun k nv wr => ∃ τ : St, k ≤ n ∧ nv = .int .i64 k ∧ AtR S0 w0 x b τ wr ∧ k ≤ τ.inq.length ∧ Hid (Inv K τ ∧ St.rub s n σ = St.rub s k τ))
  case atStart => exact ⟨σ, Nat.le_refl _, rfl, h, hn, ok, rfl⟩
  case round =>
    clear h ok
    obtain ⟨τ, hkn, rfl, ⟨vi, vo, vu, vn, vd, hV⟩, hkl, hH⟩ := hrel
    have htl : τ.inq.length ≤ 256 := hH.out.1.inq
    by_cases hz : gk = 0
    · subst hz
      have HT : Hid (St.rub s n σ = τ) := hH.out.2
      have hR := hV.r
      clear hV hH
      go_wp2
      go_end0
      exact ⟨rfl, by rw [HT.out]; exact hR⟩
    · obtain ⟨m, rfl⟩ : ∃ m, gk = m + 1 := ⟨gk - 1, by omega⟩
      clear hz
      obtain ⟨oi, hsi, _, _, hput⟩ := hV.lens_inq
      obtain ⟨ai, ci, rfl, hl1, hl2⟩ := hsi.shape
      obtain ⟨ug, uoff, uc, he, rfl⟩ := hsi.addr (by omega)
      cases he
      have hql : τ.inq.length - 1 < τ.inq.length := by omega
      obtain ⟨e, hE⟩ : ∃ e, τ.inq[τ.inq.length - 1] = e := ⟨_, rfl⟩
      have kc0 := (hsi.cells rfl ((τ.inq.length - 1) * 4 + 0) (u := .int .u8 (e.b.toNat : Int)) (by rw [ents_get τ.inq _ hql 0 (by omega), hE]; rfl)).1
      have kc1 := (hsi.cells rfl ((τ.inq.length - 1) * 4 + 1) (u := .bool e.fin) (by rw [ents_get τ.inq _ hql 1 (by omega), hE]; rfl)).1
      have kc2 := (hsi.cells rfl ((τ.inq.length - 1) * 4 + 2) (u := .bool e.file) (by rw [ents_get τ.inq _ hql 2 (by omega), hE]; rfl)).1
      have kc3 := (hsi.cells rfl ((τ.inq.length - 1) * 4 + 3) (u := .int .i64 e.cells) (by rw [ents_get τ.inq _ hql 3 (by omega), hE]; rfl)).1
      simp only [Nat.add_zero] at kc0
      simp only [← Nat.add_assoc] at kc1 kc2 kc3
      have k17 := hV.c17
      have f17 := hV.frozen 17
      have hlt := hV.lt
      have hlu := hsi.lt rfl
      go_wp2_with fail
      go_region
      have hB : AtV S0 w0 (wr.heap.size :: x) b τ (.slice (some ⟨ug, uoff, none⟩) τ.inq.length ci) vo vu vn vd ((wr.alloc (.cells #[.int .u8 e.b.toNat, .bool e.fin, .bool e.file, .int .i64 e.cells] 118)).drew) := (hV.boxed _).drew'
      have hblk : Blk ((wr.alloc (.cells #[.int .u8 e.b.toNat, .bool e.fin, .bool e.file, .int .i64 e.cells] 118)).drew) wr.heap.size 118 [.int .u8 e.b.toNat, .bool e.fin, .bool e.file, .int .i64 e.cells] := Blk.new wr _ _
      have hB0 : w0.heap.size ≤ wr.heap.size := hV.2.kp.size
      generalize (wr.alloc (.cells #[.int .u8 e.b.toNat, .bool e.fin, .bool e.file, .int .i64 e.cells] 118)).drew = W1 at hB hblk ⊢
      generalize wr.heap.size = B at hB hblk hB0 ⊢
      clear hV hsi hput kc0 kc1 kc2 kc3 k17 f17 hlt hlu
      obtain ⟨oi, hsi, _, _, hput⟩ := hB.lens_inq
      have k17 := hB.c17
      have f17 := hB.frozen 17
      have hlt := hB.lt
      go_wp2_with fail
      go_region
      have hsf := hsi.front (τ.inq.length - 1) (by omega)
      rw [← ents_dropLast] at hsf
      have hdl : τ.inq.dropLast.length = τ.inq.length - 1 := List.length_dropLast
      obtain ⟨_, _, hV2'⟩ := hput W1 (.slice (some ⟨ug, uoff, none⟩) (τ.inq.length - 1) ci) τ.inq.dropLast oi (grownBy_refl W1 oi) (by rw [hdl]; exact hsf) (.inr (.inl rfl))
      have hR2 := hV2'.drew'.r
      have hBb : B ≠ b := hB.2.ne (by simp)
      have hblk2 : Blk ((W1.setCell ⟨b, 17, none⟩ (.slice (some ⟨ug, uoff, none⟩) (τ.inq.length - 1) ci)).drew) B 118 [.int .u8 e.b.toNat, .bool e.fin, .bool e.file, .int .i64 e.cells] := hblk.other _ _ hBb
      generalize (W1.setCell ⟨b, 17, none⟩ (.slice (some ⟨ug, uoff, none⟩) (τ.inq.length - 1) ci)).drew = W2 at hR2 hblk2 ⊢
      have hcb := hH.out.1.cells e (by rw [← hE]; exact List.getElem_mem _)
      have hc0 := hcb.1
      have hc1 := hcb.2
      have HS : Hid (Inv K { τ with inq := τ.inq.dropLast } ∧ St.rub s n σ = St.rub s m (if s then (({ τ with inq := τ.inq.dropLast } : St).put (rubOne e)).1 else { τ with inq := τ.inq.dropLast })) :=
        ⟨hH.out.1.dropLast, by rw [hH.out.2, rub_step s m τ (by omega), hE]⟩
      have HDL : Hid (m ≤ τ.inq.dropLast.length) := by show m ≤ _; omega
      clear hV2' hsf hput hsi hB hblk k17 f17 hlt hH hE hcb hdl hl1 hl2 hql
      rename_i left1 left2
      clear left1 left2
      obtain ⟨υ, hυ⟩ : ∃ υ : St, ({ τ with inq := τ.inq.dropLast } : St) = υ := ⟨_, rfl⟩
      rw [hυ] at hR2 HS
      have HDL2 : Hid (m ≤ υ.inq.length) := by show m ≤ υ.inq.length; rw [← hυ]; exact HDL.out
      clear hυ HDL
      generalize τ.inq.length = tl at *
      cases htab : ((e.b.toNat : Int) == 9) with
      | true =>
        have hne : ((e.b.toNat : Int) != 9) = false := by rw [bne, htab]; rfl
        have HRO : Hid (rubOne e = rubN true e.cells.toNat) := by show rubOne e = _; rw [rubOne_eq, htab]
        clear htab
        go_wp2_with fail
        go_loopg [7, 8] e.cells.toNat (fun k lv iv w2 => ∃ (j ℓ : Nat) (a : Option Addr) (cap : Nat) (ol : Option Nat), j + k = e.cells.toNat ∧ lv = .slice a ℓ cap ∧ iv = .int .i64 j ∧ Sl w2 5 1 (.slice a ℓ cap) ℓ (bys (rubN true j)) ol ∧ (∀ g, ol = some g → w0.heap.size ≤ g ∧ g ≠ B) ∧
          AtR S0 w0 (ol.toList ++ B :: x) b υ w2 ∧ Blk w2 B 118 [.int .u8 e.b.toNat, .bool e.fin, .bool e.file, .int .i64 e.cells] ∧ ℓ ≤ j * 3)
        case atStart => exact ⟨0, 0, none, 0, none, by omega, rfl, rfl, by exact Sl.nil W2 _ _, (fun g h => by cases h), by exact hR2, hblk2, by omega⟩
        case round =>
          clear hR2 hblk2
          obtain ⟨j, ℓ, a, cap, ol, hj, rfl, rfl, hs, hol, hR, hblk, hℓ⟩ := hrel
          have b0 := hblk.cell 0 rfl
          have b3 := hblk.cell 3 rfl
          by_cases hlt : (j : Int) < e.cells
          · obtain ⟨vi, vo, vu, vn, vd, hV⟩ := hR
            have hlB := hblk.lt
            have hV1 := hV.alloc (.cells #[.int .u8 8] 5)
            have hs1 := hs.alloc (.cells #[.int .u8 8] 5)
            have hb1 := hblk.alloc (.cells #[.int .u8 8] 5)
            have hk0 := hV.2.kp.size
            go_wp2_with (at_builtin; refine wpList_append_sl rfl (.tmp 45) (.tmp 46) 33 33 rfl hs1 rfl i0 (.int .u8 0) 1 Tryz.underlying33 hi hz0 hz1 hz2 rfl (.slice (some ⟨wr.heap.size, 0, none⟩) 1 1) 1 [.int .u8 8] rfl ?srctrue ?b1true ?b2true ?nexttrue)
            case srctrue => exact (Sl.made wr [.int .u8 8] 1 5 1 rfl (by simp [maxLen])).src Tryz.underlying33 (by intro u hu; simp at hu; subst hu; rfl)
            case b1true => unfold maxLen; omega
            case b2true => omega
            case nexttrue =>
              intro a1 cap1 w1 ol1 hs2 hg1 ho1
              have hV2 := hV1.local (x := B :: x) hg1 (ol' := ol1) (by simpa using ho1) (fun g h => (hol g h).1)
              have hb2 := hb1.grown hg1 (fun h => (hol B h.symm).2 rfl)
              have hol1 : ∀ g, ol1 = some g → w0.heap.size ≤ g ∧ g ≠ B := by
                intro g h
                rcases ho1 with h1 | ⟨h1, _⟩
                · exact hol g (by rw [← h1, h])
                · rw [h1] at h; cases h; first | exact ⟨by omega, by omega⟩ | (simp; omega)
              clear hV1 hs1 hb1 hV hs hblk hol ho1 hg1 b0 b3
              have c0 := hb2.cell 0 rfl
              have hR3 := hV2.r
              clear hV2
              go_wp2
              go_roundg (gk - 1)
              case measure => omega
              case rel => exact ⟨j + 1, ℓ + 1, a1, cap1, ol1, by omega, rfl, by go_num, by rw [rubN_succ, bys_app]; exact hs2, hol1, hR3, hb2, by omega⟩
          · obtain rfl : j = e.cells.toNat := by omega
            have hlen : ℓ = (rubOne e).length := by rw [HRO.out]; have := hs.1; rw [bys_len] at this; omega
            rw [← HRO.out] at hs
            subst hlen
            cases s with
            | true =>
              go_wp2_with fail
              refine (Put_any S0 w0 _ b υ _ _ hR HS.out.1.ok (by omega) HS.out.1.out _ (rubOne e) ol hs (fun g h => by simp [h]) (by omega)).mono ?_
              rintro r W4 ⟨rfl, hW4⟩
              have HT : Hid (Inv K (υ.put (rubOne e)).1 ∧ St.rub true n σ = St.rub true m (υ.put (rubOne e)).1 ∧ m ≤ (υ.put (rubOne e)).1.inq.length) :=
                ⟨HS.out.1.put _, HS.out.2, by obtain ⟨o9, k9, h9⟩ := put_frame υ (rubOne e); rw [h9]; exact HDL2.out⟩
              clear HS hs hR hblk hol b0 b3 HDL2
              go_wp2
              go_roundg m
              case measure => omega
              case rel => exact ⟨_, by omega, by go_num, hW4.weaken fun g hg => by simp [hg], HT.out.2.2, HT.out.1, HT.out.2.1⟩
            | false =>
              have HT : Hid (Inv K υ ∧ St.rub false n σ = St.rub false m υ ∧ m ≤ υ.inq.length) := ⟨HS.out.1, HS.out.2, HDL2.out⟩
              have hW4 := hR.weaken (y := x) fun g hg => by simp [hg]
              clear HS hs hR hblk hol b0 HDL2
              go_wp2
              go_roundg m
              case measure => omega
              case rel => exact ⟨υ, by omega, by go_num, hW4, HT.out.2.2, HT.out.1, HT.out.2.1⟩
      | false =>
        have hne : ((e.b.toNat : Int) != 9) = true := by rw [bne, htab]; rfl
        have HRO : Hid (rubOne e = rubN false e.cells.toNat) := by show rubOne e = _; rw [rubOne_eq, htab]
        clear htab
        go_wp2_with fail
        go_loopg [7, 8] e.cells.toNat (fun k lv iv w2 => ∃ (j ℓ : Nat) (a : Option Addr) (cap : Nat) (ol : Option Nat), j + k = e.cells.toNat ∧ lv = .slice a ℓ cap ∧ iv = .int .i64 j ∧ Sl w2 5 1 (.slice a ℓ cap) ℓ (bys (rubN false j)) ol ∧ (∀ g, ol = some g → w0.heap.size ≤ g ∧ g ≠ B) ∧
          AtR S0 w0 (ol.toList ++ B :: x) b υ w2 ∧ Blk w2 B 118 [.int .u8 e.b.toNat, .bool e.fin, .bool e.file, .int .i64 e.cells] ∧ ℓ ≤ j * 3)
        case atStart => exact ⟨0, 0, none, 0, none, by omega, rfl, rfl, by exact Sl.nil W2 _ _, (fun g h => by cases h), by exact hR2, hblk2, by omega⟩
        case round =>
          clear hR2 hblk2
          obtain ⟨j, ℓ, a, cap, ol, hj, rfl, rfl, hs, hol, hR, hblk, hℓ⟩ := hrel
          have b0 := hblk.cell 0 rfl
          have b3 := hblk.cell 3 rfl
          by_cases hlt : (j : Int) < e.cells
          · obtain ⟨vi, vo, vu, vn, vd, hV⟩ := hR
            have hlB := hblk.lt
            have hV1 := hV.alloc (.cells #[.int .u8 8] 5)
            have hs1 := hs.alloc (.cells #[.int .u8 8] 5)
            have hb1 := hblk.alloc (.cells #[.int .u8 8] 5)
            have hk0 := hV.2.kp.size
            go_wp2_with (at_builtin; refine wpList_append_sl rfl (.tmp 45) (.tmp 46) 33 33 rfl hs1 rfl i0 (.int .u8 0) 1 Tryz.underlying33 hi hz0 hz1 hz2 rfl (.slice (some ⟨wr.heap.size, 0, none⟩) 1 1) 1 [.int .u8 8] rfl ?srcfalse ?b1false ?b2false ?nextfalse)
            case srcfalse => exact (Sl.made wr [.int .u8 8] 1 5 1 rfl (by simp [maxLen])).src Tryz.underlying33 (by intro u hu; simp at hu; subst hu; rfl)
            case b1false => unfold maxLen; omega
            case b2false => omega
            case nextfalse =>
              intro a1 cap1 w1 ol1 hs2 hg1 ho1
              have hV2 := hV1.local (x := B :: x) hg1 (ol' := ol1) (by simpa using ho1) (fun g h => (hol g h).1)
              have hb2 := hb1.grown hg1 (fun h => (hol B h.symm).2 rfl)
              have hol1 : ∀ g, ol1 = some g → w0.heap.size ≤ g ∧ g ≠ B := by
                intro g h
                rcases ho1 with h1 | ⟨h1, _⟩
                · exact hol g (by rw [← h1, h])
                · rw [h1] at h; cases h; first | exact ⟨by omega, by omega⟩ | (simp; omega)
              clear hV1 hs1 hb1 hV hs hblk hol ho1 hg1 b0 b3
              have c0 := hb2.cell 0 rfl
              have hlB := hb2.lt
              have hV3 := hV2.alloc (.cells #[.int .u8 32, .int .u8 8] 5)
              have hs3 := hs2.alloc (.cells #[.int .u8 32, .int .u8 8] 5)
              have hb3 := hb2.alloc (.cells #[.int .u8 32, .int .u8 8] 5)
              have hk0 := hV2.2.kp.size
              go_wp2_with (at_builtin; refine wpList_append_sl rfl (.tmp 51) (.tmp 52) 33 33 rfl hs3 rfl i0 (.int .u8 0) 1 Tryz.underlying33 hi hz0 hz1 hz2 rfl (.slice (some ⟨w1.heap.size, 0, none⟩) 2 2) 2 [.int .u8 32, .int .u8 8] rfl ?srcx ?b1x ?b2x ?nextx)
              case srcx => exact (Sl.made w1 [.int .u8 32, .int .u8 8] 2 5 1 rfl (by simp [maxLen])).src Tryz.underlying33 (by intro u hu; simp at hu; rcases hu with rfl | rfl <;> rfl)
              case b1x => unfold maxLen; omega
              case b2x => omega
              case nextx =>
                intro a2 cap2 w3 ol2 hs4 hg2 ho2
                have hV4 := hV3.local (x := B :: x) hg2 (ol' := ol2) (by simpa using ho2) (fun g h => (hol1 g h).1)
                have hb4 := hb3.grown hg2 (fun h => (hol1 B h.symm).2 rfl)
                have hol2 : ∀ g, ol2 = some g → w0.heap.size ≤ g ∧ g ≠ B := by
                  intro g h
                  rcases ho2 with h1 | ⟨h1, _⟩
                  · exact hol1 g (by rw [← h1, h])
                  · rw [h1] at h; cases h; first | exact ⟨by omega, by omega⟩ | (simp; omega)
                have hR3 := hV4.r
                clear hV3 hs3 hb3 hV2 hs2 hb2 hol1 ho2 hg2 c0 hV4
                go_wp2
                go_roundg (gk - 1)
                case measure => omega
                case rel => exact ⟨j + 1, ℓ + 1 + 2, a2, cap2, ol2, by omega, rfl, by go_num, by rw [rubN_succ, bys_app]; exact hs4, hol2, hR3, hb4, by omega⟩
          · obtain rfl : j = e.cells.toNat := by omega
            have hlen : ℓ = (rubOne e).length := by rw [HRO.out]; have := hs.1; rw [bys_len] at this; omega
            rw [← HRO.out] at hs
            subst hlen
            cases s with
            | true =>
              go_wp2_with fail
              refine (Put_any S0 w0 _ b υ _ _ hR HS.out.1.ok (by omega) HS.out.1.out _ (rubOne e) ol hs (fun g h => by simp [h]) (by omega)).mono ?_
              rintro r W4 ⟨rfl, hW4⟩
              have HT : Hid (Inv K (υ.put (rubOne e)).1 ∧ St.rub true n σ = St.rub true m (υ.put (rubOne e)).1 ∧ m ≤ (υ.put (rubOne e)).1.inq.length) :=
                ⟨HS.out.1.put _, HS.out.2, by obtain ⟨o9, k9, h9⟩ := put_frame υ (rubOne e); rw [h9]; exact HDL2.out⟩
              clear HS hs hR hblk hol b0 b3 HDL2
              go_wp2
              go_roundg m
              case measure => omega
              case rel => exact ⟨_, by omega, by go_num, hW4.weaken fun g hg => by simp [hg], HT.out.2.2, HT.out.1, HT.out.2.1⟩
            | false =>
              have HT : Hid (Inv K υ ∧ St.rub false n σ = St.rub false m υ ∧ m ≤ υ.inq.length) := ⟨HS.out.1, HS.out.2, HDL2.out⟩
              have hW4 := hR.weaken (y := x) fun g hg => by simp [hg]
              clear HS hs hR hblk hol b0 HDL2
              go_wp2
              go_roundg m
              case measure => omega
              case rel => exact ⟨υ, by omega, by go_num, hW4, HT.out.2.2, HT.out.1, HT.out.2.1⟩
end
end Go.Proofs.YtfnglkhhmplejaaGreat
