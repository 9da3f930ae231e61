/- Walks: the reference's terminal: a new one; it is looked after; its settings. -/
import Derived.Test.YtfnglkhhmplejaaGreatRef5
import Derived.BigRegion
import Derived.BigQuiet
import Derived.Deep.QuietTactic
import Derived.Deep.RegionWith
import Derived.Test.YtfnglkhhmplejaaGreatBase
namespace Go.Proofs.YtfnglkhhmplejaaGreat
open Go Go.RowKit Go.Clk

section
variable (S0 : List Nat) (w0 : World) (x : List Nat) (b : Nat) (σ : St) (w : World)

set_option maxHeartbeats 2000000 in
set_option maxRecDepth 100000 in
theorem refNew_any :
    Calls Tryz.prog 43 #[] w fun e w' => ∃ b, e = .returned (.pointer (some ⟨b, 0, none⟩)) ∧ AtR [] w [] b newS w' := by
  go_enter Tryz.func43, Tryz.ntmps43
  go_wp2
  go_ret
  refine ⟨w.heap.size, rfl, .slice none 0 0, .slice none 0 0, .slice none 0 0, .slice none 0 0, .slice none 0 0, rfl, ?_⟩
  exact AtO.made w (i64s newS.ss ++ rtl newS (.slice none 0 0) (.slice none 0 0) (.slice none 0 0) (.slice none 0 0) (.slice none 0 0)) 103 _ (by
    intro k f hf
    match k, hf with
    | 0, hf => cases hf; exact ⟨rfl, rfl, rfl⟩
    | 1, hf => cases hf; exact ⟨rfl, rfl, rfl⟩
    | 2, hf => cases hf; exact ⟨rfl, rfl, rfl⟩
    | 3, hf => cases hf; exact ⟨rfl, rfl, rfl⟩
    | 4, hf => cases hf; exact ⟨rfl, rfl, rfl⟩
    | n + 5, hf => simp [rfs] at hf)

set_option maxHeartbeats 1000000 in
set_option maxRecDepth 100000 in
theorem ends_idle (h : AtR S0 w0 x b σ w) (hr : σ.reads = false) :
    Calls Tryz.prog 123 #[.pointer (some ⟨b, 0, none⟩)] w fun e w' => e = .returned (.tuple #[]) ∧ AtR S0 w0 x b σ w' := by
  obtain ⟨vi, vo, vu, vn, vd, hV⟩ := h
  have k25 := hV.c25
  go_enter Tryz.func123, Tryz.ntmps123
  go_wp2
  refine bodyPost_ret (results_none rfl _ _ _) rfl ?_
  exact ⟨rfl, hV.r⟩
set_option maxHeartbeats 1000000 in
set_option maxRecDepth 100000 in
theorem Look_idle (h : AtR S0 w0 x b σ w) (hr : σ.reads = false) (i0 : 0 ≤ σ.i) (i1 : σ.i < 8192) (hf : bit σ.i 2048 = false) (hh : σ.held = false) :
    Calls Tryz.prog 91 #[.pointer (some ⟨b, 0, none⟩)] w fun e w' => e = .returned (.tuple #[]) ∧ AtR S0 w0 x b σ w' := by
  go_enter Tryz.func91, Tryz.ntmps91
  go_wp2_with fail
  refine (ends_idle S0 w0 x b σ _ h hr).mono ?_
  rintro e W ⟨rfl, vi, vo, vu, vn, vd, hV⟩
  have k0 := hV.ci
  have k22 := hV.c22
  go_wp2_with (go_at_call 124; refine (in_any b σ.i _ _ k0 i0 i1 (by omega) (by omega)).mono ?_; rintro e w' ⟨rfl, rfl⟩)
  go_end0
  exact ⟨rfl, hV.r⟩
end
end Go.Proofs.YtfnglkhhmplejaaGreat
namespace Go.Proofs.YtfnglkhhmplejaaGreat
open Go Go.RowKit Go.Clk

theorem AtV.drew' {S0 : List Nat} {w0 w : World} {x : List Nat} {b : Nat} {σ : St} {vi vo vu vn vd : Value} (h : AtV S0 w0 x b σ vi vo vu vn vd w) : AtV S0 w0 x b σ vi vo vu vn vd w.drew := ⟨h.1, h.2.drew⟩

section
variable (S0 : List Nat) (w0 : World) (x : List Nat) (b : Nat) (σ : St) (w : World) (C : Int)

set_option maxHeartbeats 2000000 in
set_option maxRecDepth 100000 in
theorem Set_same (h : AtR S0 w0 x b σ w) (ok : Ok σ C) (s : List Int) (hs : s.length = 17) (hl : Hid (bit σ.l 2 = bit (gt s 2 % 1024) 2)) (hr : σ.reads = false) (hf : bit (gt s 0 % 8192) 2048 = false) (hh : σ.held = false) :
    Calls Tryz.prog 62 #[.pointer (some ⟨b, 0, none⟩), .agg (i64s s).toArray, .int .i64 0] w fun e w' => e = .returned (.int .i64 0) ∧ AtR S0 w0 x b { σ with ss := normS s, quoted := bit σ.l 2 && σ.quoted } w' := by
  obtain ⟨vi, vo, vu, vn, vd, hV⟩ := h
  have l0 := ok.l0; have l1 := ok.l1
  go_enter Tryz.func62, Tryz.ntmps62
  go_wp2_with (refine wpList_box rfl (.tmp 1) 29 rfl (i64s s) rfl ?_)
  intro W B hid
  have hB : AtV S0 w0 (B :: x) b σ vi vo vu vn vd W := by obtain ⟨rfl, rfl⟩ := hid.out; exact hV.boxed _
  have hblk : Blk W B 29 (i64s s) := by obtain ⟨rfl, rfl⟩ := hid.out; exact Blk.new w _ _
  have hne : B ≠ b := hB.2.ne (by simp)
  have kB : ∀ k, k < 17 → W.cell? ⟨B, k, none⟩ = some (.int .i64 (gt s k)) := fun k hk => hblk.cell k (by simp [i64s, gt, List.getD, List.getElem?_eq_getElem (show k < s.length by omega)])
  have b0 := kB 0 (by omega)
  have b1 := kB 1 (by omega)
  have b2 := kB 2 (by omega)
  have k2 := hB.cl
  have f0 := hB.frozen 0
  have f1 := hB.frozen 1
  have f2 := hB.frozen 2
  have k0 := hB.ci
  have k1 := hB.co
  clear hid hV
  go_wp2_with (first | (go_at_call 89; refine (local_any b σ.l _ _ (by assumption) l0 l1 (by omega) (by omega)).mono ?_; rintro e w' ⟨rfl, rfl⟩) | (go_at_call 90; refine (low_any _ _ _ (by omega) (by omega)).mono ?_; rintro e w' ⟨rfl, rfl⟩))
  have hR3 : AtR S0 w0 (B :: x) b { σ with ss := partS σ.ss s 3 } (((w'.setCell ⟨b, 0, none⟩ (.int .i64 (gt s 0 % 8192))).setCell ⟨b, 1, none⟩ (.int .i64 (gt s 1 % 128))).setCell ⟨b, 2, none⟩ (.int .i64 (gt s 2 % 1024))) := by
    have h3 := (((hB.s_set 0 (by omega) (gt s 0 % 8192)).s_set 1 (by omega) (gt s 1 % 128)).s_set 2 (by omega) (gt s 2 % 1024)).r
    have e0 := partS_set σ.ss s 0 (by omega)
    have e1 := partS_set σ.ss s 1 (by omega)
    have e2 := partS_set σ.ss s 2 (by omega)
    rw [partS_zero _ _ hB.1] at e0
    rw [← e0] at e1
    rw [← e1] at e2
    rw [← e2]
    exact h3
  have hB3 : Blk (((w'.setCell ⟨b, 0, none⟩ (.int .i64 (gt s 0 % 8192))).setCell ⟨b, 1, none⟩ (.int .i64 (gt s 1 % 128))).setCell ⟨b, 2, none⟩ (.int .i64 (gt s 2 % 1024))) B 29 (i64s s) :=
    ((hblk.other _ _ hne).other _ _ hne).other _ _ hne
  have hss := hB.1
  clear hB hblk b0 b1 b2 k2 f0 f1 f2 k0 k1 kB
  go_loopg [8] 14 (fun k i wr => ∃ j : Nat, j + k = 14 ∧ i = .int .i64 j ∧ AtR S0 w0 (B :: x) b { σ with ss := partS σ.ss s (3 + j) } wr ∧ Blk wr B 29 (i64s s))
  case atStart => exact ⟨0, by omega, rfl, hR3, hB3⟩
  case round =>
    clear hR3 hB3
    obtain ⟨j, hj, rfl, ⟨vi, vo, vu, vn, vd, hV⟩, hblk⟩ := hrel
    by_cases hlt : j < 14
    · have kj : wr.cell? ⟨B, 3 + j, none⟩ = some (.int .i64 (gt s (3 + j))) := hblk.cell (3 + j) (by simp [i64s, gt, List.getD, List.getElem?_eq_getElem (show 3 + j < s.length by omega)])
      have cj := hV.head (3 + j) (by omega)
      have fj := hV.frozen (3 + j)
      have hW := (hV.drew'.s_set (3 + j) (by omega) (gt s (3 + j) % 256)).r
      have HP : Hid ((partS σ.ss s (3 + j)).set (3 + j) (gt s (3 + j) % 256) = partS σ.ss s (3 + j + 1)) := by
        have := partS_set σ.ss s (3 + j) (by omega)
        rwa [show lim (3 + j) = 256 by simp [lim]; omega] at this
      clear hss
      go_wp2_with fail
      go_region_with (go_at_call 90; refine (low_any _ _ _ (by omega) (by omega)).mono ?_; rintro e w' ⟨rfl, rfl⟩)
      go_wp2
      go_roundg (gk - 1)
      case measure => omega
      case rel =>
        rw [HP.out] at hW
        exact ⟨j + 1, by omega, by go_num, hW, hblk.other _ _ hne⟩
    · obtain rfl : j = 14 := by omega
      have HN : Hid (partS σ.ss s 17 = normS s) := partS_all _ _
      have HL : Hid (gt (partS σ.ss s 17) 2 = gt s 2 % 1024) := by show gt (partS σ.ss s 17) 2 = _; rw [partS_get _ _ _ _ (by omega)]; simp [lim]
      have HI : Hid (gt (partS σ.ss s 17) 0 = gt s 0 % 8192) := by show gt (partS σ.ss s 17) 0 = _; rw [partS_get _ _ _ _ (by omega)]; simp [lim]
      have k2 : wr.cell? ⟨b, 2, none⟩ = some (.int .i64 (gt s 2 % 1024)) := by rw [← HL.out]; exact hV.cl
      have k23 : wr.cell? ⟨b, 23, none⟩ = some (.bool σ.quoted) := hV.c23
      have f23 := hV.frozen 23
      have e0 : 0 ≤ gt s 2 % 1024 := Int.emod_nonneg _ (by omega)
      have e1 : gt s 2 % 1024 < 8192 := by have := Int.emod_lt_of_pos (gt s 2) (show (0 : Int) < 1024 by omega); omega
      have e2 : 0 ≤ gt s 0 % 8192 := Int.emod_nonneg _ (by omega)
      have e3 : gt s 0 % 8192 < 8192 := Int.emod_lt_of_pos (gt s 0) (show (0 : Int) < 8192 by omega)
      have HT : Hid (∀ q, AtR S0 w0 (B :: x) b { σ with ss := partS σ.ss s 17, quoted := q } (wr.setCell ⟨b, 23, none⟩ (.bool q))) := fun q => (hV.s_quoted q).r
      have HU : Hid (AtR S0 w0 (B :: x) b { σ with ss := partS σ.ss s 17 } wr) := hV.r
      have HF : Hid (bit (gt s 0 % 8192) 2048 = false) := hf
      clear hV hblk hf
      have hl' : Hid (bit (gt s 2 % 1024) 2 = bit σ.l 2) := hl.out.symm
      clear hl
      by_cases hq : bit σ.l 2 = true
      · have hq2 : bit (gt s 2 % 1024) 2 = true := by rw [hl'.out, hq]
        go_wp2_with (go_at_call 89; refine (local_any b (gt s 2 % 1024) _ _ (by assumption) e0 e1 (by omega) (by omega)).mono ?_; rintro e w' ⟨rfl, rfl⟩)
        refine (Look_idle S0 w0 (B :: x) b { σ with ss := partS σ.ss s 17 } _ HU.out hr (by show 0 ≤ gt (partS σ.ss s 17) 0; rw [HI.out]; exact e2) (by show gt (partS σ.ss s 17) 0 < 8192; rw [HI.out]; exact e3) (by show bit (gt (partS σ.ss s 17) 0) 2048 = false; rw [HI.out]; exact HF.out) hh).mono ?_
        rintro e W2 ⟨rfl, hW2⟩
        go_wp2
        go_ret
        rw [HN.out] at hW2
        have hW3 := hW2.weaken (y := x) (fun g hg => by simp [hg])
        first | exact ⟨rfl, hW3⟩ | (rw [hq]; exact ⟨rfl, hW3⟩)
      · have hq2 : bit (gt s 2 % 1024) 2 = false := by rw [hl'.out]; simpa using hq
        have hq3 : bit σ.l 2 = false := by simpa using hq
        clear hq
        go_wp2_with (go_at_call 89; refine (local_any b (gt s 2 % 1024) _ _ (by assumption) e0 e1 (by omega) (by omega)).mono ?_; rintro e w' ⟨rfl, rfl⟩)
        refine (Look_idle S0 w0 (B :: x) b { σ with ss := partS σ.ss s 17, quoted := false } _ (HT.out false) hr (by show 0 ≤ gt (partS σ.ss s 17) 0; rw [HI.out]; exact e2) (by show gt (partS σ.ss s 17) 0 < 8192; rw [HI.out]; exact e3) (by show bit (gt (partS σ.ss s 17) 0) 2048 = false; rw [HI.out]; exact HF.out) hh).mono ?_
        rintro e W2 ⟨rfl, hW2⟩
        go_wp2
        go_ret
        rw [HN.out] at hW2
        have hW3 := hW2.weaken (y := x) (fun g hg => by simp [hg])
        first | exact ⟨rfl, hW3⟩ | (rw [hq3]; exact ⟨rfl, hW3⟩)
end
end Go.Proofs.YtfnglkhhmplejaaGreat
