/- Walks: the reference's terminal: it is looked after; reading; flow. (Written by mkRef22.py.) -/
import Derived.Test.YtfnglkhhmplejaaGreatRef21
import Derived.Test.YtfnglkhhmplejaaGreatR18
import Derived.Test.YtfnglkhhmplejaaGreatBase2
namespace Go.Proofs.YtfnglkhhmplejaaGreat
open Go Go.RowKit Go.Clk

section
variable (S0 : List Nat) (w0 : World) (x : List Nat) (b : Nat) (σ : St) (w : World) (K : Int)
set_option maxHeartbeats 1000000 in
set_option maxRecDepth 100000 in
theorem Look_1 (h : AtR S0 w0 x b σ w) (ok : Inv K σ) (hK : K ≤ 1099511627776) (h0 : bit σ.ends.i 2048 = true) (h1 : σ.ends.held = false) (hn : 192 ≤ σ.ends.inq.length) :
    Calls Tryz.prog 91 #[.pointer (some ⟨b, 0, none⟩)] w fun e w' => e = .returned (.tuple #[]) ∧ AtR S0 w0 x b (({ σ.ends with held := true } : St).urge 9) w' := by
  go_enter Tryz.func91, Tryz.ntmps91
  go_wp2_with fail
  refine (ends_any S0 w0 x b σ _ K h ok).mono ?_
  rintro e W ⟨rfl, hR⟩
  have HI : Hid (Inv K σ.ends) := ok.ends
  clear h ok
  obtain ⟨τ, hτ⟩ : ∃ τ, σ.ends = τ := ⟨_, rfl⟩
  rw [hτ] at hR HI h0 h1 hn
  have HG : Hid (σ.ends = τ) := hτ
  clear hτ
  have i0' := HI.out.ok.i0; have i1' := HI.out.ok.i1; have hil := HI.out.inq
  obtain ⟨vi, vo, vu, vn, vd, hV⟩ := hR
  obtain ⟨oi, hsi, _, _, _⟩ := hV.lens_inq
  obtain ⟨ai, ci, rfl, hl1, hl2⟩ := hsi.shape
  have k17 := hV.c17
  have k0 := hV.ci
  have k22 := hV.c22
  have f22 := hV.frozen 22
  rw [h1] at k22
  clear hsi
  have hR := (hV.s_held true).r
  clear h1 hV
  go_wp2_with (go_at_call 124; refine (in_any b τ.i _ _ k0 i0' i1' (by omega) (by omega)).mono ?_; rintro e w' ⟨rfl, rfl⟩)
  refine (urgent_any S0 w0 x b _ _ K hR (HI.out.held_ true) hK 9 (by omega) _ rfl).mono ?_
  rintro e W2 ⟨rfl, hW2⟩
  go_wp2
  go_end0
  exact ⟨rfl, by rw [HG.out]; exact hW2⟩
set_option maxHeartbeats 1000000 in
set_option maxRecDepth 100000 in
theorem Look_2 (h : AtR S0 w0 x b σ w) (ok : Inv K σ) (_hK : K ≤ 1099511627776) (h0 : bit σ.ends.i 2048 = true) (h1 : σ.ends.held = false) (hn : σ.ends.inq.length < 192) :
    Calls Tryz.prog 91 #[.pointer (some ⟨b, 0, none⟩)] w fun e w' => e = .returned (.tuple #[]) ∧ AtR S0 w0 x b σ.ends w' := by
  go_enter Tryz.func91, Tryz.ntmps91
  go_wp2_with fail
  refine (ends_any S0 w0 x b σ _ K h ok).mono ?_
  rintro e W ⟨rfl, hR⟩
  have HI : Hid (Inv K σ.ends) := ok.ends
  clear h ok
  obtain ⟨τ, hτ⟩ : ∃ τ, σ.ends = τ := ⟨_, rfl⟩
  rw [hτ] at hR HI h0 h1 hn
  have HG : Hid (σ.ends = τ) := hτ
  clear hτ
  have i0' := HI.out.ok.i0; have i1' := HI.out.ok.i1; have hil := HI.out.inq
  obtain ⟨vi, vo, vu, vn, vd, hV⟩ := hR
  obtain ⟨oi, hsi, _, _, _⟩ := hV.lens_inq
  obtain ⟨ai, ci, rfl, hl1, hl2⟩ := hsi.shape
  have k17 := hV.c17
  have k0 := hV.ci
  have k22 := hV.c22
  have f22 := hV.frozen 22
  rw [h1] at k22
  clear hsi
  have hR := hV.r
  clear h1 hV
  go_wp2_with (go_at_call 124; refine (in_any b τ.i _ _ k0 i0' i1' (by omega) (by omega)).mono ?_; rintro e w' ⟨rfl, rfl⟩)
  go_end0
  exact ⟨rfl, by rw [HG.out]; exact hR⟩
set_option maxHeartbeats 1000000 in
set_option maxRecDepth 100000 in
theorem Look_3 (h : AtR S0 w0 x b σ w) (ok : Inv K σ) (hK : K ≤ 1099511627776) (h0 : bit σ.ends.i 2048 = true) (h1 : σ.ends.held = true) (hn : σ.ends.inq.length ≤ 64) :
    Calls Tryz.prog 91 #[.pointer (some ⟨b, 0, none⟩)] w fun e w' => e = .returned (.tuple #[]) ∧ AtR S0 w0 x b (({ σ.ends with held := false } : St).urge 8) w' := by
  go_enter Tryz.func91, Tryz.ntmps91
  go_wp2_with fail
  refine (ends_any S0 w0 x b σ _ K h ok).mono ?_
  rintro e W ⟨rfl, hR⟩
  have HI : Hid (Inv K σ.ends) := ok.ends
  clear h ok
  obtain ⟨τ, hτ⟩ : ∃ τ, σ.ends = τ := ⟨_, rfl⟩
  rw [hτ] at hR HI h0 h1 hn
  have HG : Hid (σ.ends = τ) := hτ
  clear hτ
  have i0' := HI.out.ok.i0; have i1' := HI.out.ok.i1; have hil := HI.out.inq
  obtain ⟨vi, vo, vu, vn, vd, hV⟩ := hR
  obtain ⟨oi, hsi, _, _, _⟩ := hV.lens_inq
  obtain ⟨ai, ci, rfl, hl1, hl2⟩ := hsi.shape
  have k17 := hV.c17
  have k0 := hV.ci
  have k22 := hV.c22
  have f22 := hV.frozen 22
  rw [h1] at k22
  clear hsi
  have hR := (hV.s_held false).r
  clear h1 hV
  go_wp2_with (go_at_call 124; refine (in_any b τ.i _ _ k0 i0' i1' (by omega) (by omega)).mono ?_; rintro e w' ⟨rfl, rfl⟩)
  refine (urgent_any S0 w0 x b _ _ K hR (HI.out.held_ false) hK 8 (by omega) _ rfl).mono ?_
  rintro e W2 ⟨rfl, hW2⟩
  go_wp2
  go_end0
  exact ⟨rfl, by rw [HG.out]; exact hW2⟩
set_option maxHeartbeats 1000000 in
set_option maxRecDepth 100000 in
theorem Look_4 (h : AtR S0 w0 x b σ w) (ok : Inv K σ) (_hK : K ≤ 1099511627776) (h0 : bit σ.ends.i 2048 = true) (h1 : σ.ends.held = true) (hn : 64 < σ.ends.inq.length) :
    Calls Tryz.prog 91 #[.pointer (some ⟨b, 0, none⟩)] w fun e w' => e = .returned (.tuple #[]) ∧ AtR S0 w0 x b σ.ends w' := by
  go_enter Tryz.func91, Tryz.ntmps91
  go_wp2_with fail
  refine (ends_any S0 w0 x b σ _ K h ok).mono ?_
  rintro e W ⟨rfl, hR⟩
  have HI : Hid (Inv K σ.ends) := ok.ends
  clear h ok
  obtain ⟨τ, hτ⟩ : ∃ τ, σ.ends = τ := ⟨_, rfl⟩
  rw [hτ] at hR HI h0 h1 hn
  have HG : Hid (σ.ends = τ) := hτ
  clear hτ
  have i0' := HI.out.ok.i0; have i1' := HI.out.ok.i1; have hil := HI.out.inq
  obtain ⟨vi, vo, vu, vn, vd, hV⟩ := hR
  obtain ⟨oi, hsi, _, _, _⟩ := hV.lens_inq
  obtain ⟨ai, ci, rfl, hl1, hl2⟩ := hsi.shape
  have k17 := hV.c17
  have k0 := hV.ci
  have k22 := hV.c22
  have f22 := hV.frozen 22
  rw [h1] at k22
  clear hsi
  have hR := hV.r
  clear h1 hV
  go_wp2_with (go_at_call 124; refine (in_any b τ.i _ _ k0 i0' i1' (by omega) (by omega)).mono ?_; rintro e w' ⟨rfl, rfl⟩)
  go_end0
  exact ⟨rfl, by rw [HG.out]; exact hR⟩
set_option maxHeartbeats 1000000 in
set_option maxRecDepth 100000 in
theorem Look_5 (h : AtR S0 w0 x b σ w) (ok : Inv K σ) (hK : K ≤ 1099511627776) (h0 : bit σ.ends.i 2048 = false) (h1 : σ.ends.held = true) :
    Calls Tryz.prog 91 #[.pointer (some ⟨b, 0, none⟩)] w fun e w' => e = .returned (.tuple #[]) ∧ AtR S0 w0 x b (({ σ.ends with held := false } : St).urge 8) w' := by
  go_enter Tryz.func91, Tryz.ntmps91
  go_wp2_with fail
  refine (ends_any S0 w0 x b σ _ K h ok).mono ?_
  rintro e W ⟨rfl, hR⟩
  have HI : Hid (Inv K σ.ends) := ok.ends
  clear h ok
  obtain ⟨τ, hτ⟩ : ∃ τ, σ.ends = τ := ⟨_, rfl⟩
  rw [hτ] at hR HI h0 h1
  have HG : Hid (σ.ends = τ) := hτ
  clear hτ
  have i0' := HI.out.ok.i0; have i1' := HI.out.ok.i1; have hil := HI.out.inq
  obtain ⟨vi, vo, vu, vn, vd, hV⟩ := hR
  obtain ⟨oi, hsi, _, _, _⟩ := hV.lens_inq
  obtain ⟨ai, ci, rfl, hl1, hl2⟩ := hsi.shape
  have k17 := hV.c17
  have k0 := hV.ci
  have k22 := hV.c22
  have f22 := hV.frozen 22
  rw [h1] at k22
  clear hsi
  have hR := (hV.s_held false).r
  clear h1 hV
  go_wp2_with (go_at_call 124; refine (in_any b τ.i _ _ k0 i0' i1' (by omega) (by omega)).mono ?_; rintro e w' ⟨rfl, rfl⟩)
  refine (urgent_any S0 w0 x b _ _ K hR (HI.out.held_ false) hK 8 (by omega) _ rfl).mono ?_
  rintro e W2 ⟨rfl, hW2⟩
  go_wp2
  go_end0
  exact ⟨rfl, by rw [HG.out]; exact hW2⟩
set_option maxHeartbeats 1000000 in
set_option maxRecDepth 100000 in
theorem Look_6 (h : AtR S0 w0 x b σ w) (ok : Inv K σ) (_hK : K ≤ 1099511627776) (h0 : bit σ.ends.i 2048 = false) (h1 : σ.ends.held = false) :
    Calls Tryz.prog 91 #[.pointer (some ⟨b, 0, none⟩)] w fun e w' => e = .returned (.tuple #[]) ∧ AtR S0 w0 x b σ.ends w' := by
  go_enter Tryz.func91, Tryz.ntmps91
  go_wp2_with fail
  refine (ends_any S0 w0 x b σ _ K h ok).mono ?_
  rintro e W ⟨rfl, hR⟩
  have HI : Hid (Inv K σ.ends) := ok.ends
  clear h ok
  obtain ⟨τ, hτ⟩ : ∃ τ, σ.ends = τ := ⟨_, rfl⟩
  rw [hτ] at hR HI h0 h1
  have HG : Hid (σ.ends = τ) := hτ
  clear hτ
  have i0' := HI.out.ok.i0; have i1' := HI.out.ok.i1; have hil := HI.out.inq
  obtain ⟨vi, vo, vu, vn, vd, hV⟩ := hR
  obtain ⟨oi, hsi, _, _, _⟩ := hV.lens_inq
  obtain ⟨ai, ci, rfl, hl1, hl2⟩ := hsi.shape
  have k17 := hV.c17
  have k0 := hV.ci
  have k22 := hV.c22
  have f22 := hV.frozen 22
  rw [h1] at k22
  clear hsi
  have hR := hV.r
  clear h1 hV
  go_wp2_with (go_at_call 124; refine (in_any b τ.i _ _ k0 i0' i1' (by omega) (by omega)).mono ?_; rintro e w' ⟨rfl, rfl⟩)
  go_end0
  exact ⟨rfl, by rw [HG.out]; exact hR⟩
theorem Look_any (h : AtR S0 w0 x b σ w) (ok : Inv K σ) (hK : K ≤ 1099511627776) :
    Calls Tryz.prog 91 #[.pointer (some ⟨b, 0, none⟩)] w fun e w' => e = .returned (.tuple #[]) ∧ AtR S0 w0 x b σ.look w' := by
  have e0 : σ.look = σ.ends.hold := rfl
  rw [e0]
  unfold St.hold St.I
  cases h0 : bit σ.ends.i 2048 with
  | true =>
    cases h1 : σ.ends.held with
    | false =>
      by_cases hn : 192 ≤ σ.ends.inq.length
      · simp only [hn]; exact Look_1 S0 w0 x b σ w K h ok hK h0 h1 hn
      · simp only [hn]; exact Look_2 S0 w0 x b σ w K h ok hK h0 h1 (by omega)
    | true =>
      by_cases hn : σ.ends.inq.length ≤ 64
      · simp only [hn]; exact Look_3 S0 w0 x b σ w K h ok hK h0 h1 hn
      · simp only [hn]; exact Look_4 S0 w0 x b σ w K h ok hK h0 h1 (by omega)
  | false =>
    cases h1 : σ.ends.held with
    | true => exact Look_5 S0 w0 x b σ w K h ok hK h0 h1
    | false => exact Look_6 S0 w0 x b σ w K h ok hK h0 h1

set_option maxHeartbeats 1000000 in
set_option maxRecDepth 100000 in
theorem Read_any (h : AtR S0 w0 x b σ w) (ok : Inv K σ) (hK : K ≤ 1099511627776) (n : Int) (hn0 : -9223372036854775808 ≤ n) (hn1 : n ≤ 9223372036854775807) :
    Calls Tryz.prog 64 #[.pointer (some ⟨b, 0, none⟩), .int .i64 n] w fun e w' => e = .returned (.int .i64 (σ.read n).2) ∧ AtR S0 w0 x b (σ.read n).1 w' := by
  have hR := h
  obtain ⟨vi, vo, vu, vn, vd, hV⟩ := h
  have k25 := hV.c25
  have f25 := hV.frozen 25
  have k26 := hV.c26
  have f26 := hV.frozen 26
  have k27 := hV.c27
  have f27 := hV.frozen 27
  have k29 := hV.c29
  have f29 := hV.frozen 29
  by_cases hs : n < 1 ∨ 256 < n
  · have HT : Hid (σ.read n = (σ, 2)) := by show σ.read n = _; unfold St.read; rw [if_pos hs]
    go_enter Tryz.func64, Tryz.ntmps64
    rcases hs with h1 | h1
    · go_wp2
      go_ret
      rw [HT.out]
      exact ⟨rfl, hR⟩
    · have h2 : ¬ n < 1 := by omega
      go_wp2
      go_ret
      rw [HT.out]
      exact ⟨rfl, hR⟩
  · have h1 : ¬ n < 1 := by omega
    have h2 : ¬ 256 < n := by omega
    cases hr : σ.reads with
    | true =>
      have HT : Hid (σ.read n = (σ, 3)) := by show σ.read n = _; unfold St.read; rw [if_neg hs, if_pos hr]
      rw [hr] at k25
      clear hs hr
      go_enter Tryz.func64, Tryz.ntmps64
      go_wp2
      go_ret
      rw [HT.out]
      exact ⟨rfl, hR⟩
    | false =>
      have HT : Hid (σ.read n = (({ σ with reads := true, ended := false, n := n, wait := 0 } : St).look, 0)) := by show σ.read n = _; unfold St.read; rw [if_neg hs, if_neg (by rw [hr]; decide)]
      have hW := ((((hV.s_reads true).s_ended false).s_n n).s_wait 0).r
      have HJ : Hid (Inv K { σ with reads := true, ended := false, n := n, wait := 0 }) :=
        ⟨ok.s, ok.c0, ok.c1, ok.out, ok.inq, ok.cells, ok.urg, ok.noted, ok.data, by dsimp only; omega, by dsimp only; omega, by simp, ok.k0⟩
      rw [hr] at k25
      clear hs hr hR hV ok
      go_enter Tryz.func64, Tryz.ntmps64
      go_wp2_with fail
      refine (Look_any S0 w0 x b _ _ K hW HJ.out hK).mono ?_
      rintro e W2 ⟨rfl, hW2⟩
      go_wp2
      go_ret
      rw [HT.out]
      exact ⟨rfl, hW2⟩

set_option maxHeartbeats 1000000 in
set_option maxRecDepth 100000 in
theorem Take_any (h : AtR S0 w0 x b σ w) :
    Calls Tryz.prog 100 #[.pointer (some ⟨b, 0, none⟩)] w fun e w' => e = .returned (.tuple #[.string (str σ.take.2.1), .bool σ.take.2.2.1, .int .i64 σ.take.2.2.2]) ∧ AtR S0 w0 x b σ.take.1 w' := by
  have hR := h
  obtain ⟨vi, vo, vu, vn, vd, hV⟩ := h
  have k25 := hV.c25
  have f25 := hV.frozen 25
  have k26 := hV.c26
  have k28 := hV.c28
  cases hr : σ.reads with
  | false =>
    have HT : Hid (σ.take = (σ, [], false, 4)) := by show σ.take = _; unfold St.take; rw [if_neg (by rw [hr]; decide)]
    rw [hr] at k25
    clear hr
    go_enter Tryz.func100, Tryz.ntmps100
    go_wp2
    go_ret3
    rw [HT.out]
    exact ⟨rfl, hR⟩
  | true =>
    cases he : σ.ended with
    | false =>
      have HT : Hid (σ.take = (σ, [], false, 0)) := by show σ.take = _; unfold St.take; rw [if_pos hr, if_neg (by rw [he]; decide)]
      rw [hr] at k25
      rw [he] at k26
      clear hr he
      go_enter Tryz.func100, Tryz.ntmps100
      go_wp2
      go_ret3
      rw [HT.out]
      exact ⟨rfl, hR⟩
    | true =>
      have HT : Hid (σ.take = ({ σ with reads := false }, σ.data, true, 0)) := by show σ.take = _; unfold St.take; rw [if_pos hr, if_pos he]
      rw [hr] at k25
      rw [he] at k26
      clear hr he
      have hS := hV.s_reads false
      obtain ⟨od, hsd, _, _, _⟩ := hS.lens_data
      dsimp only at hsd
      have k28' := hS.c28
      have hRS := hS.r
      go_enter Tryz.func100, Tryz.ntmps100
      go_wp2_with (refine wpList_string rfl (.tmp 21) 33 9 rfl Tryz.underlying33 Tryz.underlying5 Tryz.underlying9 rfl hsd ?_)
      go_ret3
      rw [HT.out]
      exact ⟨rfl, hRS⟩

set_option maxHeartbeats 1000000 in
set_option maxRecDepth 100000 in
theorem Tick_any (h : AtR S0 w0 x b σ w) (ok : Inv K σ) (hK : K ≤ 1099511600000) :
    Calls Tryz.prog 66 #[.pointer (some ⟨b, 0, none⟩)] w fun e w' => e = .returned (.tuple #[]) ∧ AtR S0 w0 x b σ.tick w' := by
  obtain ⟨vi, vo, vu, vn, vd, hV⟩ := h
  have k29 := hV.c29
  have f29 := hV.frozen 29
  have q0 := ok.w0; have q1 := ok.w1
  have hR := (hV.s_wait (σ.wait + 1)).r
  have HJ : Hid (Inv (K + 1) { σ with wait := σ.wait + 1 }) := by
    have := ok.c1; have := ok.urg; have := ok.noted
    exact ⟨ok.s, ok.c0, by dsimp only; omega, ok.out, ok.inq, ok.cells, by dsimp only; omega, by dsimp only; omega, ok.data, ok.n0, ok.n1, by dsimp only; omega, by dsimp only; omega⟩
  clear hV ok
  go_enter Tryz.func66, Tryz.ntmps66
  go_wp2_with fail
  refine (Look_any S0 w0 x b _ _ (K + 1) hR HJ.out (by omega)).mono ?_
  rintro e W2 ⟨rfl, hW2⟩
  go_wp2
  go_end0
  exact ⟨rfl, hW2⟩
end
end Go.Proofs.YtfnglkhhmplejaaGreat
namespace Go.Clk
open Go Go.RowKit
end Go.Clk
namespace Go.Proofs.YtfnglkhhmplejaaGreat
open Go Go.RowKit Go.Clk

theorem AtV.give_noted {S0 : List Nat} {w0 w : World} {x : List Nat} {b : Nat} {σ : St} {vi vo vu vn vd : Value} (h : AtV S0 w0 x b σ vi vo vu vn vd w) : ∃ o, Sl w 3 1 vn σ.noted.length (i64s σ.noted) o ∧
    (∀ g, o = some g → g ≠ b ∧ g ∉ x ∧ (g ∈ S0 ∨ w0.heap.size ≤ g)) ∧ AtV S0 w0 (o.toList ++ x) b { σ with noted := [] } vi vo vu (.slice none 0 0) vd (w.setCell ⟨b, 24, none⟩ (.slice none 0 0)) := by
  obtain ⟨o, h1, h2, h3⟩ := h.2.give 3 rfl
  exact ⟨o, h1, h2, h.1, set_tail h3 h.1 7 _⟩

section
variable (S0 : List Nat) (w0 : World) (x : List Nat) (b : Nat) (σ : St) (w : World) (K : Int)

set_option maxHeartbeats 1000000 in
set_option maxRecDepth 100000 in
theorem Signals_any (h : AtR S0 w0 x b σ w) :
    Calls Tryz.prog 131 #[.pointer (some ⟨b, 0, none⟩)] w fun e w' => ∃ v o, e = .returned v ∧ Sl w' 3 1 v σ.noted.length (i64s σ.noted) o ∧ (∀ g, o = some g → g ≠ b ∧ g ∉ x ∧ (g ∈ S0 ∨ w0.heap.size ≤ g)) ∧ AtR S0 w0 (o.toList ++ x) b { σ with noted := [] } w' := by
  obtain ⟨vi, vo, vu, vn, vd, hV⟩ := h
  obtain ⟨o, hs, hg, hN⟩ := hV.give_noted
  have hs' := hs.set ⟨b, 24, none⟩ (.slice none 0 0) fun g e => (hg g e).1
  have k24 := hV.c24
  have f24 := hV.frozen 24
  have hR := hN.r
  clear hs hV hN
  go_enter Tryz.func131, Tryz.ntmps131
  go_wp2
  go_ret
  exact ⟨vn, o, rfl, hs', hg, hR⟩

set_option maxHeartbeats 1000000 in
set_option maxRecDepth 100000 in
theorem Flow_any (h : AtR S0 w0 x b σ w) (ok : Inv K σ) (hK : K ≤ 1099511627776) (n : Int) :
    Calls Tryz.prog 70 #[.pointer (some ⟨b, 0, none⟩), .int .i64 n] w fun e w' => e = .returned (.int .i64 (σ.flow n).2) ∧ AtR S0 w0 x b (σ.flow n).1 w' := by
  have hR := h
  obtain ⟨vi, vo, vu, vn, vd, hV⟩ := h
  have k21 := hV.c21
  have f21 := hV.frozen 21
  by_cases h1 : n = 1
  · subst h1
    have HT : Hid (σ.flow 1 = ({ σ with stopped := true }, 0)) := rfl
    go_enter Tryz.func70, Tryz.ntmps70
    go_wp2
    go_ret
    rw [HT.out]
    exact ⟨rfl, (hV.s_stopped true).r⟩
  · by_cases h2 : n = 2
    · subst h2
      have HT : Hid (σ.flow 2 = ({ σ with stopped := false }, 0)) := rfl
      go_enter Tryz.func70, Tryz.ntmps70
      go_wp2
      go_ret
      rw [HT.out]
      exact ⟨rfl, (hV.s_stopped false).r⟩
    · by_cases h3 : n = 3
      · subst h3
        have HT : Hid (σ.flow 3 = (σ.urge 9, 0)) := rfl
        go_enter Tryz.func70, Tryz.ntmps70
        go_wp2_with fail
        refine (urgent_any S0 w0 x b _ _ K hR ok hK 9 (by omega) _ rfl).mono ?_
        rintro e W2 ⟨rfl, hW2⟩
        go_wp2
        go_ret
        rw [HT.out]
        exact ⟨rfl, hW2⟩
      · by_cases h4 : n = 4
        · subst h4
          have HT : Hid (σ.flow 4 = (σ.urge 8, 0)) := rfl
          go_enter Tryz.func70, Tryz.ntmps70
          go_wp2_with fail
          refine (urgent_any S0 w0 x b _ _ K hR ok hK 8 (by omega) _ rfl).mono ?_
          rintro e W2 ⟨rfl, hW2⟩
          go_wp2
          go_ret
          rw [HT.out]
          exact ⟨rfl, hW2⟩
        · have HT : Hid (σ.flow n = (σ, 1)) := by show σ.flow n = _; unfold St.flow; rw [if_neg h1, if_neg h2, if_neg h3, if_neg h4]
          have b1 : (n == 1) = false := beq_eq_false_iff_ne.2 h1
          have b2 : (n == 2) = false := beq_eq_false_iff_ne.2 h2
          have b3 : (n == 3) = false := beq_eq_false_iff_ne.2 h3
          have b4 : (n == 4) = false := beq_eq_false_iff_ne.2 h4
          clear h1 h2 h3 h4
          go_enter Tryz.func70, Tryz.ntmps70
          go_wp2
          go_ret
          rw [HT.out]
          exact ⟨rfl, hR⟩

set_option maxHeartbeats 1000000 in
set_option maxRecDepth 100000 in
theorem Flush_any (h : AtR S0 w0 x b σ w) (ok : Inv K σ) (hK : K ≤ 1099511600000) (n : Int) :
    Calls Tryz.prog 68 #[.pointer (some ⟨b, 0, none⟩), .int .i64 n] w fun e w' => e = .returned (.int .i64 (σ.flush n).2) ∧ AtR S0 w0 x b (σ.flush n).1 w' := by
  have hR := h
  obtain ⟨vi, vo, vu, vn, vd, hV⟩ := h
  have k17 := hV.c17
  have f17 := hV.frozen 17
  have k18 := hV.c18
  have f18 := hV.frozen 18
  have HJ : Hid (∀ l o, l = σ.inq ∨ l = [] → o = σ.out ∨ o = [] → Inv (K + 2048) { σ with inq := l, out := o }) := by
    intro l o hl ho
    have := ok.c1; have := ok.urg; have := ok.noted; have := ok.w1; have := ok.w0; have := ok.out; have := ok.inq
    refine ⟨ok.s, ok.c0, ?_, ?_, ?_, ?_, by dsimp only; omega, by dsimp only; omega, ok.data, ok.n0, ok.n1, ok.w0, by dsimp only; omega⟩
    · dsimp only; omega
    · rcases ho with rfl | rfl
      · exact ok.out
      · simp
    · rcases hl with rfl | rfl
      · exact ok.inq
      · simp
    · rcases hl with rfl | rfl
      · exact ok.cells
      · simp
  clear ok
  by_cases hs : n < 1 ∨ 3 < n
  · have HT : Hid (σ.flush n = (σ, 1)) := by show σ.flush n = _; unfold St.flush; rw [if_pos hs]
    go_enter Tryz.func68, Tryz.ntmps68
    rcases hs with h1 | h1
    · go_wp2
      go_ret
      rw [HT.out]
      exact ⟨rfl, hR⟩
    · have h2 : ¬ n < 1 := by omega
      go_wp2
      go_ret
      rw [HT.out]
      exact ⟨rfl, hR⟩
  · rcases (by omega : n = 1 ∨ n = 2 ∨ n = 3) with rfl | rfl | rfl
    · have HT : Hid (σ.flush 1 = (({ σ with inq := [] } : St).look, 0)) := rfl
      have hW := hV.nil_inq.r
      clear hs
      go_enter Tryz.func68, Tryz.ntmps68
      go_wp2_with fail
      refine (Look_any S0 w0 x b _ _ (K + 2048) hW (HJ.out [] σ.out (.inr rfl) (.inl rfl)) (by omega)).mono ?_
      rintro e W2 ⟨rfl, hW2⟩
      go_wp2
      go_ret
      rw [HT.out]
      exact ⟨rfl, hW2⟩
    · have HT : Hid (σ.flush 2 = (({ σ with out := [] } : St).look, 0)) := rfl
      have hW := hV.nil_out.r
      clear hs
      go_enter Tryz.func68, Tryz.ntmps68
      go_wp2_with fail
      refine (Look_any S0 w0 x b _ _ (K + 2048) hW (HJ.out σ.inq [] (.inl rfl) (.inr rfl)) (by omega)).mono ?_
      rintro e W2 ⟨rfl, hW2⟩
      go_wp2
      go_ret
      rw [HT.out]
      exact ⟨rfl, hW2⟩
    · have HT : Hid (σ.flush 3 = (({ σ with inq := [], out := [] } : St).look, 0)) := rfl
      have hW := (hV.nil_inq.nil_out).r
      clear hs
      go_enter Tryz.func68, Tryz.ntmps68
      go_wp2_with fail
      refine (Look_any S0 w0 x b _ _ (K + 2048) hW (HJ.out [] [] (.inr rfl) (.inr rfl)) (by omega)).mono ?_
      rintro e W2 ⟨rfl, hW2⟩
      go_wp2
      go_ret
      rw [HT.out]
      exact ⟨rfl, hW2⟩

theorem comes_snoc (f : St → UInt8 → St) (l : List UInt8) : ∀ (σ : St) (c : UInt8), St.comes f σ (l ++ [c]) = (f (St.comes f σ l) c).look := by
  induction l with
  | nil => intro σ c; rfl
  | cons a r ih => intro σ c; exact ih _ c

set_option maxHeartbeats 1000000 in
set_option maxRecDepth 100000 in
theorem Receive_good (h : AtR S0 w0 x b σ w) (ok : Inv K σ) (s : ByteArray) (hs : s.size ≤ 1048576) (hK : K + 2049 * s.size ≤ 1099511500000) :
    Calls Tryz.prog 63 #[.pointer (some ⟨b, 0, none⟩), .int .i64 0, .string s] w fun e w' => e = .returned (.int .i64 0) ∧ AtR S0 w0 x b (St.comes St.good σ s.data.toList) w' := by
  have hsz : s.data.toList.length = s.size := by rw [Array.length_toList]; rfl
  go_enter Tryz.func63, Tryz.ntmps63
  go_wp2_with fail
  go_loopg [7] s.size (fun k i wr => ∃ (j : Nat) (τ : St), j + k = s.size ∧ i = .int .i64 j ∧ AtR S0 w0 x b τ wr ∧ Hid (Inv (K + 2049 * j) τ ∧ τ = St.comes St.good σ (s.data.toList.take j)))
  case atStart => exact ⟨0, σ, by omega, rfl, h, by simpa using ok, rfl⟩
  case round =>
    clear h ok
    obtain ⟨j, τ, hj, rfl, hR, HS⟩ := hrel
    by_cases hlt : j < s.size
    · have HD : Hid (s.data.toList.take (j + 1) = s.data.toList.take j ++ [s[j]]) := by
        show s.data.toList.take (j + 1) = _
        rw [List.take_succ_eq_append_getElem (by omega)]; rfl
      go_wp2_with fail
      refine (good_any S0 w0 x b τ _ _ hR HS.out.1 (by omega) s[j]).mono ?_
      rintro e W1 ⟨rfl, hW1⟩
      go_wp2_with fail
      refine (Look_any S0 w0 x b _ _ _ hW1 (HS.out.1.good s[j]) (by omega)).mono ?_
      rintro e W2 ⟨rfl, hW2⟩
      have HN : Hid (Inv (K + 2049 * ((j + 1 : Nat) : Int)) (τ.good s[j]).look ∧ (τ.good s[j]).look = St.comes St.good σ (s.data.toList.take (j + 1))) :=
        ⟨(HS.out.1.good s[j]).look.mono (by omega), by rw [HD.out, comes_snoc, ← HS.out.2]⟩
      clear HS HD hR hW1
      go_wp2
      go_roundg (gk - 1)
      case measure => omega
      case rel => exact ⟨j + 1, _, by omega, by go_num, hW2, HN⟩
    · obtain rfl : j = s.size := by omega
      have HT : Hid (τ = St.comes St.good σ s.data.toList) := by
        show τ = _
        rw [HS.out.2, List.take_of_length_le (by omega)]
      clear HS
      go_wp2
      go_ret
      exact ⟨rfl, by rw [← HT.out]; exact hR⟩
set_option maxHeartbeats 1000000 in
set_option maxRecDepth 100000 in
theorem Receive_wrong (h : AtR S0 w0 x b σ w) (ok : Inv K σ) (s : ByteArray) (hs : s.size ≤ 1048576) (hK : K + 2049 * s.size ≤ 1099511500000) :
    Calls Tryz.prog 63 #[.pointer (some ⟨b, 0, none⟩), .int .i64 1, .string s] w fun e w' => e = .returned (.int .i64 0) ∧ AtR S0 w0 x b (St.comes St.wrong σ s.data.toList) w' := by
  have hsz : s.data.toList.length = s.size := by rw [Array.length_toList]; rfl
  go_enter Tryz.func63, Tryz.ntmps63
  go_wp2_with fail
  go_loopg [7] s.size (fun k i wr => ∃ (j : Nat) (τ : St), j + k = s.size ∧ i = .int .i64 j ∧ AtR S0 w0 x b τ wr ∧ Hid (Inv (K + 2049 * j) τ ∧ τ = St.comes St.wrong σ (s.data.toList.take j)))
  case atStart => exact ⟨0, σ, by omega, rfl, h, by simpa using ok, rfl⟩
  case round =>
    clear h ok
    obtain ⟨j, τ, hj, rfl, hR, HS⟩ := hrel
    by_cases hlt : j < s.size
    · have HD : Hid (s.data.toList.take (j + 1) = s.data.toList.take j ++ [s[j]]) := by
        show s.data.toList.take (j + 1) = _
        rw [List.take_succ_eq_append_getElem (by omega)]; rfl
      go_wp2_with fail
      refine (wrong_any S0 w0 x b τ _ _ hR HS.out.1 (by omega) s[j]).mono ?_
      rintro e W1 ⟨rfl, hW1⟩
      go_wp2_with fail
      refine (Look_any S0 w0 x b _ _ _ hW1 (HS.out.1.wrong s[j]) (by omega)).mono ?_
      rintro e W2 ⟨rfl, hW2⟩
      have HN : Hid (Inv (K + 2049 * ((j + 1 : Nat) : Int)) (τ.wrong s[j]).look ∧ (τ.wrong s[j]).look = St.comes St.wrong σ (s.data.toList.take (j + 1))) :=
        ⟨(HS.out.1.wrong s[j]).look.mono (by omega), by rw [HD.out, comes_snoc, ← HS.out.2]⟩
      clear HS HD hR hW1
      go_wp2
      go_roundg (gk - 1)
      case measure => omega
      case rel => exact ⟨j + 1, _, by omega, by go_num, hW2, HN⟩
    · obtain rfl : j = s.size := by omega
      have HT : Hid (τ = St.comes St.wrong σ s.data.toList) := by
        show τ = _
        rw [HS.out.2, List.take_of_length_le (by omega)]
      clear HS
      go_wp2
      go_ret
      exact ⟨rfl, by rw [← HT.out]; exact hR⟩
set_option maxHeartbeats 1000000 in
set_option maxRecDepth 100000 in
theorem Receive_any (h : AtR S0 w0 x b σ w) (ok : Inv K σ) (k : Int) (s : ByteArray) (hs : s.size ≤ 1048576) (hK : K + 2049 * s.size ≤ 1099511500000) :
    Calls Tryz.prog 63 #[.pointer (some ⟨b, 0, none⟩), .int .i64 k, .string s] w fun e w' => e = .returned (.int .i64 (σ.receive k s.data.toList).2) ∧ AtR S0 w0 x b (σ.receive k s.data.toList).1 w' := by
  by_cases hk : k < 0 ∨ 2 < k
  · have HT : Hid (σ.receive k s.data.toList = (σ, 1)) := by show σ.receive k s.data.toList = _; unfold St.receive; rw [if_pos hk]
    go_enter Tryz.func63, Tryz.ntmps63
    rcases hk with h1 | h1
    · go_wp2
      go_ret
      rw [HT.out]
      exact ⟨rfl, h⟩
    · have h2 : ¬ k < 0 := by omega
      go_wp2
      go_ret
      rw [HT.out]
      exact ⟨rfl, h⟩
  · rcases (by omega : k = 0 ∨ k = 1 ∨ k = 2) with rfl | rfl | rfl
    · exact Receive_good S0 w0 x b σ w K h ok s hs hK
    · exact Receive_wrong S0 w0 x b σ w K h ok s hs hK
    · have HT : Hid (σ.receive 2 s.data.toList = (σ.broken.look, 0)) := rfl
      clear hk
      go_enter Tryz.func63, Tryz.ntmps63
      go_wp2_with fail
      refine (broken_any S0 w0 x b σ _ K h ok (by omega)).mono ?_
      rintro e W1 ⟨rfl, hW1⟩
      go_wp2_with fail
      refine (Look_any S0 w0 x b _ _ _ hW1 ok.broken (by omega)).mono ?_
      rintro e W2 ⟨rfl, hW2⟩
      go_wp2
      go_ret
      rw [HT.out]
      exact ⟨rfl, hW2⟩
end
end Go.Proofs.YtfnglkhhmplejaaGreat
