/- Walks: the reference's terminal: a byte is put out. -/
import Derived.Test.YtfnglkhhmplejaaGreatR0
namespace Go.Proofs.YtfnglkhhmplejaaGreat
open Go Go.RowKit Go.Clk

section
variable (S0 : List Nat) (w0 : World) (x : List Nat) (b : Nat) (σ : St) (c : UInt8) (w : World) (C : Int)

theorem sent_at (n : Int) (hn : n = (c.toNat : Int)) (h : AtR S0 w0 x b σ w) (ok : Ok σ C) (hC : C ≤ 2305843009213693952) (hl : σ.out.length ≤ 100000) :
    Calls Tryz.prog 120 #[.pointer (some ⟨b, 0, none⟩), .int .u8 n] w fun e w' => e = .returned (.tuple #[]) ∧ AtR S0 w0 x b (σ.sents [c]) w' := by
  subst hn
  exact sent_any S0 w0 x b σ c w h ok hC hl

set_option maxHeartbeats 1000000 in
set_option maxRecDepth 100000 in
theorem puts_plain (h : AtR S0 w0 x b σ w) (ok : Ok σ C) (hC : C ≤ 2305843009213693000) (hl : σ.out.length ≤ 90000) (hp : bit σ.o 1 = false) :
    Calls Tryz.prog 88 #[.pointer (some ⟨b, 0, none⟩), .int .u8 c.toNat] w fun e w' => e = .returned (.tuple #[]) ∧ AtR S0 w0 x b (σ.sents [c]) w' := by
  obtain ⟨vi, vo, vu, vn, vd, hV⟩ := h
  have o0 := ok.o0; have o1 := ok.o1; have c0 := ok.c0; have c1 := ok.c1
  have k20 := hV.c20
  go_enter Tryz.func88, Tryz.ntmps88
  go_wp2_with (go_at_call 119; refine (out_any b σ.o _ _ hV.co o0 o1 (by omega) (by omega)).mono ?_; rintro e w' ⟨rfl, rfl⟩)
  all_goals
    refine (sent_at S0 w0 x b (σ) c _ _ _ rfl hV.r ok (by first | omega | (simp; omega)) (by omega)).mono ?_
    rintro e W ⟨rfl, hW⟩
    go_wp2
    go_end0
    exact ⟨rfl, hW⟩

set_option maxHeartbeats 1000000 in
set_option maxRecDepth 100000 in
theorem puts_upper (h : AtR S0 w0 x b σ w) (ok : Ok σ C) (hC : C ≤ 2305843009213693000) (hl : σ.out.length ≤ 90000) (hp : bit σ.o 1 = true) (hu : bit σ.o 32 = true) (h1 : 97 ≤ (c.toNat : Int)) (h2 : (c.toNat : Int) ≤ 122) :
    Calls Tryz.prog 88 #[.pointer (some ⟨b, 0, none⟩), .int .u8 c.toNat] w fun e w' => e = .returned (.tuple #[]) ∧ AtR S0 w0 x b (σ.sents [c - 32]) w' := by
  obtain ⟨vi, vo, vu, vn, vd, hV⟩ := h
  have o0 := ok.o0; have o1 := ok.o1; have c0 := ok.c0; have c1 := ok.c1
  have k20 := hV.c20
  go_enter Tryz.func88, Tryz.ntmps88
  go_wp2_with (go_at_call 119; refine (out_any b σ.o _ _ hV.co o0 o1 (by omega) (by omega)).mono ?_; rintro e w' ⟨rfl, rfl⟩)
  all_goals
    refine (sent_at S0 w0 x b (σ) (c - 32) _ _ _ (by rw [UInt8.toNat_sub_of_le _ _ (by rw [UInt8.le_iff_toNat_le]; simp; omega)]; simp; omega) hV.r ok (by first | omega | (simp; omega)) (by omega)).mono ?_
    rintro e W ⟨rfl, hW⟩
    go_wp2
    go_end0
    exact ⟨rfl, hW⟩

set_option maxHeartbeats 1000000 in
set_option maxRecDepth 100000 in
theorem puts_nl (h : AtR S0 w0 x b σ w) (ok : Ok σ C) (hC : C ≤ 2305843009213693000) (hl : σ.out.length ≤ 90000) (hp : bit σ.o 1 = true) (hn : bit σ.o 2 = true) :
    Calls Tryz.prog 88 #[.pointer (some ⟨b, 0, none⟩), .int .u8 10] w fun e w' => e = .returned (.tuple #[]) ∧ AtR S0 w0 x b (σ.sents [13, 10]) w' := by
  obtain ⟨vi, vo, vu, vn, vd, hV⟩ := h
  have o0 := ok.o0; have o1 := ok.o1; have c0 := ok.c0; have c1 := ok.c1
  have k20 := hV.c20
  go_enter Tryz.func88, Tryz.ntmps88
  go_wp2_with (go_at_call 119; refine (out_any b σ.o _ _ hV.co o0 o1 (by omega) (by omega)).mono ?_; rintro e w' ⟨rfl, rfl⟩)
  all_goals
    refine (sent_at S0 w0 x b (σ) 13 _ _ _ rfl hV.r ok (by first | omega | (simp; omega)) (by omega)).mono ?_
    rintro e V ⟨rfl, hV_⟩
    go_wp2_with fail
    refine (sent_at S0 w0 x b (σ.sents [13]) 10 _ _ _ rfl hV_ (ok.sents [13]) (by first | omega | (simp; omega)) (by simp [St.sents]; omega)).mono ?_
    rintro e W ⟨rfl, hW⟩
    go_wp2
    refine bodyPost_ret (results_none rfl _ _ _) rfl ?_
    exact ⟨rfl, by rw [sents_app] at hW; exact hW⟩

set_option maxHeartbeats 1000000 in
set_option maxRecDepth 100000 in
theorem puts_cr0 (h : AtR S0 w0 x b σ w) (ok : Ok σ C) (_hC : C ≤ 2305843009213693000) (_hl : σ.out.length ≤ 90000) (hp : bit σ.o 1 = true) (hn : bit σ.o 8 = true) (hz : (σ.col == 0) = true) :
    Calls Tryz.prog 88 #[.pointer (some ⟨b, 0, none⟩), .int .u8 13] w fun e w' => e = .returned (.tuple #[]) ∧ AtR S0 w0 x b (σ) w' := by
  obtain ⟨vi, vo, vu, vn, vd, hV⟩ := h
  have o0 := ok.o0; have o1 := ok.o1; have c0 := ok.c0; have c1 := ok.c1
  have k20 := hV.c20
  go_enter Tryz.func88, Tryz.ntmps88
  go_wp2_with (go_at_call 119; refine (out_any b σ.o _ _ hV.co o0 o1 (by omega) (by omega)).mono ?_; rintro e w' ⟨rfl, rfl⟩)
  all_goals
    refine bodyPost_ret (results_none rfl _ _ _) rfl ?_
    exact ⟨rfl, hV.r⟩

set_option maxHeartbeats 1000000 in
set_option maxRecDepth 100000 in
theorem puts_crnla (h : AtR S0 w0 x b σ w) (ok : Ok σ C) (hC : C ≤ 2305843009213693000) (hl : σ.out.length ≤ 90000) (hp : bit σ.o 1 = true) (hn : bit σ.o 8 = false) (h4 : bit σ.o 4 = true) :
    Calls Tryz.prog 88 #[.pointer (some ⟨b, 0, none⟩), .int .u8 13] w fun e w' => e = .returned (.tuple #[]) ∧ AtR S0 w0 x b (σ.sents [10]) w' := by
  obtain ⟨vi, vo, vu, vn, vd, hV⟩ := h
  have o0 := ok.o0; have o1 := ok.o1; have c0 := ok.c0; have c1 := ok.c1
  have k20 := hV.c20
  go_enter Tryz.func88, Tryz.ntmps88
  go_wp2_with (go_at_call 119; refine (out_any b σ.o _ _ hV.co o0 o1 (by omega) (by omega)).mono ?_; rintro e w' ⟨rfl, rfl⟩)
  all_goals
    refine (sent_at S0 w0 x b (σ) 10 _ _ _ rfl hV.r ok (by first | omega | (simp; omega)) (by omega)).mono ?_
    rintro e W ⟨rfl, hW⟩
    go_wp2
    go_end0
    exact ⟨rfl, hW⟩

set_option maxHeartbeats 1000000 in
set_option maxRecDepth 100000 in
theorem puts_cra (h : AtR S0 w0 x b σ w) (ok : Ok σ C) (hC : C ≤ 2305843009213693000) (hl : σ.out.length ≤ 90000) (hp : bit σ.o 1 = true) (hn : bit σ.o 8 = false) (h4 : bit σ.o 4 = false) :
    Calls Tryz.prog 88 #[.pointer (some ⟨b, 0, none⟩), .int .u8 13] w fun e w' => e = .returned (.tuple #[]) ∧ AtR S0 w0 x b (σ.sents [13]) w' := by
  obtain ⟨vi, vo, vu, vn, vd, hV⟩ := h
  have o0 := ok.o0; have o1 := ok.o1; have c0 := ok.c0; have c1 := ok.c1
  have k20 := hV.c20
  go_enter Tryz.func88, Tryz.ntmps88
  go_wp2_with (go_at_call 119; refine (out_any b σ.o _ _ hV.co o0 o1 (by omega) (by omega)).mono ?_; rintro e w' ⟨rfl, rfl⟩)
  all_goals
    refine (sent_at S0 w0 x b (σ) 13 _ _ _ rfl hV.r ok (by first | omega | (simp; omega)) (by omega)).mono ?_
    rintro e W ⟨rfl, hW⟩
    go_wp2
    go_end0
    exact ⟨rfl, hW⟩

set_option maxHeartbeats 1000000 in
set_option maxRecDepth 100000 in
theorem puts_crnlb (h : AtR S0 w0 x b σ w) (ok : Ok σ C) (hC : C ≤ 2305843009213693000) (hl : σ.out.length ≤ 90000) (hp : bit σ.o 1 = true) (hn : (σ.col == 0) = false) (h4 : bit σ.o 4 = true) :
    Calls Tryz.prog 88 #[.pointer (some ⟨b, 0, none⟩), .int .u8 13] w fun e w' => e = .returned (.tuple #[]) ∧ AtR S0 w0 x b (σ.sents [10]) w' := by
  obtain ⟨vi, vo, vu, vn, vd, hV⟩ := h
  have o0 := ok.o0; have o1 := ok.o1; have c0 := ok.c0; have c1 := ok.c1
  have k20 := hV.c20
  go_enter Tryz.func88, Tryz.ntmps88
  go_wp2_with (go_at_call 119; refine (out_any b σ.o _ _ hV.co o0 o1 (by omega) (by omega)).mono ?_; rintro e w' ⟨rfl, rfl⟩)
  all_goals
    refine (sent_at S0 w0 x b (σ) 10 _ _ _ rfl hV.r ok (by first | omega | (simp; omega)) (by omega)).mono ?_
    rintro e W ⟨rfl, hW⟩
    go_wp2
    go_end0
    exact ⟨rfl, hW⟩

set_option maxHeartbeats 1000000 in
set_option maxRecDepth 100000 in
theorem puts_crb (h : AtR S0 w0 x b σ w) (ok : Ok σ C) (hC : C ≤ 2305843009213693000) (hl : σ.out.length ≤ 90000) (hp : bit σ.o 1 = true) (hn : (σ.col == 0) = false) (h4 : bit σ.o 4 = false) :
    Calls Tryz.prog 88 #[.pointer (some ⟨b, 0, none⟩), .int .u8 13] w fun e w' => e = .returned (.tuple #[]) ∧ AtR S0 w0 x b (σ.sents [13]) w' := by
  obtain ⟨vi, vo, vu, vn, vd, hV⟩ := h
  have o0 := ok.o0; have o1 := ok.o1; have c0 := ok.c0; have c1 := ok.c1
  have k20 := hV.c20
  go_enter Tryz.func88, Tryz.ntmps88
  go_wp2_with (go_at_call 119; refine (out_any b σ.o _ _ hV.co o0 o1 (by omega) (by omega)).mono ?_; rintro e w' ⟨rfl, rfl⟩)
  all_goals
    refine (sent_at S0 w0 x b (σ) 13 _ _ _ rfl hV.r ok (by first | omega | (simp; omega)) (by omega)).mono ?_
    rintro e W ⟨rfl, hW⟩
    go_wp2
    go_end0
    exact ⟨rfl, hW⟩

set_option maxHeartbeats 1000000 in
set_option maxRecDepth 100000 in
theorem puts_tab (h : AtR S0 w0 x b σ w) (ok : Ok σ C) (hC : C ≤ 2305843009213693000) (hl : σ.out.length ≤ 90000) (hp : bit σ.o 1 = true) (h64 : bit σ.o 64 = false) :
    Calls Tryz.prog 88 #[.pointer (some ⟨b, 0, none⟩), .int .u8 9] w fun e w' => e = .returned (.tuple #[]) ∧ AtR S0 w0 x b (σ.sents [9]) w' := by
  obtain ⟨vi, vo, vu, vn, vd, hV⟩ := h
  have o0 := ok.o0; have o1 := ok.o1; have c0 := ok.c0; have c1 := ok.c1
  have k20 := hV.c20
  go_enter Tryz.func88, Tryz.ntmps88
  go_wp2_with (go_at_call 119; refine (out_any b σ.o _ _ hV.co o0 o1 (by omega) (by omega)).mono ?_; rintro e w' ⟨rfl, rfl⟩)
  all_goals
    refine (sent_at S0 w0 x b (σ) 9 _ _ _ rfl hV.r ok (by first | omega | (simp; omega)) (by omega)).mono ?_
    rintro e W ⟨rfl, hW⟩
    go_wp2
    go_end0
    exact ⟨rfl, hW⟩

set_option maxHeartbeats 1000000 in
set_option maxRecDepth 100000 in
theorem puts_nl0 (h : AtR S0 w0 x b σ w) (ok : Ok σ C) (hC : C ≤ 2305843009213693000) (hl : σ.out.length ≤ 90000) (hp : bit σ.o 1 = true) (h64 : bit σ.o 2 = false) :
    Calls Tryz.prog 88 #[.pointer (some ⟨b, 0, none⟩), .int .u8 10] w fun e w' => e = .returned (.tuple #[]) ∧ AtR S0 w0 x b (σ.sents [10]) w' := by
  obtain ⟨vi, vo, vu, vn, vd, hV⟩ := h
  have o0 := ok.o0; have o1 := ok.o1; have c0 := ok.c0; have c1 := ok.c1
  have k20 := hV.c20
  go_enter Tryz.func88, Tryz.ntmps88
  go_wp2_with (go_at_call 119; refine (out_any b σ.o _ _ hV.co o0 o1 (by omega) (by omega)).mono ?_; rintro e w' ⟨rfl, rfl⟩)
  all_goals
    refine (sent_at S0 w0 x b (σ) 10 _ _ _ rfl hV.r ok (by first | omega | (simp; omega)) (by omega)).mono ?_
    rintro e W ⟨rfl, hW⟩
    go_wp2
    go_end0
    exact ⟨rfl, hW⟩

set_option maxHeartbeats 1000000 in
set_option maxRecDepth 100000 in
theorem puts_elsea (h : AtR S0 w0 x b σ w) (ok : Ok σ C) (hC : C ≤ 2305843009213693000) (hl : σ.out.length ≤ 90000) (hp : bit σ.o 1 = true) (hu : bit σ.o 32 = false) (h10 : ((c.toNat : Int) == 10) = false) (h13 : ((c.toNat : Int) == 13) = false) (h9 : ((c.toNat : Int) == 9) = false) :
    Calls Tryz.prog 88 #[.pointer (some ⟨b, 0, none⟩), .int .u8 c.toNat] w fun e w' => e = .returned (.tuple #[]) ∧ AtR S0 w0 x b (σ.sents [c]) w' := by
  obtain ⟨vi, vo, vu, vn, vd, hV⟩ := h
  have o0 := ok.o0; have o1 := ok.o1; have c0 := ok.c0; have c1 := ok.c1
  have k20 := hV.c20
  go_enter Tryz.func88, Tryz.ntmps88
  go_wp2_with (go_at_call 119; refine (out_any b σ.o _ _ hV.co o0 o1 (by omega) (by omega)).mono ?_; rintro e w' ⟨rfl, rfl⟩)
  all_goals
    refine (sent_at S0 w0 x b (σ) c _ _ _ rfl hV.r ok (by first | omega | (simp; omega)) (by omega)).mono ?_
    rintro e W ⟨rfl, hW⟩
    go_wp2
    go_end0
    exact ⟨rfl, hW⟩

set_option maxHeartbeats 1000000 in
set_option maxRecDepth 100000 in
theorem puts_elseb (h : AtR S0 w0 x b σ w) (ok : Ok σ C) (hC : C ≤ 2305843009213693000) (hl : σ.out.length ≤ 90000) (hp : bit σ.o 1 = true) (hu : (c.toNat : Int) < 97) (h10 : ((c.toNat : Int) == 10) = false) (h13 : ((c.toNat : Int) == 13) = false) (h9 : ((c.toNat : Int) == 9) = false) :
    Calls Tryz.prog 88 #[.pointer (some ⟨b, 0, none⟩), .int .u8 c.toNat] w fun e w' => e = .returned (.tuple #[]) ∧ AtR S0 w0 x b (σ.sents [c]) w' := by
  obtain ⟨vi, vo, vu, vn, vd, hV⟩ := h
  have o0 := ok.o0; have o1 := ok.o1; have c0 := ok.c0; have c1 := ok.c1
  have k20 := hV.c20
  go_enter Tryz.func88, Tryz.ntmps88
  go_wp2_with (go_at_call 119; refine (out_any b σ.o _ _ hV.co o0 o1 (by omega) (by omega)).mono ?_; rintro e w' ⟨rfl, rfl⟩)
  all_goals
    refine (sent_at S0 w0 x b (σ) c _ _ _ rfl hV.r ok (by first | omega | (simp; omega)) (by omega)).mono ?_
    rintro e W ⟨rfl, hW⟩
    go_wp2
    go_end0
    exact ⟨rfl, hW⟩

set_option maxHeartbeats 1000000 in
set_option maxRecDepth 100000 in
theorem puts_elsec (h : AtR S0 w0 x b σ w) (ok : Ok σ C) (hC : C ≤ 2305843009213693000) (hl : σ.out.length ≤ 90000) (hp : bit σ.o 1 = true) (hu : 122 < (c.toNat : Int)) (h10 : ((c.toNat : Int) == 10) = false) (h13 : ((c.toNat : Int) == 13) = false) (h9 : ((c.toNat : Int) == 9) = false) :
    Calls Tryz.prog 88 #[.pointer (some ⟨b, 0, none⟩), .int .u8 c.toNat] w fun e w' => e = .returned (.tuple #[]) ∧ AtR S0 w0 x b (σ.sents [c]) w' := by
  obtain ⟨vi, vo, vu, vn, vd, hV⟩ := h
  have o0 := ok.o0; have o1 := ok.o1; have c0 := ok.c0; have c1 := ok.c1
  have k20 := hV.c20
  go_enter Tryz.func88, Tryz.ntmps88
  go_wp2_with (go_at_call 119; refine (out_any b σ.o _ _ hV.co o0 o1 (by omega) (by omega)).mono ?_; rintro e w' ⟨rfl, rfl⟩)
  all_goals
    refine (sent_at S0 w0 x b (σ) c _ _ _ rfl hV.r ok (by first | omega | (simp; omega)) (by omega)).mono ?_
    rintro e W ⟨rfl, hW⟩
    go_wp2
    go_end0
    exact ⟨rfl, hW⟩
end
end Go.Proofs.YtfnglkhhmplejaaGreat
