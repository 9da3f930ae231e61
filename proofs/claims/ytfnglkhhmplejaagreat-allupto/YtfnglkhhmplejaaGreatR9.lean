/- Walks: the reference's terminal: characters, echo, what is urgent. -/
import Derived.Test.YtfnglkhhmplejaaGreatR7
import Derived.Test.YtfnglkhhmplejaaGreatBase2
import Derived.Test.YtfnglkhhmplejaaGreatBase
namespace Go.Proofs.YtfnglkhhmplejaaGreat
open Go Go.RowKit Go.Clk

section
variable (S0 : List Nat) (w0 : World) (x : List Nat) (b : Nat) (σ : St) (w : World) (K : Int)

/-- Bytes that lie in a new block are put out together. -/
theorem Put_new (h : AtR S0 w0 x b σ w) (ok : Inv K σ) (hK : K ≤ 1099511627776) (l : List UInt8) (hn : l.length ≤ 10000) (cs : Array Value) (hcs : cs = (bys l).toArray) (n : Nat) (hl : n = l.length) :
    Calls Tryz.prog 61 #[.pointer (some ⟨b, 0, none⟩), .slice (some ⟨w.heap.size, 0, none⟩) n n] (w.alloc (.cells cs 5)) fun e w' => e = .returned (.bool (σ.put l).2) ∧ AtR S0 w0 x b (σ.put l).1 w' := by
  subst hcs hl
  refine (Put_any S0 w0 (w.heap.size :: x) b σ _ _ (h.boxed _) ok.ok (by omega) ok.out _ l (some w.heap.size) (Sl.made w (bys l) l.length 5 1 (bys_len l) (by unfold maxLen; omega)) (fun g e => by cases e; simp) hn).mono ?_
  rintro e w' ⟨rfl, h'⟩
  exact ⟨rfl, h'.weaken fun g hg => by simp [hg]⟩

theorem xor64 : ∀ c : UInt8, (c.toNat : Int) < 32 → ((c ^^^ 64).toNat : Int) = c.toNat + 64 := by
  intro c h
  have hc : c.toNat < 32 := by omega
  have : ∀ n : Fin 32, ((UInt8.ofNat n.val ^^^ 64).toNat) = n.val + 64 := by decide
  have := this ⟨c.toNat, hc⟩
  simp only [UInt8.ofNat_toNat] at this
  omega

/-- How far the column moves when these are put out together. -/
def dcol (σ : St) (l : List UInt8) : Int := if σ.col < (σ.put l).1.col then (σ.put l).1.col - σ.col else 0
theorem cells_two (c : UInt8) (n : Int) (h : n = ((c ^^^ 64).toNat : Int)) : (#[.int .u8 94, .int .u8 n] : Array Value) = (bys [94, c ^^^ 64]).toArray := by subst h; rfl

set_option maxHeartbeats 1000000 in
set_option maxRecDepth 100000 in
theorem Echo_off_a (h : AtR S0 w0 x b σ w) (l0 : 0 ≤ σ.l) (l1 : σ.l < 8192) (c : UInt8) (h4 : bit σ.l 4 = false) (hn : ((c.toNat : Int) == 10) = false) :
    Calls Tryz.prog 149 #[.pointer (some ⟨b, 0, none⟩), .int .u8 c.toNat] w fun e w' => e = .returned (.int .i64 0) ∧ AtR S0 w0 x b σ w' := by
  obtain ⟨vi, vo, vu, vn, vd, hV⟩ := h
  have k2 := hV.cl
  go_enter Tryz.func149, Tryz.ntmps149
  go_wp2_with (go_at_call 89; refine (local_any b σ.l _ _ k2 l0 l1 (by omega) (by omega)).mono ?_; rintro e w' ⟨rfl, rfl⟩)
  all_goals go_ret
  all_goals exact ⟨rfl, hV.r⟩

set_option maxHeartbeats 1000000 in
set_option maxRecDepth 100000 in
theorem Echo_off_b (h : AtR S0 w0 x b σ w) (l0 : 0 ≤ σ.l) (l1 : σ.l < 8192) (h4 : bit σ.l 4 = false) (h32 : bit σ.l 32 = false) :
    Calls Tryz.prog 149 #[.pointer (some ⟨b, 0, none⟩), .int .u8 10] w fun e w' => e = .returned (.int .i64 0) ∧ AtR S0 w0 x b σ w' := by
  obtain ⟨vi, vo, vu, vn, vd, hV⟩ := h
  have k2 := hV.cl
  go_enter Tryz.func149, Tryz.ntmps149
  go_wp2_with (go_at_call 89; refine (local_any b σ.l _ _ k2 l0 l1 (by omega) (by omega)).mono ?_; rintro e w' ⟨rfl, rfl⟩)
  all_goals go_ret
  all_goals exact ⟨rfl, hV.r⟩

set_option maxHeartbeats 1000000 in
set_option maxRecDepth 100000 in
theorem Echo_off_c (h : AtR S0 w0 x b σ w) (l0 : 0 ≤ σ.l) (l1 : σ.l < 8192) (h4 : bit σ.l 4 = false) (h32 : bit σ.l 32 = true) (h2 : bit σ.l 2 = false) :
    Calls Tryz.prog 149 #[.pointer (some ⟨b, 0, none⟩), .int .u8 10] w fun e w' => e = .returned (.int .i64 0) ∧ AtR S0 w0 x b σ w' := by
  obtain ⟨vi, vo, vu, vn, vd, hV⟩ := h
  have k2 := hV.cl
  go_enter Tryz.func149, Tryz.ntmps149
  go_wp2_with (go_at_call 89; refine (local_any b σ.l _ _ k2 l0 l1 (by omega) (by omega)).mono ?_; rintro e w' ⟨rfl, rfl⟩)
  all_goals go_ret
  all_goals exact ⟨rfl, hV.r⟩

set_option maxHeartbeats 1000000 in
set_option maxRecDepth 100000 in
theorem Echo_nl_b (h : AtR S0 w0 x b σ w) (ok : Inv K σ) (hK : K ≤ 1099511627776) (h4 : bit σ.l 4 = false) (h32 : bit σ.l 32 = true) (h2 : bit σ.l 2 = true) (h64 : bit σ.l 64 = true) :
    Calls Tryz.prog 149 #[.pointer (some ⟨b, 0, none⟩), .int .u8 10] w fun e w' => e = .returned (.int .i64 (dcol σ [10])) ∧ AtR S0 w0 x b (σ.put [10]).1 w' := by
  obtain ⟨vi, vo, vu, vn, vd, hV⟩ := h
  have l0 := ok.ok.l0; have l1 := ok.ok.l1
  have k2 := hV.cl
  have k20 := hV.c20
  have q0 := ok.c0; have q1 := ok.c1; have q2 := ok.out
  have HI : Hid (Inv K σ) := ok
  clear ok
  go_enter Tryz.func149, Tryz.ntmps149
  go_wp2_with (go_at_call 89; refine (local_any b σ.l _ _ k2 l0 l1 (by omega) (by omega)).mono ?_; rintro e w' ⟨rfl, rfl⟩)
  all_goals
    refine (Put_new S0 w0 x b σ _ K hV.r HI.out hK [10] (by simp) _ rfl _ rfl).mono ?_
    rintro e W ⟨rfl, ui, uo, uu, un, ud, hW⟩
    have hp := HI.out.put [10]
    have p20 := hW.c20
    have hq0 := hp.c0; have hq1 := hp.c1; have hq2 := hp.out
    clear k20 k2 hV hp
    obtain ⟨τ, hτ⟩ : ∃ τ, (σ.put [10]).1 = τ := ⟨_, rfl⟩
    rw [hτ] at hW p20 hq0 hq1 hq2
    have HG : Hid ((σ.put [10]).1 = τ) := hτ
    clear hτ
    go_wp2
    all_goals go_ret
    · exact ⟨ret_int (by unfold dcol; rw [HG.out, if_pos (by omega)]), by rw [HG.out]; exact hW.r⟩
    · exact ⟨ret_int (by unfold dcol; rw [HG.out, if_neg (by omega)]), by rw [HG.out]; exact hW.r⟩

set_option maxHeartbeats 1000000 in
set_option maxRecDepth 100000 in
theorem Echo_nl_c (h : AtR S0 w0 x b σ w) (ok : Inv K σ) (hK : K ≤ 1099511627776) (h4 : bit σ.l 4 = false) (h32 : bit σ.l 32 = true) (h2 : bit σ.l 2 = true) (h64 : bit σ.l 64 = false) :
    Calls Tryz.prog 149 #[.pointer (some ⟨b, 0, none⟩), .int .u8 10] w fun e w' => e = .returned (.int .i64 (dcol σ [10])) ∧ AtR S0 w0 x b (σ.put [10]).1 w' := by
  obtain ⟨vi, vo, vu, vn, vd, hV⟩ := h
  have l0 := ok.ok.l0; have l1 := ok.ok.l1
  have k2 := hV.cl
  have k20 := hV.c20
  have q0 := ok.c0; have q1 := ok.c1; have q2 := ok.out
  have HI : Hid (Inv K σ) := ok
  clear ok
  go_enter Tryz.func149, Tryz.ntmps149
  go_wp2_with (go_at_call 89; refine (local_any b σ.l _ _ k2 l0 l1 (by omega) (by omega)).mono ?_; rintro e w' ⟨rfl, rfl⟩)
  all_goals
    refine (Put_new S0 w0 x b σ _ K hV.r HI.out hK [10] (by simp) _ rfl _ rfl).mono ?_
    rintro e W ⟨rfl, ui, uo, uu, un, ud, hW⟩
    have hp := HI.out.put [10]
    have p20 := hW.c20
    have hq0 := hp.c0; have hq1 := hp.c1; have hq2 := hp.out
    clear k20 k2 hV hp
    obtain ⟨τ, hτ⟩ : ∃ τ, (σ.put [10]).1 = τ := ⟨_, rfl⟩
    rw [hτ] at hW p20 hq0 hq1 hq2
    have HG : Hid ((σ.put [10]).1 = τ) := hτ
    clear hτ
    go_wp2
    all_goals go_ret
    · exact ⟨ret_int (by unfold dcol; rw [HG.out, if_pos (by omega)]), by rw [HG.out]; exact hW.r⟩
    · exact ⟨ret_int (by unfold dcol; rw [HG.out, if_neg (by omega)]), by rw [HG.out]; exact hW.r⟩

set_option maxHeartbeats 1000000 in
set_option maxRecDepth 100000 in
theorem Echo_plain (h : AtR S0 w0 x b σ w) (ok : Inv K σ) (hK : K ≤ 1099511627776) (c : UInt8) (h4 : bit σ.l 4 = true) (h64 : bit σ.l 64 = false) :
    Calls Tryz.prog 149 #[.pointer (some ⟨b, 0, none⟩), .int .u8 c.toNat] w fun e w' => e = .returned (.int .i64 (dcol σ [c])) ∧ AtR S0 w0 x b (σ.put [c]).1 w' := by
  obtain ⟨vi, vo, vu, vn, vd, hV⟩ := h
  have l0 := ok.ok.l0; have l1 := ok.ok.l1
  have k2 := hV.cl
  have k20 := hV.c20
  have q0 := ok.c0; have q1 := ok.c1; have q2 := ok.out
  have HI : Hid (Inv K σ) := ok
  clear ok
  go_enter Tryz.func149, Tryz.ntmps149
  go_wp2_with (go_at_call 89; refine (local_any b σ.l _ _ k2 l0 l1 (by omega) (by omega)).mono ?_; rintro e w' ⟨rfl, rfl⟩)
  all_goals
    refine (Put_new S0 w0 x b σ _ K hV.r HI.out hK [c] (by simp) _ rfl _ rfl).mono ?_
    rintro e W ⟨rfl, ui, uo, uu, un, ud, hW⟩
    have hp := HI.out.put [c]
    have p20 := hW.c20
    have hq0 := hp.c0; have hq1 := hp.c1; have hq2 := hp.out
    clear k20 k2 hV hp
    obtain ⟨τ, hτ⟩ : ∃ τ, (σ.put [c]).1 = τ := ⟨_, rfl⟩
    rw [hτ] at hW p20 hq0 hq1 hq2
    have HG : Hid ((σ.put [c]).1 = τ) := hτ
    clear hτ
    go_wp2
    all_goals go_ret
    · exact ⟨ret_int (by unfold dcol; rw [HG.out, if_pos (by omega)]), by rw [HG.out]; exact hW.r⟩
    · exact ⟨ret_int (by unfold dcol; rw [HG.out, if_neg (by omega)]), by rw [HG.out]; exact hW.r⟩

set_option maxHeartbeats 1000000 in
set_option maxRecDepth 100000 in
theorem Echo_tab (h : AtR S0 w0 x b σ w) (ok : Inv K σ) (hK : K ≤ 1099511627776) (h4 : bit σ.l 4 = true) (h64 : bit σ.l 64 = true) :
    Calls Tryz.prog 149 #[.pointer (some ⟨b, 0, none⟩), .int .u8 9] w fun e w' => e = .returned (.int .i64 (dcol σ [9])) ∧ AtR S0 w0 x b (σ.put [9]).1 w' := by
  obtain ⟨vi, vo, vu, vn, vd, hV⟩ := h
  have l0 := ok.ok.l0; have l1 := ok.ok.l1
  have k2 := hV.cl
  have k20 := hV.c20
  have q0 := ok.c0; have q1 := ok.c1; have q2 := ok.out
  have HI : Hid (Inv K σ) := ok
  clear ok
  go_enter Tryz.func149, Tryz.ntmps149
  go_wp2_with (go_at_call 89; refine (local_any b σ.l _ _ k2 l0 l1 (by omega) (by omega)).mono ?_; rintro e w' ⟨rfl, rfl⟩)
  all_goals
    refine (Put_new S0 w0 x b σ _ K hV.r HI.out hK [9] (by simp) _ rfl _ rfl).mono ?_
    rintro e W ⟨rfl, ui, uo, uu, un, ud, hW⟩
    have hp := HI.out.put [9]
    have p20 := hW.c20
    have hq0 := hp.c0; have hq1 := hp.c1; have hq2 := hp.out
    clear k20 k2 hV hp
    obtain ⟨τ, hτ⟩ : ∃ τ, (σ.put [9]).1 = τ := ⟨_, rfl⟩
    rw [hτ] at hW p20 hq0 hq1 hq2
    have HG : Hid ((σ.put [9]).1 = τ) := hτ
    clear hτ
    go_wp2
    all_goals go_ret
    · exact ⟨ret_int (by unfold dcol; rw [HG.out, if_pos (by omega)]), by rw [HG.out]; exact hW.r⟩
    · exact ⟨ret_int (by unfold dcol; rw [HG.out, if_neg (by omega)]), by rw [HG.out]; exact hW.r⟩

set_option maxHeartbeats 1000000 in
set_option maxRecDepth 100000 in
theorem Echo_nl_a (h : AtR S0 w0 x b σ w) (ok : Inv K σ) (hK : K ≤ 1099511627776) (h4 : bit σ.l 4 = true) (h64 : bit σ.l 64 = true) :
    Calls Tryz.prog 149 #[.pointer (some ⟨b, 0, none⟩), .int .u8 10] w fun e w' => e = .returned (.int .i64 (dcol σ [10])) ∧ AtR S0 w0 x b (σ.put [10]).1 w' := by
  obtain ⟨vi, vo, vu, vn, vd, hV⟩ := h
  have l0 := ok.ok.l0; have l1 := ok.ok.l1
  have k2 := hV.cl
  have k20 := hV.c20
  have q0 := ok.c0; have q1 := ok.c1; have q2 := ok.out
  have HI : Hid (Inv K σ) := ok
  clear ok
  go_enter Tryz.func149, Tryz.ntmps149
  go_wp2_with (go_at_call 89; refine (local_any b σ.l _ _ k2 l0 l1 (by omega) (by omega)).mono ?_; rintro e w' ⟨rfl, rfl⟩)
  all_goals
    refine (Put_new S0 w0 x b σ _ K hV.r HI.out hK [10] (by simp) _ rfl _ rfl).mono ?_
    rintro e W ⟨rfl, ui, uo, uu, un, ud, hW⟩
    have hp := HI.out.put [10]
    have p20 := hW.c20
    have hq0 := hp.c0; have hq1 := hp.c1; have hq2 := hp.out
    clear k20 k2 hV hp
    obtain ⟨τ, hτ⟩ : ∃ τ, (σ.put [10]).1 = τ := ⟨_, rfl⟩
    rw [hτ] at hW p20 hq0 hq1 hq2
    have HG : Hid ((σ.put [10]).1 = τ) := hτ
    clear hτ
    go_wp2
    all_goals go_ret
    · exact ⟨ret_int (by unfold dcol; rw [HG.out, if_pos (by omega)]), by rw [HG.out]; exact hW.r⟩
    · exact ⟨ret_int (by unfold dcol; rw [HG.out, if_neg (by omega)]), by rw [HG.out]; exact hW.r⟩

set_option maxHeartbeats 1000000 in
set_option maxRecDepth 100000 in
theorem Echo_low (h : AtR S0 w0 x b σ w) (ok : Inv K σ) (hK : K ≤ 1099511627776) (c : UInt8) (h4 : bit σ.l 4 = true) (h64 : bit σ.l 64 = true) (h9 : ((c.toNat : Int) != 9) = true) (h10 : ((c.toNat : Int) != 10) = true) (h32 : (c.toNat : Int) < 32) (h127 : ((c.toNat : Int) == 127) = false) :
    Calls Tryz.prog 149 #[.pointer (some ⟨b, 0, none⟩), .int .u8 c.toNat] w fun e w' => e = .returned (.int .i64 (dcol σ [94, c ^^^ 64])) ∧ AtR S0 w0 x b (σ.put [94, c ^^^ 64]).1 w' := by
  obtain ⟨vi, vo, vu, vn, vd, hV⟩ := h
  have l0 := ok.ok.l0; have l1 := ok.ok.l1
  have k2 := hV.cl
  have k20 := hV.c20
  have q0 := ok.c0; have q1 := ok.c1; have q2 := ok.out
  have HI : Hid (Inv K σ) := ok
  clear ok
  go_enter Tryz.func149, Tryz.ntmps149
  go_wp2_with (go_at_call 89; refine (local_any b σ.l _ _ k2 l0 l1 (by omega) (by omega)).mono ?_; rintro e w' ⟨rfl, rfl⟩)
  all_goals
    refine (Put_new S0 w0 x b σ _ K hV.r HI.out hK [94, c ^^^ 64] (by simp) _ (cells_two c _ (by rw [xor64 c h32])) _ rfl).mono ?_
    rintro e W ⟨rfl, ui, uo, uu, un, ud, hW⟩
    have hp := HI.out.put [94, c ^^^ 64]
    have p20 := hW.c20
    have hq0 := hp.c0; have hq1 := hp.c1; have hq2 := hp.out
    clear k20 k2 hV hp
    obtain ⟨τ, hτ⟩ : ∃ τ, (σ.put [94, c ^^^ 64]).1 = τ := ⟨_, rfl⟩
    rw [hτ] at hW p20 hq0 hq1 hq2
    have HG : Hid ((σ.put [94, c ^^^ 64]).1 = τ) := hτ
    clear hτ
    go_wp2
    all_goals go_ret
    · exact ⟨ret_int (by unfold dcol; rw [HG.out, if_pos (by omega)]), by rw [HG.out]; exact hW.r⟩
    · exact ⟨ret_int (by unfold dcol; rw [HG.out, if_neg (by omega)]), by rw [HG.out]; exact hW.r⟩

set_option maxHeartbeats 1000000 in
set_option maxRecDepth 100000 in
theorem Echo_del (h : AtR S0 w0 x b σ w) (ok : Inv K σ) (hK : K ≤ 1099511627776) (h4 : bit σ.l 4 = true) (h64 : bit σ.l 64 = true) :
    Calls Tryz.prog 149 #[.pointer (some ⟨b, 0, none⟩), .int .u8 127] w fun e w' => e = .returned (.int .i64 (dcol σ [94, 63])) ∧ AtR S0 w0 x b (σ.put [94, 63]).1 w' := by
  obtain ⟨vi, vo, vu, vn, vd, hV⟩ := h
  have l0 := ok.ok.l0; have l1 := ok.ok.l1
  have k2 := hV.cl
  have k20 := hV.c20
  have q0 := ok.c0; have q1 := ok.c1; have q2 := ok.out
  have HI : Hid (Inv K σ) := ok
  clear ok
  go_enter Tryz.func149, Tryz.ntmps149
  go_wp2_with (go_at_call 89; refine (local_any b σ.l _ _ k2 l0 l1 (by omega) (by omega)).mono ?_; rintro e w' ⟨rfl, rfl⟩)
  all_goals
    refine (Put_new S0 w0 x b σ _ K hV.r HI.out hK [94, 63] (by simp) _ rfl _ rfl).mono ?_
    rintro e W ⟨rfl, ui, uo, uu, un, ud, hW⟩
    have hp := HI.out.put [94, 63]
    have p20 := hW.c20
    have hq0 := hp.c0; have hq1 := hp.c1; have hq2 := hp.out
    clear k20 k2 hV hp
    obtain ⟨τ, hτ⟩ : ∃ τ, (σ.put [94, 63]).1 = τ := ⟨_, rfl⟩
    rw [hτ] at hW p20 hq0 hq1 hq2
    have HG : Hid ((σ.put [94, 63]).1 = τ) := hτ
    clear hτ
    go_wp2
    all_goals go_ret
    · exact ⟨ret_int (by unfold dcol; rw [HG.out, if_pos (by omega)]), by rw [HG.out]; exact hW.r⟩
    · exact ⟨ret_int (by unfold dcol; rw [HG.out, if_neg (by omega)]), by rw [HG.out]; exact hW.r⟩

set_option maxHeartbeats 1000000 in
set_option maxRecDepth 100000 in
theorem Echo_else (h : AtR S0 w0 x b σ w) (ok : Inv K σ) (hK : K ≤ 1099511627776) (c : UInt8) (h4 : bit σ.l 4 = true) (h64 : bit σ.l 64 = true) (h9 : ((c.toNat : Int) != 9) = true) (h10 : ((c.toNat : Int) != 10) = true) (h32 : 32 ≤ (c.toNat : Int)) (h127 : ((c.toNat : Int) == 127) = false) :
    Calls Tryz.prog 149 #[.pointer (some ⟨b, 0, none⟩), .int .u8 c.toNat] w fun e w' => e = .returned (.int .i64 (dcol σ [c])) ∧ AtR S0 w0 x b (σ.put [c]).1 w' := by
  obtain ⟨vi, vo, vu, vn, vd, hV⟩ := h
  have l0 := ok.ok.l0; have l1 := ok.ok.l1
  have k2 := hV.cl
  have k20 := hV.c20
  have q0 := ok.c0; have q1 := ok.c1; have q2 := ok.out
  have HI : Hid (Inv K σ) := ok
  clear ok
  go_enter Tryz.func149, Tryz.ntmps149
  go_wp2_with (go_at_call 89; refine (local_any b σ.l _ _ k2 l0 l1 (by omega) (by omega)).mono ?_; rintro e w' ⟨rfl, rfl⟩)
  all_goals
    refine (Put_new S0 w0 x b σ _ K hV.r HI.out hK [c] (by simp) _ rfl _ rfl).mono ?_
    rintro e W ⟨rfl, ui, uo, uu, un, ud, hW⟩
    have hp := HI.out.put [c]
    have p20 := hW.c20
    have hq0 := hp.c0; have hq1 := hp.c1; have hq2 := hp.out
    clear k20 k2 hV hp
    obtain ⟨τ, hτ⟩ : ∃ τ, (σ.put [c]).1 = τ := ⟨_, rfl⟩
    rw [hτ] at hW p20 hq0 hq1 hq2
    have HG : Hid ((σ.put [c]).1 = τ) := hτ
    clear hτ
    go_wp2
    all_goals go_ret
    · exact ⟨ret_int (by unfold dcol; rw [HG.out, if_pos (by omega)]), by rw [HG.out]; exact hW.r⟩
    · exact ⟨ret_int (by unfold dcol; rw [HG.out, if_neg (by omega)]), by rw [HG.out]; exact hW.r⟩
end

theorem echo_on (σ : St) (c : UInt8) (he : σ.echoes c = true) (l : List UInt8) (hs : σ.shows c = l) : σ.echo1 c = (σ.put l).1 := by unfold St.echo1; rw [if_pos he, hs]
theorem echo_off (σ : St) (c : UInt8) (he : σ.echoes c = false) : σ.echo1 c = σ := by unfold St.echo1; rw [he]; rfl
theorem cells_off (σ : St) (c : UInt8) (he : σ.echoes c = false) : σ.cellsOf c = 0 := by unfold St.cellsOf; rw [echo_off σ c he]; simp

section
variable (S0 : List Nat) (w0 : World) (x : List Nat) (b : Nat) (σ : St) (w : World) (K : Int)
theorem Echo_any (h : AtR S0 w0 x b σ w) (ok : Inv K σ) (hK : K ≤ 1099511627776) (c : UInt8) (n : Int) (hn : n = (c.toNat : Int)) :
    Calls Tryz.prog 149 #[.pointer (some ⟨b, 0, none⟩), .int .u8 n] w fun e w' => e = .returned (.int .i64 (σ.cellsOf c)) ∧ AtR S0 w0 x b (σ.echo1 c) w' := by
  subst hn
  have off : σ.echoes c = false → Calls Tryz.prog 149 #[.pointer (some ⟨b, 0, none⟩), .int .u8 c.toNat] w (fun e w' => e = .returned (.int .i64 0) ∧ AtR S0 w0 x b σ w') → Calls Tryz.prog 149 #[.pointer (some ⟨b, 0, none⟩), .int .u8 c.toNat] w fun e w' => e = .returned (.int .i64 (σ.cellsOf c)) ∧ AtR S0 w0 x b (σ.echo1 c) w' := by
    intro he; rw [cells_off σ c he, echo_off σ c he]; exact id
  have on : ∀ l, σ.echoes c = true → σ.shows c = l → Calls Tryz.prog 149 #[.pointer (some ⟨b, 0, none⟩), .int .u8 c.toNat] w (fun e w' => e = .returned (.int .i64 (dcol σ l)) ∧ AtR S0 w0 x b (σ.put l).1 w') → Calls Tryz.prog 149 #[.pointer (some ⟨b, 0, none⟩), .int .u8 c.toNat] w fun e w' => e = .returned (.int .i64 (σ.cellsOf c)) ∧ AtR S0 w0 x b (σ.echo1 c) w' := by
    intro l he hs; unfold St.cellsOf dcol; rw [echo_on σ c he l hs]; exact id
  have lt := UInt8.toNat_lt c
  have l0 := ok.ok.l0; have l1 := ok.ok.l1
  by_cases h10 : c.toNat = 10
  · obtain rfl : c = 10 := UInt8.toNat_inj.1 (by simpa using h10)
    have hs : σ.shows 10 = [10] := by simp [St.shows, St.two]
    by_cases h4 : bit σ.l 4 = true
    · by_cases h64 : bit σ.l 64 = true
      · exact on _ (by simp [St.echoes, St.L, h4]) hs (Echo_nl_a S0 w0 x b σ w K h ok hK h4 h64)
      · exact on _ (by simp [St.echoes, St.L, h4]) hs (Echo_plain S0 w0 x b σ w K h ok hK 10 h4 (by simpa using h64))
    · have h4' : bit σ.l 4 = false := by simpa using h4
      by_cases h32 : bit σ.l 32 = true
      · by_cases h2 : bit σ.l 2 = true
        · by_cases h64 : bit σ.l 64 = true
          · exact on _ (by simp [St.echoes, St.L, h2, h32]) hs (Echo_nl_b S0 w0 x b σ w K h ok hK h4' h32 h2 h64)
          · exact on _ (by simp [St.echoes, St.L, h2, h32]) hs (Echo_nl_c S0 w0 x b σ w K h ok hK h4' h32 h2 (by simpa using h64))
        · exact off (by simp [St.echoes, St.L, h2, h4']) (Echo_off_c S0 w0 x b σ w h l0 l1 h4' h32 (by simpa using h2))
      · exact off (by simp [St.echoes, St.L, h32, h4']) (Echo_off_b S0 w0 x b σ w h l0 l1 h4' (by simpa using h32))
  · have b10 : ((c.toNat : Int) == 10) = false := beq_eq_false_iff_ne.2 (by omega)
    by_cases h4 : bit σ.l 4 = true
    · have he : σ.echoes c = true := by simp [St.echoes, St.L, h4]
      by_cases h64 : bit σ.l 64 = true
      · by_cases h9 : c.toNat = 9
        · obtain rfl : c = 9 := UInt8.toNat_inj.1 (by simpa using h9)
          exact on _ he (by simp [St.shows, St.two]) (Echo_tab S0 w0 x b σ w K h ok hK h4 h64)
        · by_cases h32 : c.toNat < 32
          · exact on _ he (by unfold St.shows; rw [if_pos]; simp [St.two, St.L, h64]; omega) (Echo_low S0 w0 x b σ w K h ok hK c h4 h64 (bne_iff_ne.2 (by omega)) (bne_iff_ne.2 (by omega)) (by omega) (beq_eq_false_iff_ne.2 (by omega)))
          · by_cases h127 : c.toNat = 127
            · obtain rfl : c = 127 := UInt8.toNat_inj.1 (by simpa using h127)
              exact on _ he (by simp [St.shows, St.two, St.L, h64]; rfl) (Echo_del S0 w0 x b σ w K h ok hK h4 h64)
            · exact on _ he (by unfold St.shows; rw [if_neg]; simp [St.two]; omega) (Echo_else S0 w0 x b σ w K h ok hK c h4 h64 (bne_iff_ne.2 (by omega)) (bne_iff_ne.2 (by omega)) (by omega) (beq_eq_false_iff_ne.2 (by omega)))
      · exact on _ he (by simp [St.shows, St.two, St.L, h64]) (Echo_plain S0 w0 x b σ w K h ok hK c h4 (by simpa using h64))
    · exact off (by simp [St.echoes, St.L, h4]; omega) (Echo_off_a S0 w0 x b σ w h l0 l1 c (by simpa using h4) b10)
end
end Go.Proofs.YtfnglkhhmplejaaGreat
namespace Go.Proofs.YtfnglkhhmplejaaGreat
open Go Go.RowKit Go.Clk

section
variable {S0 : List Nat} {w0 w : World} {x : List Nat} {b : Nat} {σ : St} {vi vo vu vn vd : Value}
theorem AtV.s_reads (h : AtV S0 w0 x b σ vi vo vu vn vd w) (v : Bool) : AtV S0 w0 x b { σ with reads := v } vi vo vu vn vd (w.setCell ⟨b, 25, none⟩ (.bool v)) := ⟨h.1, set_tail h.2 h.1 8 _⟩
theorem AtV.s_ended (h : AtV S0 w0 x b σ vi vo vu vn vd w) (v : Bool) : AtV S0 w0 x b { σ with ended := v } vi vo vu vn vd (w.setCell ⟨b, 26, none⟩ (.bool v)) := ⟨h.1, set_tail h.2 h.1 9 _⟩
theorem AtV.s_n (h : AtV S0 w0 x b σ vi vo vu vn vd w) (v : Int) : AtV S0 w0 x b { σ with n := v } vi vo vu vn vd (w.setCell ⟨b, 27, none⟩ (.int .i64 v)) := ⟨h.1, set_tail h.2 h.1 10 _⟩
theorem AtV.s_wait (h : AtV S0 w0 x b σ vi vo vu vn vd w) (v : Int) : AtV S0 w0 x b { σ with wait := v } vi vo vu vn vd (w.setCell ⟨b, 29, none⟩ (.int .i64 v)) := ⟨h.1, set_tail h.2 h.1 12 _⟩
theorem AtV.lens_noted (h : AtV S0 w0 x b σ vi vo vu vn vd w) : ∃ o, Sl w 3 1 vn σ.noted.length (i64s σ.noted) o ∧ o ≠ some b ∧ (∀ g, o = some g → g ∉ x) ∧
    ∀ (w1 : World) (v' : Value) (xs : List Int) (o' : Option Nat), w.grownBy w1 o → Sl w1 3 1 v' xs.length (i64s xs) o' → (o' = none ∨ o' = o ∨ ∃ g, o' = some g ∧ w.heap.size ≤ g) →
      w1.cell? ⟨b, 24, none⟩ = some vn ∧ w1.frozen? ⟨b, 24, none⟩ = false ∧ AtV S0 w0 x b { σ with noted := xs } vi vo vu v' vd (w1.setCell ⟨b, 24, none⟩ v') := by
  obtain ⟨o, h1, h2, h3, _, h5⟩ := h.2.lens 3 rfl
  refine ⟨o, h1, h2, h3, fun w1 v' xs o' hg hs ho => ?_⟩
  have := h5 w1 ⟨_, 1, v', xs.length, i64s xs⟩ o' hg hs ho
  exact ⟨cell_tail this h.1 7 rfl, this.frozen _, h.1, set_tail this h.1 7 v'⟩
theorem AtV.lens_data (h : AtV S0 w0 x b σ vi vo vu vn vd w) : ∃ o, Sl w 5 1 vd σ.data.length (bys σ.data) o ∧ o ≠ some b ∧ (∀ g, o = some g → g ∉ x) ∧
    ∀ (w1 : World) (v' : Value) (xs : List UInt8) (o' : Option Nat), w.grownBy w1 o → Sl w1 5 1 v' xs.length (bys xs) o' → (o' = none ∨ o' = o ∨ ∃ g, o' = some g ∧ w.heap.size ≤ g) →
      w1.cell? ⟨b, 28, none⟩ = some vd ∧ w1.frozen? ⟨b, 28, none⟩ = false ∧ AtV S0 w0 x b { σ with data := xs } vi vo vu vn v' (w1.setCell ⟨b, 28, none⟩ v') := by
  obtain ⟨o, h1, h2, h3, _, h5⟩ := h.2.lens 4 rfl
  refine ⟨o, h1, h2, h3, fun w1 v' xs o' hg hs ho => ?_⟩
  have := h5 w1 ⟨_, 1, v', xs.length, bys xs⟩ o' hg hs ho
  exact ⟨cell_tail this h.1 11 rfl, this.frozen _, h.1, set_tail this h.1 11 v'⟩
theorem AtV.nil_inq (h : AtV S0 w0 x b σ vi vo vu vn vd w) : AtV S0 w0 x b { σ with inq := [] } (.slice none 0 0) vo vu vn vd (w.setCell ⟨b, 17, none⟩ (.slice none 0 0)) := by
  obtain ⟨o, _, _, _, h4⟩ := h.lens_inq
  exact (h4 w (.slice none 0 0) [] none (grownBy_refl w o) (Sl.nil w _ _) (.inl rfl)).2.2
theorem AtV.nil_out (h : AtV S0 w0 x b σ vi vo vu vn vd w) : AtV S0 w0 x b { σ with out := [] } vi (.slice none 0 0) vu vn vd (w.setCell ⟨b, 18, none⟩ (.slice none 0 0)) := by
  obtain ⟨o, _, _, _, h4⟩ := h.lens_out
  exact (h4 w (.slice none 0 0) [] none (grownBy_refl w o) (Sl.nil w _ _) (.inl rfl)).2.2
theorem AtV.nil_noted (h : AtV S0 w0 x b σ vi vo vu vn vd w) : AtV S0 w0 x b { σ with noted := [] } vi vo vu (.slice none 0 0) vd (w.setCell ⟨b, 24, none⟩ (.slice none 0 0)) := by
  obtain ⟨o, _, _, _, h4⟩ := h.lens_noted
  exact (h4 w (.slice none 0 0) [] none (grownBy_refl w o) (Sl.nil w _ _) (.inl rfl)).2.2
theorem AtV.nil_data (h : AtV S0 w0 x b σ vi vo vu vn vd w) : AtV S0 w0 x b { σ with data := [] } vi vo vu vn (.slice none 0 0) (w.setCell ⟨b, 28, none⟩ (.slice none 0 0)) := by
  obtain ⟨o, _, _, _, h4⟩ := h.lens_data
  exact (h4 w (.slice none 0 0) [] none (grownBy_refl w o) (Sl.nil w _ _) (.inl rfl)).2.2
theorem AtV.adopt_inq (h : AtV S0 w0 x b σ vi vo vu vn vd w) (v' : Value) (xs : List Ent) (o' : Option Nat) (y : List Nat) (hs' : Sl w 118 4 v' xs.length (ents xs) o') (hg : ∀ g, o' = some g → g ∈ x ∧ (g ∈ S0 ∨ w0.heap.size ≤ g) ∧ g ∉ y) (hy : ∀ z, z ∈ y → z ∈ x) :
    AtV S0 w0 y b { σ with inq := xs } v' vo vu vn vd (w.setCell ⟨b, 17, none⟩ v') := by
  have := h.2.adopt 0 (by simp [rfs]) ⟨_, 4, v', xs.length, ents xs⟩ o' y hs' hg hy
  exact ⟨h.1, set_tail this h.1 0 v'⟩
theorem AtV.weaken {y : List Nat} (h : AtV S0 w0 x b σ vi vo vu vn vd w) (hy : ∀ g, g ∈ y → g ∈ x) : AtV S0 w0 y b σ vi vo vu vn vd w := ⟨h.1, h.2.weaken hy⟩
end

section
variable (S0 : List Nat) (w0 : World) (x : List Nat) (b : Nat) (σ : St) (w : World) (K : Int)

set_option maxHeartbeats 1000000 in
set_option maxRecDepth 100000 in
theorem is_any (h : AtR S0 w0 x b σ w) (c : UInt8) (n : Int) (hn : 0 ≤ n) (hk : n < 14) :
    Calls Tryz.prog 148 #[.pointer (some ⟨b, 0, none⟩), .int .u8 c.toNat, .int .i64 n] w fun e w' => e = .returned (.bool (σ.isC c n)) ∧ w' = w := by
  obtain ⟨k, rfl⟩ := Int.eq_ofNat_of_zero_le hn
  obtain ⟨vi, vo, vu, vn, vd, hV⟩ := h
  have kc : w.cell? ⟨b, 3 + k, none⟩ = some (.int .i64 (σ.ch k)) := hV.head (3 + k) (by omega)
  have hlt := UInt8.toNat_lt c
  have HC : Hid (σ.isC c (k : Int) = (((c.toNat : Int) != 0) && ((c.toNat : Int) == σ.ch k))) := rfl
  go_enter Tryz.func148, Tryz.ntmps148
  go_wp2
  all_goals go_ret
  all_goals exact ⟨ret_bool (by first | exact HC.out.symm | (rw [HC.out]; simp [*])), rfl⟩

set_option maxHeartbeats 1000000 in
set_option maxRecDepth 100000 in
theorem urgent_any (h : AtR S0 w0 x b σ w) (ok : Inv K σ) (hK : K ≤ 1099511627776) (k : Nat) (hk : k < 14) (n : Int) (hn : n = (k : Int)) :
    Calls Tryz.prog 98 #[.pointer (some ⟨b, 0, none⟩), .int .i64 n] w fun e w' => e = .returned (.tuple #[]) ∧ AtR S0 w0 x b (σ.urge k) w' := by
  subst hn
  obtain ⟨i0, hi, hz0, hz1, hz2⟩ := info_parts info_u8
  obtain ⟨vi, vo, vu, vn, vd, hV⟩ := h
  have kc : w.cell? ⟨b, 3 + k, none⟩ = some (.int .i64 (σ.ch k)) := hV.head (3 + k) (by omega)
  have hc := ok.s.ch k
  have c0 : 0 ≤ σ.ch k := hc.1
  have c1 : σ.ch k < 256 := hc.2
  have hu := ok.urg
  have hlt := hV.lt
  have HB : Hid (((UInt8.ofNat (σ.ch k).toNat).toNat : Int) = σ.ch k) := byte_of _ c0 c1
  clear ok hc
  by_cases hz : σ.ch k = 0
  · have e1 : σ.urge k = σ := by unfold St.urge; rw [if_pos hz]
    rw [e1]
    rw [hz] at kc
    go_enter Tryz.func98, Tryz.ntmps98
    go_wp2
    go_end0
    exact ⟨rfl, hV.r⟩
  · have e1 : σ.urge k = { σ with urg := σ.urg ++ [UInt8.ofNat (σ.ch k).toNat] } := by unfold St.urge; rw [if_neg hz]
    rw [e1]
    have hnz : (σ.ch k != 0) = true := by simpa using hz
    have hm : σ.ch k % 256 = σ.ch k := Int.emod_eq_of_lt c0 c1
    have h' := hV.alloc (.cells #[.int .u8 (σ.ch k)] 5)
    obtain ⟨oo, hs, hob, _, hput⟩ := h'.lens_urg
    obtain ⟨a, cap, rfl, hl1, hl2⟩ := hs.shape
    have k19 := hV.c19
    have f19 := hV.frozen 19
    go_enter Tryz.func98, Tryz.ntmps98
    go_wp2_with (at_builtin; refine wpList_append_sl rfl (.tmp 18) (.tmp 21) 33 33 rfl hs rfl i0 (.int .u8 0) 1 Tryz.underlying33 hi hz0 hz1 hz2 rfl (.slice (some ⟨w.heap.size, 0, none⟩) 1 1) 1 [.int .u8 (σ.ch k)] rfl ?src ?b1 ?b2 ?next)
    case src => exact (Sl.made w [.int .u8 (σ.ch k)] 1 5 1 rfl (by simp [maxLen])).src Tryz.underlying33 (by intro u hu; simp at hu; subst hu; rfl)
    case b1 => unfold maxLen; omega
    case b2 => omega
    case next =>
      intro a' cap' w1 oz hs1 hg1 ho1
      obtain ⟨q2, q3, hW⟩ := hput w1 (.slice a' (σ.urg.length + 1) cap') (σ.urg ++ [UInt8.ofNat (σ.ch k).toNat]) oz hg1 (by rw [bys_app, List.length_append]; show Sl w1 _ 1 _ _ (bys σ.urg ++ [.int .u8 ((UInt8.ofNat (σ.ch k).toNat).toNat : Int)]) oz; rw [HB.out]; exact hs1) (by rcases ho1 with h1 | ⟨h1, _⟩; exact .inr (.inl h1); exact .inr (.inr ⟨_, h1, by simp⟩))
      clear hput hs hs1 hg1 ho1 h' hV k19 f19
      go_wp2
      go_end0
      exact ⟨rfl, hW.r⟩

set_option maxHeartbeats 1000000 in
set_option maxRecDepth 100000 in
theorem ref_raise_any (h : AtR S0 w0 x b σ w) (ok : Inv K σ) (hK : K ≤ 1099511627776) (n : Int) :
    Calls Tryz.prog 125 #[.pointer (some ⟨b, 0, none⟩), .int .i64 n] w fun e w' => e = .returned (.tuple #[]) ∧ AtR S0 w0 x b (σ.raise n) w' := by
  obtain ⟨i0, hi, hz0, hz1, hz2⟩ := info_parts info_int
  obtain ⟨vi, vo, vu, vn, vd, hV⟩ := h
  have l0 := ok.ok.l0; have l1 := ok.ok.l1
  have hu := ok.noted
  have hlt := hV.lt
  have h' := hV.alloc (.cells #[.int .i64 n] 3)
  obtain ⟨oo, hs, hob, _, hput⟩ := h'.lens_noted
  obtain ⟨a, cap, rfl, hl1, hl2⟩ := hs.shape
  have k24 := hV.c24
  have f24 := hV.frozen 24
  clear ok
  have HR : Hid (σ.raise n = if bit σ.l 256 then { σ with noted := σ.noted ++ [n] } else { σ with noted := σ.noted ++ [n], inq := [], out := [], quoted := false }) := rfl
  go_enter Tryz.func125, Tryz.ntmps125
  go_wp2_with (at_builtin; refine wpList_append_sl rfl (.tmp 9) (.tmp 11) 55 55 rfl hs rfl i0 (.int .i64 0) 8 Tryz.underlying55 hi hz0 hz1 hz2 rfl (.slice (some ⟨w.heap.size, 0, none⟩) 1 1) 1 [.int .i64 n] rfl ?src ?b1 ?b2 ?next)
  case src => exact (Sl.made w [.int .i64 n] 1 3 1 rfl (by simp [maxLen])).src Tryz.underlying55 (by intro u hu; simp at hu; subst hu; rfl)
  case b1 => unfold maxLen; omega
  case b2 => omega
  case next =>
    intro a' cap' w1 oz hs1 hg1 ho1
    obtain ⟨q2, q3, hW⟩ := hput w1 (.slice a' (σ.noted.length + 1) cap') (σ.noted ++ [n]) oz hg1 (by simpa [i64s_app, i64s] using hs1) (by rcases ho1 with h1 | ⟨h1, _⟩; exact .inr (.inl h1); exact .inr (.inr ⟨_, h1, by simp⟩))
    clear hput hs hs1 hg1 ho1 h' hV k24 f24
    go_wp2_with fail
    generalize w1.setCell ⟨b, 24, none⟩ (.slice a' (σ.noted.length + 1) cap') = W at hW ⊢
    clear q2 q3
    have k2 : W.cell? ⟨b, 2, none⟩ = some (.int .i64 σ.l) := hW.cl
    have k17 := hW.c17
    have f17 := hW.frozen 17
    have k18 := hW.c18
    have f18 := hW.frozen 18
    have k23 := hW.c23
    have f23 := hW.frozen 23
    by_cases hq : bit σ.l 256 = true
    · have HT : Hid (σ.raise n = { σ with noted := σ.noted ++ [n] }) := by show σ.raise n = _; rw [HR.out, if_pos hq]
      clear HR
      refine (local_any b σ.l _ _ k2 l0 l1 (by omega) (by omega)).mono ?_
      rintro e w' ⟨rfl, rfl⟩
      go_wp2
      go_end0
      exact ⟨rfl, by rw [HT.out]; exact hW.r⟩
    · have HT : Hid (σ.raise n = { σ with noted := σ.noted ++ [n], inq := [], out := [], quoted := false }) := by show σ.raise n = _; rw [HR.out, if_neg hq]
      have hq' : bit σ.l 256 = false := by simpa using hq
      clear HR hq
      refine (local_any b σ.l _ _ k2 l0 l1 (by omega) (by omega)).mono ?_
      rintro e w' ⟨rfl, rfl⟩
      go_wp2
      go_end0
      exact ⟨rfl, by rw [HT.out]; exact ((hW.nil_inq.nil_out).s_quoted false).r⟩
end
end Go.Proofs.YtfnglkhhmplejaaGreat
