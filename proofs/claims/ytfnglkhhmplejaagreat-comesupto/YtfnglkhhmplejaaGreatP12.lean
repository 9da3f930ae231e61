/- Walks: the program: Status. -/
import Derived.Test.YtfnglkhhmplejaaGreatP9
import Derived.Test.YtfnglkhhmplejaaGreatBase2
import Derived.Deep.RegionHeld
import Derived.Test.YtfnglkhhmplejaaGreatProg3
import Derived.Test.YtfnglkhhmplejaaGreatP16
import Derived.Test.YtfnglkhhmplejaaGreatBase
import Derived.Test.YtfnglkhhmplejaaGreatP20
namespace Go.Proofs.YtfnglkhhmplejaaGreat
open Go Go.RowKit Go.Clk

section
variable (S0 : List Nat) (w0 : World) (x : List Nat) (b : Nat) (σ : St) (w : World)

set_option maxHeartbeats 400000 in
theorem Len_any (a : Option Addr) (n cap : Nat) (h : w.cell? ⟨b, 19, none⟩ = some (.slice a n cap)) :
    Calls Tryz.prog 37 #[.pointer (some ⟨b, 18, none⟩)] w fun e w' => e = .returned (.int .i64 n) ∧ w = w' := by
  go_enter Tryz.func37, Tryz.ntmps37
  go_wp2
  go_ret
  exact ⟨rfl, rfl⟩
set_option maxHeartbeats 400000 in
theorem Stopped_any (q : Bool) (h : w.cell? ⟨b, 21, none⟩ = some (.bool q)) :
    Calls Tryz.prog 39 #[.pointer (some ⟨b, 18, none⟩)] w fun e w' => e = .returned (.bool q) ∧ w = w' := by
  go_enter Tryz.func39, Tryz.ntmps39
  go_wp2
  go_ret
  exact ⟨rfl, rfl⟩

set_option maxHeartbeats 4000000 in
set_option maxRecDepth 100000 in
theorem PStatus_any (h : AtP S0 w0 x b σ w) :
    Calls Tryz.prog 20 #[.pointer (some ⟨b, 0, none⟩)] w fun e w' => e = .returned (statusV σ) ∧ AtP S0 w0 x b σ w' := by
  obtain ⟨vi, vu, vo, vs, hV⟩ := h
  obtain ⟨oi, hsi, _, _, _⟩ := hV.lens_in
  obtain ⟨ai, ci, rfl, _, _⟩ := hsi.shape
  obtain ⟨oo, hso, _, _, _⟩ := hV.lens_out
  obtain ⟨ao, co, rfl, _, _⟩ := hso.shape
  have k17 := hV.c_in
  have k19 := hV.c_out
  have k20 := hV.c_col
  have k21 := hV.c_stopped
  have k22 := hV.c_held
  have k23 := hV.c_quo
  have hlt := hV.lt
  clear hsi hso
  go_enter Tryz.func20, Tryz.ntmps20
  have hne : w.heap.size ≠ b := by omega
  go_wp2
  go_region_held (fun w' => w'.cell? ⟨b, 17, none⟩ = some (.slice ai σ.inq.length ci) ∧ w'.cell? ⟨b, 19, none⟩ = some (.slice ao σ.out.length co) ∧ w'.cell? ⟨b, 20, none⟩ = some (.int .i64 σ.col) ∧ w'.cell? ⟨b, 21, none⟩ = some (.bool σ.stopped) ∧ w'.cell? ⟨b, 27, none⟩ = some (.bool σ.held) ∧ w'.cell? ⟨b, 28, none⟩ = some (.bool σ.quoted)) (go_keep) (first
    | (go_at_call 37; refine (Len_any b _ ao σ.out.length co ?_).mono ?_; (simp [*]); rintro e w' ⟨rfl, rfl⟩)
    | (go_at_call 38; refine (Column_any b _ σ.col ?_).mono ?_; (simp [*]); rintro e w' ⟨rfl, rfl⟩)
    | (go_at_call 39; refine (Stopped_any b _ σ.stopped ?_).mono ?_; (simp [*]); rintro e w' ⟨rfl, rfl⟩))
  all_goals go_wp2
  all_goals refine bodyPost_ret (v := statusV σ) (by simp [results, Tryz.results20, go_sem, statusV]) rfl ⟨rfl, ?_⟩
  all_goals exact (PV.drew (hV.alloc _)).r
end
end Go.Proofs.YtfnglkhhmplejaaGreat
namespace Go.Proofs.YtfnglkhhmplejaaGreat
open Go Go.RowKit Go.Clk

set_option maxHeartbeats 400000 in
set_option maxRecDepth 100000 in
theorem Repeat_none (v : Value) (w : World) :
    Calls Tryz.prog 158 #[v, .int .i64 0] w fun e w' => Sl w' 5 1 (.slice (some ⟨w.heap.size, 0, none⟩) 0 0) 0 (bys []) (some w.heap.size) ∧ e = .returned (.slice (some ⟨w.heap.size, 0, none⟩) 0 0) ∧ w.grownBy w' none := by
  go_enter Tryz.func158, Tryz.ntmps158
  go_wp2
  go_ret
  exact ⟨Sl.made w [] 0 5 1 rfl (by simp [maxLen]), rfl, ⟨rfl, rfl, rfl, by simp, fun k hk _ => Below.heap_alloc w _ k hk⟩⟩

/-- The bytes that take the echo of an entry off. -/
def offs (e : Ent) : List UInt8 := repL (if ((e.b.toNat : Int) == 9) then [8] else [8, 32, 8]) e.cells.toNat

set_option maxHeartbeats 1000000 in
set_option maxRecDepth 100000 in
theorem rubbing_any (w : World) (e : Ent) (c0 : 0 ≤ e.cells) (c1 : e.cells ≤ 128) :
    Calls Tryz.prog 155 #[.agg #[.int .u8 e.b.toNat, .bool e.file, .bool e.fin, .int .i64 e.cells]] w fun r w' => ∃ v g, r = .returned v ∧ Sl w' 5 1 v (offs e).length (bys (offs e)) (some g) ∧ w.heap.size ≤ g ∧ w.grownBy w' none := by
  obtain ⟨n, hn⟩ : ∃ n : Nat, e.cells = (n : Int) := ⟨e.cells.toNat, by omega⟩
  have HO : Hid (offs e = repL (if ((e.b.toNat : Int) == 9) then [8] else [8, 32, 8]) n) := by show offs e = _; unfold offs; rw [hn]; rfl
  rw [hn] at c1 ⊢
  have hg0 : w.grownBy (w.alloc (.cells #[.int .u8 e.b.toNat, .bool e.file, .bool e.fin, .int .i64 n] 112)) none := ⟨rfl, rfl, rfl, by simp, fun k hk _ => Below.heap_alloc w _ k hk⟩
  cases h9 : ((e.b.toNat : Int) == 9) with
  | true =>
    have HP : Hid (offs e = repL [8] n) := by show offs e = _; rw [HO.out, h9]; rfl
    go_enter Tryz.func155, Tryz.ntmps155
    go_wp2_with (refine wpList_bytes rfl (.tmp 7) 9 33 rfl Tryz.underlying9 Tryz.underlying33 Tryz.underlying5 ⟨#[8]⟩ rfl ?_)
    intro W cap hg hsz hcap hc
    have hbk : Blk W w.heap.size 112 [.int .u8 e.b.toNat, .bool e.file, .bool e.fin, .int .i64 n] := by
      obtain ⟨_, _, _, _, hb⟩ := hg
      exact (hb _ (by simp) (by simp)).trans (Blk.new w _ _)
    have b3 := hbk.cell 3 rfl
    have hgW : w.grownBy W none := grownBy_then hg0 hg (by simp)
    have hlW : w.heap.size + 1 < W.heap.size := by rw [hsz]; simp
    clear hsz
    by_cases hz : n = 0
    · subst hz
      go_wp2_with (go_at_call 158; refine (Repeat_none _ _).mono ?_; rintro r V ⟨hS, rfl, hgV⟩)
      go_ret
      have hE : offs e = [] := by rw [HP.out]; rfl
      rw [hE]
      exact ⟨_, _, rfl, hS, by omega, grownBy_then hgW hgV (by simp)⟩
    · go_wp2_with ((go_at_call 158; refine (Repeat_any [8] 1 rfl (by decide) _ _ _ n (by omega) (by omega) hcap _ (by first | exact (fun j v hv => by rw [Nat.zero_add]; exact hc j v hv) | simpa using hc) (by first | omega | (simp; omega))).mono ?_; rintro r V ⟨rfl, hS, hgV⟩))
      go_ret
      have hE : (offs e).length = 1 * n := by rw [HP.out, repL_len]; simp
      rw [hE, HP.out]
      first | exact ⟨_, _, rfl, hS, by omega, grownBy_then hgW hgV (by simp)⟩ | (simp only [Nat.one_mul] at hS ⊢; exact ⟨_, _, rfl, hS, by omega, grownBy_then hgW hgV (by simp)⟩)
  | false =>
    have HP : Hid (offs e = repL [8, 32, 8] n) := by show offs e = _; rw [HO.out, h9]; rfl
    go_enter Tryz.func155, Tryz.ntmps155
    go_wp2_with (refine wpList_bytes rfl (.tmp 7) 9 33 rfl Tryz.underlying9 Tryz.underlying33 Tryz.underlying5 ⟨#[8, 32, 8]⟩ rfl ?_)
    intro W cap hg hsz hcap hc
    have hbk : Blk W w.heap.size 112 [.int .u8 e.b.toNat, .bool e.file, .bool e.fin, .int .i64 n] := by
      obtain ⟨_, _, _, _, hb⟩ := hg
      exact (hb _ (by simp) (by simp)).trans (Blk.new w _ _)
    have b3 := hbk.cell 3 rfl
    have hgW : w.grownBy W none := grownBy_then hg0 hg (by simp)
    have hlW : w.heap.size + 1 < W.heap.size := by rw [hsz]; simp
    clear hsz
    by_cases hz : n = 0
    · subst hz
      go_wp2_with (go_at_call 158; refine (Repeat_none _ _).mono ?_; rintro r V ⟨hS, rfl, hgV⟩)
      go_ret
      have hE : offs e = [] := by rw [HP.out]; rfl
      rw [hE]
      exact ⟨_, _, rfl, hS, by omega, grownBy_then hgW hgV (by simp)⟩
    · go_wp2_with ((go_at_call 158; refine (Repeat_any [8, 32, 8] 3 rfl (by decide) _ _ _ n (by omega) (by omega) hcap _ (by first | exact (fun j v hv => by rw [Nat.zero_add]; exact hc j v hv) | simpa using hc) (by first | omega | (simp; omega))).mono ?_; rintro r V ⟨rfl, hS, hgV⟩))
      go_ret
      have hE : (offs e).length = 3 * n := by rw [HP.out, repL_len]; simp
      rw [hE, HP.out]
      first | exact ⟨_, _, rfl, hS, by omega, grownBy_then hgW hgV (by simp)⟩ | (simp only [Nat.one_mul] at hS ⊢; exact ⟨_, _, rfl, hS, by omega, grownBy_then hgW hgV (by simp)⟩)
end Go.Proofs.YtfnglkhhmplejaaGreat
namespace Go.Proofs.YtfnglkhhmplejaaGreat
open Go Go.RowKit Go.Clk

section
variable (S0 : List Nat) (w0 : World) (x : List Nat) (b : Nat) (σ : St) (w : World) (K : Int)

set_option maxHeartbeats 1000000 in
set_option maxRecDepth 100000 in
theorem phold_any (h : AtP S0 w0 x b σ w) (ok : Inv K σ) (hK : K ≤ 1099511627776) :
    Calls Tryz.prog 59 #[.pointer (some ⟨b, 0, none⟩)] w fun e w' => e = .returned (.tuple #[]) ∧ AtP S0 w0 x b σ.hold w' := by
  obtain ⟨vi, vu, vo, vs, hV⟩ := h
  obtain ⟨oi, hsi, _, _, _⟩ := hV.lens_in
  obtain ⟨ai, ci, rfl, hl1, hl2⟩ := hsi.shape
  have k0 := hV.ci
  have kq := hV.c_in
  have kh := hV.c_held
  have fh := hV.frozen 27
  have hR := hV.r
  have hT := (hV.s_held true).r
  have hF := (hV.s_held false).r
  have oT := ok.held_ true
  have oF := ok.held_ false
  have i0 := ok.ok.i0; have i1 := ok.ok.i1
  have a2048 := has2048 σ.i i0 i1
  have HH : Hid (σ.hold = if σ.I 2048 && (!σ.held && decide (192 ≤ σ.inq.length)) then ({ σ with held := true } : St).urge 9 else if σ.held && (!σ.I 2048 || decide (σ.inq.length ≤ 64)) then ({ σ with held := false } : St).urge 8 else σ) := rfl
  have hil := ok.inq
  clear hV hsi ok i0 i1
  cases hI : bit σ.i 2048 with
  | true =>
    rw [hI] at a2048
    have HI : Hid (σ.I 2048 = true) := hI
    clear hI
    cases hh : σ.held with
    | true =>
      rw [hh] at kh
      by_cases hlo : σ.inq.length ≤ 64
      · have e1 : Hid (σ.hold = ({ σ with held := false } : St).urge 8) := by show σ.hold = _; rw [HH.out, HI.out, hh]; simp [hlo]
        have hlo' : (σ.inq.length : Int) ≤ 64 := by omega
        clear HH hh hT oT hR hlo
        go_enter Tryz.func59, Tryz.ntmps59
        go_wp2_with (first | (go_at_call 52; refine (Has_any _ _ _).mono ?_; rintro e w' ⟨rfl, hw⟩; subst hw) | (go_at_call 86; refine (purge_any S0 w0 x b _ _ K hF oF hK 8 (by omega) _ rfl).mono ?_; rintro e W ⟨rfl, hW⟩))
        go_end0
        exact ⟨rfl, by rw [e1.out]; exact hW⟩
      · have e1 : Hid (σ.hold = σ) := by show σ.hold = _; rw [HH.out, HI.out, hh]; simp [hlo]
        have hlo' : ¬ (σ.inq.length : Int) ≤ 64 := by omega
        clear HH hh hT oT hF oF hlo
        go_enter Tryz.func59, Tryz.ntmps59
        go_wp2_with (go_at_call 52; refine (Has_any _ _ _).mono ?_; rintro e w' ⟨rfl, hw⟩; subst hw)
        go_end0
        exact ⟨rfl, by rw [e1.out]; exact hR⟩
    | false =>
      rw [hh] at kh
      by_cases hhi : 192 ≤ σ.inq.length
      · have e1 : Hid (σ.hold = ({ σ with held := true } : St).urge 9) := by show σ.hold = _; rw [HH.out, HI.out, hh]; simp [hhi]
        have hhi' : 192 ≤ (σ.inq.length : Int) := by omega
        clear HH hh hF oF hR hhi
        go_enter Tryz.func59, Tryz.ntmps59
        go_wp2_with (first | (go_at_call 52; refine (Has_any _ _ _).mono ?_; rintro e w' ⟨rfl, hw⟩; subst hw) | (go_at_call 86; refine (purge_any S0 w0 x b _ _ K hT oT hK 9 (by omega) _ rfl).mono ?_; rintro e W ⟨rfl, hW⟩))
        go_end0
        exact ⟨rfl, by rw [e1.out]; exact hW⟩
      · have e1 : Hid (σ.hold = σ) := by show σ.hold = _; rw [HH.out, HI.out, hh]; simp [hhi]
        have hhi' : ¬ 192 ≤ (σ.inq.length : Int) := by omega
        clear HH hh hT oT hF oF hhi
        go_enter Tryz.func59, Tryz.ntmps59
        go_wp2_with (go_at_call 52; refine (Has_any _ _ _).mono ?_; rintro e w' ⟨rfl, hw⟩; subst hw)
        go_end0
        exact ⟨rfl, by rw [e1.out]; exact hR⟩
  | false =>
    rw [hI] at a2048
    have HI : Hid (σ.I 2048 = false) := hI
    clear hI
    cases hh : σ.held with
    | true =>
      rw [hh] at kh
      have e1 : Hid (σ.hold = ({ σ with held := false } : St).urge 8) := by show σ.hold = _; rw [HH.out, HI.out, hh]; simp
      clear HH hh hT oT hR
      go_enter Tryz.func59, Tryz.ntmps59
      go_wp2_with (first | (go_at_call 52; refine (Has_any _ _ _).mono ?_; rintro e w' ⟨rfl, hw⟩; subst hw) | (go_at_call 86; refine (purge_any S0 w0 x b _ _ K hF oF hK 8 (by omega) _ rfl).mono ?_; rintro e W ⟨rfl, hW⟩))
      all_goals go_end0
      all_goals exact ⟨rfl, by rw [e1.out]; exact hW⟩
    | false =>
      rw [hh] at kh
      have e1 : Hid (σ.hold = σ) := by show σ.hold = _; rw [HH.out, HI.out, hh]; simp
      clear HH hh hT oT hF oF
      go_enter Tryz.func59, Tryz.ntmps59
      go_wp2_with (go_at_call 52; refine (Has_any _ _ _).mono ?_; rintro e w' ⟨rfl, hw⟩; subst hw)
      go_end0
      exact ⟨rfl, by rw [e1.out]; exact hR⟩
end
end Go.Proofs.YtfnglkhhmplejaaGreat
