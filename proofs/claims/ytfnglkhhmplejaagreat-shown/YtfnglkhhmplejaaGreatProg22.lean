/- Walks: the program: what takes an echo off the screen. -/
import Derived.Test.YtfnglkhhmplejaaGreatProg3
import Derived.Test.YtfnglkhhmplejaaGreatBase2
import Derived.Test.YtfnglkhhmplejaaGreatProg16
import Derived.Test.YtfnglkhhmplejaaGreatBase
namespace Go.Proofs.YtfnglkhhmplejaaGreat
open Go Go.RowKit Go.Clk

set_option maxHeartbeats 400000 in
set_option maxRecDepth 100000 in
theorem Repeat_none (v : Value) (w : World) :
    Calls Tryz.prog 158 #[v, .int .i64 0] w fun e w' => Sl w' 5 1 (.slice (some ⟨w.heap.size, 0, none⟩) 0 0) 0 (bys []) (some w.heap.size) ∧ e = .returned (.slice (some ⟨w.heap.size, 0, none⟩) 0 0) ∧ w.grownBy w' none := by
  go_enter Tryz.func158, Tryz.ntmps158
  go_wp2
  go_ret
  exact ⟨Sl.made w [] 0 5 1 rfl (by simp [maxLen]), rfl, ⟨rfl, rfl, rfl, by simp, fun k hk _ => Below.heap_alloc w _ k hk⟩⟩

/-- The bytes that take the echo of an entry off. -/
def offs (e : Ent) : List UInt8 := repL (if ((e.b.toNat : Int) == 9) then [8] else [8, 32, 8]) e.cells.toNat

set_option maxHeartbeats 1000000 in
set_option maxRecDepth 100000 in
theorem rubbing_any (w : World) (e : Ent) (c0 : 0 ≤ e.cells) (c1 : e.cells ≤ 128) :
    Calls Tryz.prog 155 #[.agg #[.int .u8 e.b.toNat, .bool e.file, .bool e.fin, .int .i64 e.cells]] w fun r w' => ∃ v g, r = .returned v ∧ Sl w' 5 1 v (offs e).length (bys (offs e)) (some g) ∧ w.heap.size ≤ g ∧ w.grownBy w' none := by
  obtain ⟨n, hn⟩ : ∃ n : Nat, e.cells = (n : Int) := ⟨e.cells.toNat, by omega⟩
  have HO : Hid (offs e = repL (if ((e.b.toNat : Int) == 9) then [8] else [8, 32, 8]) n) := by show offs e = _; unfold offs; rw [hn]; rfl
  rw [hn] at c1 ⊢
  have hg0 : w.grownBy (w.alloc (.cells #[.int .u8 e.b.toNat, .bool e.file, .bool e.fin, .int .i64 n] 112)) none := ⟨rfl, rfl, rfl, by simp, fun k hk _ => Below.heap_alloc w _ k hk⟩
  cases h9 : ((e.b.toNat : Int) == 9) with
  | true =>
    have HP : Hid (offs e = repL [8] n) := by show offs e = _; rw [HO.out, h9]; rfl
    go_enter Tryz.func155, Tryz.ntmps155
    go_wp2_with (refine wpList_bytes rfl (.tmp 7) 9 33 rfl Tryz.underlying9 Tryz.underlying33 Tryz.underlying5 ⟨#[8]⟩ rfl ?_)
    intro W cap hg hsz hcap hc
    have hbk : Blk W w.heap.size 112 [.int .u8 e.b.toNat, .bool e.file, .bool e.fin, .int .i64 n] := by
      obtain ⟨_, _, _, _, hb⟩ := hg
      exact (hb _ (by simp) (by simp)).trans (Blk.new w _ _)
    have b3 := hbk.cell 3 rfl
    have hgW : w.grownBy W none := grownBy_then hg0 hg (by simp)
    have hlW : w.heap.size + 1 < W.heap.size := by rw [hsz]; simp
    clear hsz
    by_cases hz : n = 0
    · subst hz
      go_wp2_with (go_at_call 158; refine (Repeat_none _ _).mono ?_; rintro r V ⟨hS, rfl, hgV⟩)
      go_ret
      have hE : offs e = [] := by rw [HP.out]; rfl
      rw [hE]
      exact ⟨_, _, rfl, hS, by omega, grownBy_then hgW hgV (by simp)⟩
    · go_wp2_with ((go_at_call 158; refine (Repeat_any [8] 1 rfl (by decide) _ _ _ n (by omega) (by omega) hcap _ (by first | exact (fun j v hv => by rw [Nat.zero_add]; exact hc j v hv) | simpa using hc) (by first | omega | (simp; omega))).mono ?_; rintro r V ⟨rfl, hS, hgV⟩))
      go_ret
      have hE : (offs e).length = 1 * n := by rw [HP.out, repL_len]; simp
      rw [hE, HP.out]
      first | exact ⟨_, _, rfl, hS, by omega, grownBy_then hgW hgV (by simp)⟩ | (simp only [Nat.one_mul] at hS ⊢; exact ⟨_, _, rfl, hS, by omega, grownBy_then hgW hgV (by simp)⟩)
  | false =>
    have HP : Hid (offs e = repL [8, 32, 8] n) := by show offs e = _; rw [HO.out, h9]; rfl
    go_enter Tryz.func155, Tryz.ntmps155
    go_wp2_with (refine wpList_bytes rfl (.tmp 7) 9 33 rfl Tryz.underlying9 Tryz.underlying33 Tryz.underlying5 ⟨#[8, 32, 8]⟩ rfl ?_)
    intro W cap hg hsz hcap hc
    have hbk : Blk W w.heap.size 112 [.int .u8 e.b.toNat, .bool e.file, .bool e.fin, .int .i64 n] := by
      obtain ⟨_, _, _, _, hb⟩ := hg
      exact (hb _ (by simp) (by simp)).trans (Blk.new w _ _)
    have b3 := hbk.cell 3 rfl
    have hgW : w.grownBy W none := grownBy_then hg0 hg (by simp)
    have hlW : w.heap.size + 1 < W.heap.size := by rw [hsz]; simp
    clear hsz
    by_cases hz : n = 0
    · subst hz
      go_wp2_with (go_at_call 158; refine (Repeat_none _ _).mono ?_; rintro r V ⟨hS, rfl, hgV⟩)
      go_ret
      have hE : offs e = [] := by rw [HP.out]; rfl
      rw [hE]
      exact ⟨_, _, rfl, hS, by omega, grownBy_then hgW hgV (by simp)⟩
    · go_wp2_with ((go_at_call 158; refine (Repeat_any [8, 32, 8] 3 rfl (by decide) _ _ _ n (by omega) (by omega) hcap _ (by first | exact (fun j v hv => by rw [Nat.zero_add]; exact hc j v hv) | simpa using hc) (by first | omega | (simp; omega))).mono ?_; rintro r V ⟨rfl, hS, hgV⟩))
      go_ret
      have hE : (offs e).length = 3 * n := by rw [HP.out, repL_len]; simp
      rw [hE, HP.out]
      first | exact ⟨_, _, rfl, hS, by omega, grownBy_then hgW hgV (by simp)⟩ | (simp only [Nat.one_mul] at hS ⊢; exact ⟨_, _, rfl, hS, by omega, grownBy_then hgW hgV (by simp)⟩)
end Go.Proofs.YtfnglkhhmplejaaGreat
