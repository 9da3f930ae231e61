/- Walks: the reference's terminal: what goes out. -/
import Derived.Test.YtnalckkllogdaaaRef0
import Derived.Test.YtnalckkllogdaaaPure
namespace Go.Proofs.Ytnalckkllogdaaa
open Go Go.RowKit Go.Clk

theorem info_u8 : (Try.prog.info? 5).map (fun i => (i.zero, i.size, i.bytes)) = some (some (.int .u8 0), 1, 1) := by kernel_rfl
theorem info_int : (Try.prog.info? 3).map (fun i => (i.zero, i.size, i.bytes)) = some (some (.int .i64 0), 1, 8) := by kernel_rfl

set_option maxHeartbeats 400000 in
theorem out_any (b : Nat) (s k : Int) (w : World) (hc : w.cell? ⟨b, 1, none⟩ = some (.int .i64 s)) (h0 : 0 ≤ s) (h1 : s < 8192) (hk : 0 < k) (hk' : k ≤ 4096) :
    Calls Try.prog 57 #[.pointer (some ⟨b, 0, none⟩), .int .i64 k] w fun e w' => e = .returned (.bool (bit s k)) ∧ w' = w := by
  go_enter Try.func57, Try.ntmps57
  go_wp2_with (first | (go_at_call 61; refine (set_any _ _ _ (by omega) (by omega) (by omega) (by omega)).mono ?_; rintro e w' ⟨rfl, rfl⟩))
  go_ret
  exact ⟨rfl, rfl⟩
set_option maxHeartbeats 400000 in
theorem in_any (b : Nat) (s k : Int) (w : World) (hc : w.cell? ⟨b, 0, none⟩ = some (.int .i64 s)) (h0 : 0 ≤ s) (h1 : s < 8192) (hk : 0 < k) (hk' : k ≤ 4096) :
    Calls Try.prog 63 #[.pointer (some ⟨b, 0, none⟩), .int .i64 k] w fun e w' => e = .returned (.bool (bit s k)) ∧ w' = w := by
  go_enter Try.func63, Try.ntmps63
  go_wp2_with (first | (go_at_call 61; refine (set_any _ _ _ (by omega) (by omega) (by omega) (by omega)).mono ?_; rintro e w' ⟨rfl, rfl⟩))
  go_ret
  exact ⟨rfl, rfl⟩
set_option maxHeartbeats 400000 in
theorem local_any (b : Nat) (s k : Int) (w : World) (hc : w.cell? ⟨b, 2, none⟩ = some (.int .i64 s)) (h0 : 0 ≤ s) (h1 : s < 8192) (hk : 0 < k) (hk' : k ≤ 4096) :
    Calls Try.prog 44 #[.pointer (some ⟨b, 0, none⟩), .int .i64 k] w fun e w' => e = .returned (.bool (bit s k)) ∧ w' = w := by
  go_enter Try.func44, Try.ntmps44
  go_wp2_with (first | (go_at_call 61; refine (set_any _ _ _ (by omega) (by omega) (by omega) (by omega)).mono ?_; rintro e w' ⟨rfl, rfl⟩))
  go_ret
  exact ⟨rfl, rfl⟩

set_option maxHeartbeats 1000000 in
set_option maxRecDepth 100000 in
theorem sent_any (S0 : List Nat) (w0 : World) (x : List Nat) (b : Nat) (σ : St) (c : UInt8) (w : World) (h : AtR S0 w0 x b σ w) {C : Int} (ok : Ok σ C) (hC : C ≤ 2305843009213693952) (hl : σ.out.length ≤ 100000) :
    Calls Try.prog 58 #[.pointer (some ⟨b, 0, none⟩), .int .u8 c.toNat] w fun e w' => e = .returned (.tuple #[]) ∧ AtR S0 w0 x b (σ.sent c) w' := by
  obtain ⟨i0, hi, hz0, hz1, hz2⟩ := info_parts info_u8
  obtain ⟨vi, vo, vu, vn, vd, h⟩ := h
  have h' := h.alloc (.cells #[.int .u8 c.toNat] 5)
  obtain ⟨oo, hs, hob, _, hput⟩ := h'.lens_out
  obtain ⟨a, cap, rfl, hl1, hl2⟩ := hs.shape
  have hcell := h.c18
  have hfr := h.frozen 18
  have o0 := ok.o0; have o1 := ok.o1; have c0 := ok.c0; have c1 := ok.c1
  have hlt := h.lt
  go_enter Try.func58, Try.ntmps58
  go_wp2_with (at_builtin; refine wpList_append_sl rfl (.tmp 10) (.tmp 12) 55 55 rfl hs rfl i0 (.int .u8 0) 1 Try.underlying55 hi hz0 hz1 hz2 rfl (.slice (some ⟨w.heap.size, 0, none⟩) 1 1) 1 [.int .u8 c.toNat] rfl ?src ?b1 ?b2 ?next)
  case src => exact (Sl.made w [.int .u8 c.toNat] 1 5 1 rfl (by simp [maxLen])).src Try.underlying55 (by intro u hu; simp at hu; subst hu; rfl)
  case b1 => unfold maxLen; omega
  case b2 => omega
  case next =>
    intro a' cap' w1 oz hs1 hg1 ho1
    obtain ⟨q2, q3, hV⟩ := hput w1 (.slice a' (σ.out.length + 1) cap') (σ.out ++ [c]) oz hg1 (by simpa [bys_app, bys] using hs1) (by rcases ho1 with h1 | ⟨h1, _⟩; exact .inr (.inl h1); exact .inr (.inr ⟨_, h1, by simp⟩))
    clear hput hs hs1 hg1 ho1 h' h hcell hfr
    go_wp2_with fail
    generalize w1.setCell ⟨b, 18, none⟩ (.slice a' (σ.out.length + 1) cap') = W at hV ⊢
    clear q2 q3
    refine (out_any b σ.o 1 W hV.co o0 o1 (by omega) (by omega)).mono ?_
    rintro e W1 ⟨rfl, rfl⟩
    go_wp2_with fail
    refine (out_any b σ.o 16 W1 hV.co o0 o1 (by omega) (by omega)).mono ?_
    rintro e W ⟨rfl, rfl⟩
    have k20 := hV.c20
    have f20 := hV.frozen 20
    have HE : Hid (∀ v : Int, moved σ.o σ.col c = v → AtR S0 w0 x b (σ.sent c) (W.setCell ⟨b, 20, none⟩ (.int .i64 v))) := by
      intro v hv
      have := (hV.s_col v).r
      unfold St.sent; rw [hv]; exact this
    have HS : Hid (moved σ.o σ.col c = σ.col → AtR S0 w0 x b (σ.sent c) W) := by
      intro hv
      have := hV.r
      unfold St.sent; rw [hv]; exact this
    clear hV ok
    go_wp2_with (go_at_call 59; refine (next_any _ _ (by omega) (by omega)).mono ?_; rintro e w' ⟨rfl, rfl⟩)
    all_goals go_end0
    · exact ⟨rfl, HE.out _ (mv8p ‹_› ‹_›)⟩
    · exact ⟨rfl, HS.out (mv8n ‹_› ‹_›)⟩
    · exact ⟨rfl, HE.out _ (mv9 ‹_› ‹_›)⟩
    · exact ⟨rfl, HE.out _ (mv13 ‹_› ‹_› ‹_›)⟩
    · exact ⟨rfl, HE.out _ (mv10a ‹_› ‹_› ‹_› ‹_› ‹_› ‹_›)⟩
    · exact ⟨rfl, HS.out (mv10b ‹_› ‹_› ‹_› ‹_› ‹_›)⟩
    · exact ⟨rfl, HS.out (mv10c ‹_› ‹_› ‹_› ‹_› ‹_›)⟩
    · exact ⟨rfl, HE.out _ (mvp ‹_› ‹_› ‹_› ‹_› ‹_› ‹_›)⟩
    · exact ⟨rfl, HS.out (mvd ‹_› ‹_› ‹_› ‹_› ‹_› ‹_›)⟩
    · exact ⟨rfl, HS.out (mvc ‹_› ‹_› ‹_› ‹_› ‹_›)⟩
end Go.Proofs.Ytnalckkllogdaaa
