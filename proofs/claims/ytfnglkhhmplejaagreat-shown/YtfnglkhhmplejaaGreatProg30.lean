/- Walks: the program: bytes are put out while entries that were rubbed out are still to be read. (Written by mkProg30.py.) -/
import Derived.Test.YtfnglkhhmplejaaGreatProg18
import Derived.Test.YtfnglkhhmplejaaGreatProg22
import Derived.Test.YtfnglkhhmplejaaGreatBase2
namespace Go.Proofs.YtfnglkhhmplejaaGreat
open Go Go.RowKit Go.Clk

section
variable (S0 : List Nat) (w0 : World) (x : List Nat) (b : Nat) (σ : St) (ci vi : Value) (w : World) (C : Int)

set_option maxHeartbeats 1000000 in
set_option maxRecDepth 100000 in
theorem OPut_q (h : AtQ S0 w0 x b σ ci vi w) (ok : Ok σ C) (hC : C ≤ 1152921504606846976) (hl : σ.out.length ≤ 256) (lv : Value) (l : List UInt8) (ol : Option Nat) (hL : Sl w 5 1 lv l.length (bys l) ol) (hn : l.length ≤ 10000) :
    Calls Tryz.prog 87 #[.pointer (some ⟨b, 18, none⟩), .int .i64 σ.o, lv] w fun e w' => e = .returned (.bool (σ.put l).2) ∧ AtQ S0 w0 x b (σ.put l).1 ci vi w' := by
  obtain ⟨i0, hi, hz0, hz1, hz2⟩ := info_parts info_u8
  obtain ⟨vu, vo, vs, hV⟩ := h
  have o0 := ok.o0; have o1 := ok.o1; have c0 := ok.c0; have c1 := ok.c1
  have k20 := hV.c_col
  obtain ⟨la, lcap, rfl, hl1, hl2⟩ := hL.shape
  have HR := renderL_col σ.o c0 l
  have HP : Hid (σ.put l = if 256 < σ.out.length + (renderL σ.o σ.col l).1.length then (σ, false) else ({ σ with out := σ.out ++ (renderL σ.o σ.col l).1, col := (renderL σ.o σ.col l).2 }, true)) := by
    show σ.put l = _
    unfold St.put
    rw [putAll_render]
    simp
  go_enter Tryz.func87, Tryz.ntmps87
  go_wp2_with fail
  refine (render_any σ.o σ.col _ o0 o1 c0 (by omega) _ l ol hL hn).mono ?_
  rintro e w1 ⟨am, capm, om, rfl, hM, hG, hom⟩
  have hV1 := hV.same hG
  generalize renderL σ.o σ.col l = R at *
  obtain ⟨M, ck⟩ := R
  simp only at HR hM HP ⊢
  clear hV k20 hL
  obtain ⟨oo, hs, hob, _, hput⟩ := hV1.lens_out
  obtain ⟨a, cap, rfl, hl3, hl4⟩ := hs.shape
  have k19 := hV1.c_out
  have f19 := hV1.frozen 19
  by_cases hbig : 256 < σ.out.length + M.length
  · clear hput
    go_wp2
    go_ret
    exact ⟨ret_bool (by rw [HP.out, if_pos hbig]), by rw [HP.out, if_pos hbig]; exact hV1.r⟩
  · have e63 : σ.out.length + M.length ≤ 256 := by omega
    go_wp2_with (at_builtin; refine wpList_append_sl rfl (.tmp 32) (.tmp 33) 70 33 rfl hs rfl i0 (.int .u8 0) 1 Tryz.underlying70 hi hz0 hz1 hz2 rfl (.slice am M.length capm) M.length (bys M) rfl ?src ?b1 ?b2 ?next)
    case src => exact hM.src Tryz.underlying33 (bys_one _)
    case b1 => unfold maxLen; omega
    case b2 => omega
    case next =>
      intro a' cap' w2 oz hs1 hg1 ho1
      have hlen : (σ.out ++ M).length = σ.out.length + M.length := List.length_append
      obtain ⟨q2, q3, hV2⟩ := hput w2 (.slice a' (σ.out.length + M.length) cap') (σ.out ++ M) oz hg1 (by rw [hlen, bys_app]; exact hs1) (by rcases ho1 with h1 | ⟨h1, _⟩; exact .inr (.inl h1); exact .inr (.inr ⟨_, h1, Nat.le_refl _⟩))
      have HE := (hV2.s_col ck).r
      have q20 := hV2.c_col
      have f20 := hV2.frozen 20
      clear hput hs hs1 hg1 ho1 hV1 k19 f19 hM
      go_wp2
      go_ret
      exact ⟨ret_bool (by rw [HP.out, if_neg hbig]), by rw [HP.out, if_neg hbig]; exact HE⟩

set_option maxHeartbeats 1000000 in
set_option maxRecDepth 100000 in
theorem putOut_q (h : AtQ S0 w0 x b σ ci vi w) (ok : Ok σ C) (hC : C ≤ 1152921504606846976) (hl : σ.out.length ≤ 256) (lv : Value) (l : List UInt8) (ol : Option Nat) (hL : Sl w 5 1 lv l.length (bys l) ol) (hn : l.length ≤ 10000) :
    Calls Tryz.prog 60 #[.pointer (some ⟨b, 0, none⟩), lv] w fun e w' => e = .returned (.bool (σ.put l).2) ∧ AtQ S0 w0 x b (σ.put l).1 ci vi w' := by
  have k1 : w.cell? ⟨b, 1, none⟩ = some (.int .i64 σ.o) := by obtain ⟨vu, vo, vs, hV⟩ := h; exact hV.co
  have h' := h.drew
  have hL' := hL.drew
  go_enter Tryz.func60, Tryz.ntmps60
  go_wp2
  go_region_with (go_at_call 87; refine (OPut_q S0 w0 x b σ ci vi _ C h' ok hC hl lv l ol hL' hn).mono ?_; rintro e W ⟨rfl, hW⟩)
  all_goals go_wp2
  all_goals go_ret
  all_goals exact ⟨rfl, by assumption⟩
end
end Go.Proofs.YtfnglkhhmplejaaGreat
