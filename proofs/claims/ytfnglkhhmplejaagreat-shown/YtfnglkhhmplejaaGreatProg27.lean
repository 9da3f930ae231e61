/- Walks: the program: a line is taken; a read ends; what is looked after. -/
import Derived.Test.YtfnglkhhmplejaaGreatProg26
import Derived.Test.YtfnglkhhmplejaaGreatProg23
import Derived.Deep.DeepCutAuto
namespace Go.Proofs.YtfnglkhhmplejaaGreat
open Go Go.RowKit Go.Clk

section
variable (S0 : List Nat) (w0 : World) (x : List Nat) (b : Nat) (σ : St) (w : World) (K : Int)

set_option maxHeartbeats 2000000 in
set_option maxRecDepth 100000 in
theorem TakeLine_any (h : AtP S0 w0 x b σ w) (hil : σ.inq.length ≤ 256) (hwl : ∀ e ∈ σ.inq, e.file = true → e.fin = true) (hfl : 0 < fline σ.inq) (n : Nat) (hn1 : n ≤ 256) (ni : Int) (hni : ni = (n : Int)) :
    Calls Tryz.prog 84 #[.pointer (some ⟨b, 17, none⟩), .int .i64 ni] w fun e w' => e = .returned (.string (str (bytesOf (σ.inq.take (takeN n σ.inq))))) ∧ AtP S0 w0 x b { σ with inq := σ.inq.drop (takeN n σ.inq) } w' := by
  subst hni
  have hfle := fline_le σ.inq
  have HK : Hid (takeN n σ.inq = min (if decide (n < fline σ.inq) && fileAt σ.inq n then n + 1 else n) (fline σ.inq)) := takeN_lines n σ.inq hwl hfl
  obtain ⟨f, hf⟩ : ∃ f, fline σ.inq = f := ⟨_, rfl⟩
  obtain ⟨k, hk⟩ : ∃ k, takeN n σ.inq = k := ⟨_, rfl⟩
  rw [hf] at HK hfl hfle
  rw [hk] at HK ⊢
  have HF : Hid (fline σ.inq = f) := hf
  have HT : Hid (∀ (W : World) (v : Int), v = (k : Int) → k ≤ 257 → AtP S0 w0 x b σ W → Calls Tryz.prog 85 #[.pointer (some ⟨b, 17, none⟩), .int .i64 v] W fun e w' => e = .returned (.string (str (bytesOf (σ.inq.take k)))) ∧ AtP S0 w0 x b { σ with inq := σ.inq.drop k } w') := by
    intro W v hv hk2 hW
    subst hv
    have := qTake_any S0 w0 x b σ W hW hil (k : Int) (by omega) (by omega)
    simpa using this
  clear hf hk hwl
  obtain ⟨vi, vu, vo, vs, hV⟩ := h
  obtain ⟨oi, hsi, _, _, _⟩ := hV.lens_in
  obtain ⟨ai, ci, rfl, hl1, hl2⟩ := hsi.shape
  have k17 := hV.c_in
  have HFL : Hid (∀ (W : World), w.grownBy W none → Calls Tryz.prog 116 #[.slice ai σ.inq.length ci] W fun e w' => e = .returned (.int .i64 (f : Int)) ∧ W.grownBy w' none) := by
    intro W hg
    have := FirstLine_any W (.slice ai σ.inq.length ci) σ.inq oi (hsi.same fun g e => hg.block g (hsi.lt e) (by simp)) hil
    rwa [HF.out] at this
  clear hsi
  have hfc : f ≤ ci := by omega
  have hfc' : (f : Int) ≤ (ci : Int) := by omega
  go_enter Tryz.func84, Tryz.ntmps84
  go_upto_region 1 with fail
  go_cut [5] (fun s5 wx => s5 = .slice ai f ci ∧ PV S0 w0 x b σ (.slice ai σ.inq.length ci) vu vo vs wx)
  case first =>
    have hd : w.grownBy w.drew none := ⟨rfl, rfl, rfl, Nat.le_refl _, fun _ _ _ => rfl⟩
    have hVd := hV.drew
    go_region_with (go_at_call 116; refine (HFL.out _ hd).mono ?_; rintro e W ⟨rfl, hgW⟩; have kW := (hVd.same hgW).c_in)
    all_goals (go_wp2_with fail; go_meet; exact ⟨by first | rfl | simp, hVd.same hgW⟩)
  case rest =>
  clear hV k17 HFL
  obtain ⟨rfl, hV⟩ := hcut
  have hR := hV.r
  by_cases hnf : n < f
  · have hnf' : (n : Int) < (f : Int) := by omega
    have hnl : n < σ.inq.length := by omega
    obtain ⟨oi, hsi, _, _, _⟩ := hV.lens_in
    obtain ⟨ug, uoff, uc, he, rfl⟩ := hsi.addr (by omega)
    cases he
    have zf := (hsi.cells rfl (n * 4 + 1) (u := .bool σ.inq[n].file) (by rw [pents_get σ.inq n hnl 1 (by omega)]; rfl)).1
    simp only [← Nat.add_assoc] at zf
    have HA : Hid (fileAt σ.inq n = σ.inq[n].file) := by show fileAt σ.inq n = _; unfold fileAt; rw [List.getElem?_eq_getElem hnl]
    rw [decide_eq_true hnf, Bool.true_and] at HK
    cases hfile : σ.inq[n].file with
    | true =>
      have hk : k = n + 1 := by rw [HK.out, HA.out, hfile]; simp; omega
      rw [hfile] at zf
      subst hk
      clear HK HA hfile hV hsi HF
      have hmin : (n : Int) + 1 ≤ (f : Int) := by omega
      go_wp2_with (go_at_call 85; refine (HT.out _ _ (by omega) (by omega) hR).mono ?_; rintro e W ⟨rfl, hW⟩)
      all_goals go_ret
      all_goals exact ⟨rfl, hW⟩
    | false =>
      have hk : k = n := by rw [HK.out, HA.out, hfile]; simp; omega
      rw [hfile] at zf
      subst hk
      clear HK HA hfile hV hsi HF
      have hmin : (k : Int) ≤ (f : Int) := by omega
      go_wp2_with (go_at_call 85; refine (HT.out _ _ (by omega) (by omega) hR).mono ?_; rintro e W ⟨rfl, hW⟩)
      all_goals go_ret
      all_goals exact ⟨rfl, hW⟩
  · have hk : k = f := by rw [HK.out, decide_eq_false hnf, Bool.false_and]; simp; omega
    have hnf' : ¬ (n : Int) < (f : Int) := by omega
    subst hk
    clear HK hV HF
    go_wp2_with (go_at_call 85; refine (HT.out _ _ (by omega) (by omega) hR).mono ?_; rintro e W ⟨rfl, hW⟩)
    all_goals go_ret
    all_goals exact ⟨rfl, hW⟩
end
end Go.Proofs.YtfnglkhhmplejaaGreat
