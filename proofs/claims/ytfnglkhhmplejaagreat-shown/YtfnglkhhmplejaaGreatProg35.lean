/- Walks: the program: the next byte is quoted; the line is killed. -/
import Derived.Test.YtfnglkhhmplejaaGreatProg34
import Derived.Deep.DeepCutAuto
namespace Go.Proofs.YtfnglkhhmplejaaGreat
open Go Go.RowKit Go.Clk
section
variable (S0 : List Nat) (w0 : World) (x : List Nat) (b : Nat) (σ : St) (w : World) (K : Int)

theorem putOut_new2 (h : AtP S0 w0 x b σ w) (ok : Inv K σ) (hK : K ≤ 1099511627776) (l : List UInt8) (hn : l.length ≤ 10000) (cs : Array Value) (hcs : cs = (bys l).toArray) (n : Nat) (hl : n = l.length) (sz : Nat) (hsz : sz = w.heap.size) :
    Calls Tryz.prog 60 #[.pointer (some ⟨b, 0, none⟩), .slice (some ⟨sz, 0, none⟩) n n] (w.alloc (.cells cs 5)) fun e w' => e = .returned (.bool (σ.put l).2) ∧ AtP S0 w0 x b (σ.put l).1 w' := by
  subst hsz; exact putOut_new S0 w0 x b σ w K h ok hK l hn cs hcs n hl

set_option maxHeartbeats 1000000 in
set_option maxRecDepth 100000 in
theorem quoteNext_any (h : AtP S0 w0 x b σ w) (ok : Inv K σ) (hK : K ≤ 1099511627776) (n : Int) :
    Calls Tryz.prog 111 #[.pointer (some ⟨b, 0, none⟩), .int .u8 n] w fun e w' => e = .returned (.tuple #[]) ∧ AtP S0 w0 x b σ.quote w' := by
  have l0 := ok.ok.l0; have l1 := ok.ok.l1
  have a68 := has68 σ.l l0 l1
  have HQ : Hid (σ.quote = if bit σ.l 4 && bit σ.l 64 then (({ σ with quoted := true } : St).put [94, 8]).1 else { σ with quoted := true }) := rfl
  obtain ⟨vi, vu, vo, vs, hV⟩ := h
  have k := hV.c_quo
  have f := hV.frozen 28
  have hq := hV.s_quo true
  have kl : (w.setCell ⟨b, 28, none⟩ (.bool true)).cell? ⟨b, 2, none⟩ = some (.int .i64 σ.l) := hq.cl
  have hR := hq.r
  have ok2 := ok.quoted_ true
  clear hV hq ok
  cases hc : (bit σ.l 4 && bit σ.l 64) with
  | true =>
    rw [hc] at a68 HQ
    have e1 : Hid (σ.quote = (({ σ with quoted := true } : St).put [94, 8]).1) := by show σ.quote = _; rw [HQ.out]; rfl
    clear HQ hc
    go_enter Tryz.func111, Tryz.ntmps111
    go_wp2_with (go_at_call 52; refine (Has_any _ _ _).mono ?_; rintro e w' ⟨rfl, hw⟩; subst hw)
    refine (putOut_new2 S0 w0 x b _ (w.setCell ⟨b, 28, none⟩ (.bool true)) K hR ok2 hK [94, 8] (by simp) _ rfl _ rfl _ (by simp)).mono ?_
    rintro e W2 ⟨rfl, hW2⟩
    go_wp2
    go_end0
    exact ⟨rfl, by rw [e1.out]; exact hW2⟩
  | false =>
    rw [hc] at a68 HQ
    have e1 : Hid (σ.quote = { σ with quoted := true }) := by show σ.quote = _; rw [HQ.out]; rfl
    clear HQ hc
    go_enter Tryz.func111, Tryz.ntmps111
    go_wp2_with (go_at_call 52; refine (Has_any _ _ _).mono ?_; rintro e w' ⟨rfl, hw⟩; subst hw)
    go_end0
    exact ⟨rfl, by rw [e1.out]; exact hR⟩

set_option maxHeartbeats 2000000 in
set_option maxRecDepth 100000 in
theorem killLine_any (h : AtP S0 w0 x b σ w) (ok : Inv K σ) (hK : K ≤ 1099511627776) (c : UInt8) (ci : Int) (hc : ci = (c.toNat : Int)) :
    Calls Tryz.prog 109 #[.pointer (some ⟨b, 0, none⟩), .int .u8 ci] w fun e w' => e = .returned (.tuple #[]) ∧ AtP S0 w0 x b (σ.kills (pend σ.inq) c) w' := by
  subst hc
  have hil := ok.inq
  have hpl := pend_le σ.inq
  have l0 := ok.ok.l0; have l1 := ok.ok.l1
  have a140 := has140 σ.l l0 l1
  have a20 := has20 σ.l l0 l1
  have a4 := has4 σ.l l0 l1
  have HR : Hid (∀ n, σ.kills n c = if bit σ.l 4 && !(bit σ.l 8 && bit σ.l 128) then (if bit σ.l 16 then (((St.rub (bit σ.l 4 && (bit σ.l 8 && bit σ.l 128)) n σ).echo1 c).put [10]).1 else (St.rub (bit σ.l 4 && (bit σ.l 8 && bit σ.l 128)) n σ).echo1 c) else St.rub (bit σ.l 4 && (bit σ.l 8 && bit σ.l 128)) n σ) := fun _ => rfl
  obtain ⟨p, hp⟩ : ∃ p, pend σ.inq = p := ⟨_, rfl⟩
  have ok2 : Inv K ({ σ with inq := [] } : St) := ok.inq_ [] (by simp) (by simp)
  have ok3 : Inv K ({ σ with inq := σ.inq.take (σ.inq.length - p) } : St) := ok.inq_ _ (by rw [List.length_take]; omega) (fun e he => ok.cells e (List.mem_of_mem_take he))
  have ok4 := ok3.echo1 c
  have hcl := drop_cells ok (σ.inq.length - p)
  have HF := rub_false p σ (by omega)
  have HT := rub_true p σ (by omega)
  have HRB : Hid (∀ W, AtP S0 w0 x b σ W → ∀ ni : Int, ni = (p : Int) → Calls Tryz.prog 139 #[.pointer (some ⟨b, 17, none⟩), .int .i64 ni] W fun e w' => ∃ a cap vf o, e = .returned (.slice a p cap) ∧ AtQ S0 w0 (o.toList ++ x) b { σ with inq := [] } vf (.slice none 0 0) w' ∧
      Sl w' 112 4 vf (σ.inq.take (σ.inq.length - p)).length (pents (σ.inq.take (σ.inq.length - p))) o ∧ Sl w' 112 4 (.slice a p cap) p (pents (σ.inq.drop (σ.inq.length - p))) o ∧ (∀ g, o = some g → g ≠ b ∧ g ∉ x ∧ (g ∈ S0 ∨ w0.heap.size ≤ g))) :=
    fun W hW ni hni => RubOut_any S0 w0 x b σ W hW hil p (by omega) ni hni
  obtain ⟨gone, hgone⟩ : ∃ gone, σ.inq.drop (σ.inq.length - p) = gone := ⟨_, rfl⟩
  have hgl : gone.length = p := by rw [← hgone, List.length_drop]; omega
  obtain ⟨kept, hkept⟩ : ∃ kept, σ.inq.take (σ.inq.length - p) = kept := ⟨_, rfl⟩
  rw [hgone, hkept] at HRB HT
  rw [hgone] at hcl
  rw [hkept] at HF ok3 ok4
  obtain ⟨vi, vu, vo, vs, hV⟩ := h
  obtain ⟨oi, hsi, _, _, _⟩ := hV.lens_in
  have k17 := hV.c_in
  have hpd := fun (W : World) (hg : w.grownBy W none) => Pending_any W vi σ.inq oi (hsi.same fun g e => hg.block g (hsi.lt e) (by simp)) hil
  rw [hp] at hpd hpl ⊢
  have hRd := hV.drew.r
  have hgd : w.grownBy w.drew none := ⟨rfl, rfl, rfl, Nat.le_refl _, fun _ _ _ => rfl⟩
  have hpdd := hpd _ hgd
  clear hgone hkept ok hpd hsi hV hp
  subst hgl
  have cl : Hid (∀ (W : World) (vf : Value) (o : Option Nat), AtQ S0 w0 (o.toList ++ x) b { σ with inq := [] } vf (.slice none 0 0) W → W.cell? ⟨b, 2, none⟩ = some (.int .i64 σ.l)) := by
    rintro W vf o ⟨vu, vo, vs, hq⟩; exact hq.cl
  go_enter Tryz.func109, Tryz.ntmps109
  go_upto_region 0 with fail
  go_cut [4] (fun s4 wx => ∃ a cap vf o, s4 = .slice a gone.length cap ∧ AtQ S0 w0 (o.toList ++ x) b { σ with inq := [] } vf (.slice none 0 0) wx ∧ Sl wx 112 4 vf kept.length (pents kept) o ∧ Sl wx 112 4 (.slice a gone.length cap) gone.length (pents gone) o ∧ (∀ g, o = some g → g ≠ b ∧ g ∉ x ∧ (g ∈ S0 ∨ w0.heap.size ≤ g)))
  case first =>
    go_region_with (first
      | (go_at_call 138; refine hpdd.mono ?_; rintro e W ⟨hw, a, cap, rfl, hs2⟩; subst hw)
      | (go_at_call 139; refine (HRB.out _ hRd _ rfl).mono ?_; rintro e W ⟨a, cap, vf, o, rfl, hQ, hs1, hs2, hgo⟩))
    all_goals (go_wp2_with fail; go_meet; exact ⟨_, _, _, _, rfl, hQ, hs1, hs2, hgo⟩)
  case rest =>
  clear hpdd HRB k17 hRd hgd
  obtain ⟨a, cap, vf, o, rfl, hQ, hs1, hs2, hgo⟩ := hcut
  have kl := cl.out _ vf o hQ
  clear cl
  cases h4 : bit σ.l 4 with
  | false =>
    rw [h4] at a4 a20 a140 HR
    have e1 : Hid (σ.kills gone.length c = { σ with inq := kept }) := by show σ.kills gone.length c = _; rw [HR.out, ← HF]; simp
    have hB := hQ.back hs1 hgo
    clear HR HF HT h4 hQ hs1 hs2
    go_wp2_with (go_at_call 52; refine (Has_any _ _ _).mono ?_; rintro e w' ⟨rfl, hw⟩; subst hw)
    go_end0
    exact ⟨rfl, by rw [e1.out]; exact hB⟩
  | true =>
    rw [h4] at a4 a20 a140 HR
    cases h8 : (bit σ.l 8 && bit σ.l 128) with
    | true =>
      have h8a : bit σ.l 8 = true := by cases h : bit σ.l 8 <;> simp_all
      have h8b : bit σ.l 128 = true := by cases h : bit σ.l 128 <;> simp_all
      have e1 : Hid (σ.kills gone.length c = { offEach σ gone.reverse with inq := kept }) := by show σ.kills gone.length c = _; rw [HR.out, h8, ← HT]; simp
      rw [h8a, h8b] at a140
      clear HR HF HT h4 h8 h8a h8b
      go_wp2_with (first
        | (go_at_call 52; refine (Has_any _ _ _).mono ?_; rintro e w' ⟨rfl, hw⟩; subst hw)
        | (go_at_call 140; refine (showGone_any S0 w0 x b _ _ _ _ K o hQ ok2 hK a cap gone hs2 (by omega) hcl).mono ?_; rintro e W2 ⟨rfl, hQ2, hsm⟩))
      go_end0
      refine ⟨rfl, ?_⟩
      rw [e1.out]
      rw [offEach_inq] at hQ2
      exact hQ2.back (hs1.same fun g e => hsm g e) hgo
    | false =>
      have h140 : hasB σ.l 140 = false := by
        rw [a140]
        cases h : bit σ.l 8 <;> simp_all
      have hB := hQ.back hs1 hgo
      clear a140 hQ hs1 hs2 HT
      cases h16 : bit σ.l 16 with
      | true =>
        have e1 : Hid (σ.kills gone.length c = ((({ σ with inq := kept } : St).echo1 c).put [10]).1) := by show σ.kills gone.length c = _; rw [HR.out, h8, h16, ← HF]; simp
        rw [h16] at a20
        clear HR HF h4 h8 h16
        go_wp2_with (first
          | (go_at_call 52; refine (Has_any _ _ _).mono ?_; rintro e w' ⟨rfl, hw⟩; subst hw)
          | (go_at_call 103; refine (PEcho_any S0 w0 x b _ _ K hB ok3 hK c _ rfl).mono ?_; rintro e W2 ⟨rfl, hW2⟩))
        refine (putOut_new S0 w0 x b _ _ K hW2 ok4 hK [10] (by simp) _ rfl _ rfl).mono ?_
        rintro e W3 ⟨rfl, hW3⟩
        go_wp2
        go_end0
        exact ⟨rfl, by rw [e1.out]; exact hW3⟩
      | false =>
        have e1 : Hid (σ.kills gone.length c = ({ σ with inq := kept } : St).echo1 c) := by show σ.kills gone.length c = _; rw [HR.out, h8, h16, ← HF]; simp
        rw [h16] at a20
        clear HR HF h4 h8 h16
        go_wp2_with (first
          | (go_at_call 52; refine (Has_any _ _ _).mono ?_; rintro e w' ⟨rfl, hw⟩; subst hw)
          | (go_at_call 103; refine (PEcho_any S0 w0 x b _ _ K hB ok3 hK c _ rfl).mono ?_; rintro e W2 ⟨rfl, hW2⟩))
        go_end0
        exact ⟨rfl, by rw [e1.out]; exact hW2⟩
end
end Go.Proofs.YtfnglkhhmplejaaGreat
