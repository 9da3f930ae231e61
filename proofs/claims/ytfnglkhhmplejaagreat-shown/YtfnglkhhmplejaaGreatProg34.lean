/- Walks: the program: entries are rubbed out: rubOut, eraseLast, eraseWord. -/
import Derived.Test.YtfnglkhhmplejaaGreatProg33
import Derived.Test.YtfnglkhhmplejaaGreatProg19
namespace Go.Clk
open Go
theorem put_inq (σ : St) (l : List Ent) (bs : List UInt8) : ({ σ with inq := l } : St).put bs = ({ (σ.put bs).1 with inq := l }, (σ.put bs).2) := by
  unfold St.put
  rw [putAll_render, putAll_render]
  by_cases h : 256 < (σ.out ++ (renderL σ.o σ.col bs).1).length
  · have h' : 256 < (({ σ with inq := l } : St).out ++ (renderL ({ σ with inq := l } : St).o ({ σ with inq := l } : St).col bs).1).length := h
    rw [if_pos h', if_pos h]
  · have h' : ¬ 256 < (({ σ with inq := l } : St).out ++ (renderL ({ σ with inq := l } : St).o ({ σ with inq := l } : St).col bs).1).length := h
    rw [if_neg h', if_neg h]
    rfl
theorem offEach_inq (l : List Ent) (g : List Ent) : ∀ σ : St, offEach { σ with inq := l } g = { offEach σ g with inq := l } := by
  induction g with
  | nil => intro σ; rfl
  | cons e g ih =>
    intro σ
    show offEach (({ σ with inq := l } : St).put (rubOne e)).1 g = { offEach (σ.put (rubOne e)).1 g with inq := l }
    rw [put_inq]
    exact ih _
theorem rub_false (n : Nat) : ∀ σ : St, n ≤ σ.inq.length → St.rub false n σ = { σ with inq := σ.inq.take (σ.inq.length - n) } := by
  induction n with
  | zero => intro σ _; show σ = _; rw [Nat.sub_zero, List.take_of_length_le (Nat.le_refl _)]
  | succ n ih =>
    intro σ h
    have hne : σ.inq ≠ [] := by intro e; rw [e] at h; simp at h
    unfold St.rub
    rw [List.getLast?_eq_some_getLast hne]
    dsimp only
    rw [if_neg (by decide), ih _ (by simp; omega)]
    dsimp only
    congr 1
    rw [List.length_dropLast, List.dropLast_eq_take, List.take_take]
    congr 1
    omega
theorem rub_true (n : Nat) : ∀ σ : St, n ≤ σ.inq.length → St.rub true n σ = { offEach σ (σ.inq.drop (σ.inq.length - n)).reverse with inq := σ.inq.take (σ.inq.length - n) } := by
  induction n with
  | zero =>
    intro σ _
    rw [Nat.sub_zero, List.take_of_length_le (Nat.le_refl _), List.drop_eq_nil_of_le (Nat.le_refl _)]
    rfl
  | succ n ih =>
    intro σ h
    have hne : σ.inq ≠ [] := by intro e; rw [e] at h; simp at h
    unfold St.rub
    rw [List.getLast?_eq_some_getLast hne]
    dsimp only
    rw [if_pos rfl, put_inq]
    dsimp only
    rw [ih _ (by simp; omega)]
    dsimp only
    rw [offEach_inq]
    have e1 : σ.inq.dropLast.length - n = σ.inq.length - (n + 1) := by rw [List.length_dropLast]; omega
    have e2 : σ.inq.drop (σ.inq.length - (n + 1)) = σ.inq.dropLast.drop (σ.inq.length - (n + 1)) ++ [σ.inq.getLast hne] := by
      have h3 : σ.inq = σ.inq.dropLast ++ [σ.inq.getLast hne] := (List.dropLast_concat_getLast hne).symm
      have h4 : σ.inq.drop (σ.inq.length - (n + 1)) = (σ.inq.dropLast ++ [σ.inq.getLast hne]).drop (σ.inq.length - (n + 1)) := by rw [← h3]
      rw [h4, List.drop_append_of_le_length (by rw [List.length_dropLast]; omega)]
    rw [e1, e2, List.reverse_append]
    show _ = ({ offEach (σ.put (rubOne (σ.inq.getLast hne))).1 (σ.inq.dropLast.drop (σ.inq.length - (n + 1))).reverse with inq := _ } : St)
    congr 1
    rw [List.dropLast_eq_take, List.take_take]
    congr 1
    omega
end Go.Clk
namespace Go.Proofs.YtfnglkhhmplejaaGreat
open Go Go.RowKit Go.Clk
section
variable (S0 : List Nat) (w0 : World) (x : List Nat) (b : Nat) (σ : St) (w : World) (K : Int)

theorem drop_cells {K : Int} {σ : St} (ok : Inv K σ) (n : Nat) : ∀ e ∈ σ.inq.drop n, 0 ≤ e.cells ∧ e.cells ≤ 128 := fun e he => ok.cells e (List.mem_of_mem_drop he)

set_option maxHeartbeats 1000000 in
set_option maxRecDepth 100000 in
theorem rubOut_any (h : AtP S0 w0 x b σ w) (ok : Inv K σ) (hK : K ≤ 1099511627776) (c : UInt8) (ci : Int) (hc : ci = (c.toNat : Int)) (n : Nat) (hn : n ≤ σ.inq.length) (ni : Int) (hni : ni = (n : Int)) :
    Calls Tryz.prog 137 #[.pointer (some ⟨b, 0, none⟩), .int .u8 ci, .int .i64 ni] w fun e w' => e = .returned (.tuple #[]) ∧ AtP S0 w0 x b (σ.rubs n c) w' := by
  subst hc
  subst hni
  have hil := ok.inq
  have l0 := ok.ok.l0; have l1 := ok.ok.l1
  have a12 := has12 σ.l l0 l1
  have a4 := has4 σ.l l0 l1
  have hrb := RubOut_any S0 w0 x b σ w h hil n hn (n : Int) rfl
  have ok2 : Inv K ({ σ with inq := [] } : St) := ok.inq_ [] (by simp) (by simp)
  have ok3 : Inv K ({ σ with inq := σ.inq.take (σ.inq.length - n) } : St) := ok.inq_ _ (by rw [List.length_take]; omega) (fun e he => ok.cells e (List.mem_of_mem_take he))
  have hcl := drop_cells ok (σ.inq.length - n)
  have HR : Hid (σ.rubs n c = if decide (0 < n) && (bit σ.l 4 && !bit σ.l 8) then (St.rub (bit σ.l 4 && bit σ.l 8) n σ).echo1 c else St.rub (bit σ.l 4 && bit σ.l 8) n σ) := rfl
  have HF := rub_false n σ hn
  have HT := rub_true n σ hn
  obtain ⟨gone, hgone⟩ : ∃ gone, σ.inq.drop (σ.inq.length - n) = gone := ⟨_, rfl⟩
  have hgl : gone.length = n := by rw [← hgone, List.length_drop]; omega
  obtain ⟨kept, hkept⟩ : ∃ kept, σ.inq.take (σ.inq.length - n) = kept := ⟨_, rfl⟩
  rw [hgone, hkept] at hrb HT
  rw [hgone] at hcl
  rw [hkept] at HF ok3
  clear hgone hkept ok h
  subst hgl
  have back : Hid (∀ (W : World) (vf : Value) (o : Option Nat), AtQ S0 w0 (o.toList ++ x) b { σ with inq := [] } vf (.slice none 0 0) W → Sl W 112 4 vf kept.length (pents kept) o → (∀ g, o = some g → g ≠ b ∧ g ∉ x ∧ (g ∈ S0 ∨ w0.heap.size ≤ g)) → AtP S0 w0 x b { σ with inq := kept } W) := fun W vf o h1 h2 h3 => h1.back h2 h3
  have cl : Hid (∀ (W : World) (vf : Value) (o : Option Nat), AtQ S0 w0 (o.toList ++ x) b { σ with inq := [] } vf (.slice none 0 0) W → W.cell? ⟨b, 2, none⟩ = some (.int .i64 σ.l)) := by
    rintro W vf o ⟨vu, vo, vs, hq⟩; exact hq.cl
  cases h4 : bit σ.l 4 with
  | true =>
    rw [h4] at a4 a12 HR
    cases h8 : bit σ.l 8 with
    | true =>
      rw [h8] at a12 HR
      have e1 : Hid (σ.rubs gone.length c = { offEach σ gone.reverse with inq := kept }) := by show σ.rubs gone.length c = _; rw [HR.out, ← HT]; simp
      clear HR HF HT h4 h8 ok3
      go_enter Tryz.func137, Tryz.ntmps137
      go_wp2_with (first
        | (go_at_call 139; refine hrb.mono ?_; rintro e W ⟨a, cap, vf, o, rfl, hQ, hs1, hs2, hgo⟩; have kl := cl.out W vf o hQ)
        | (go_at_call 52; refine (Has_any _ _ _).mono ?_; rintro e w' ⟨rfl, hw⟩; subst hw)
        | (go_at_call 140; refine (showGone_any S0 w0 x b _ _ _ _ K o hQ ok2 hK a cap gone hs2 (by omega) hcl).mono ?_; rintro e W2 ⟨rfl, hQ2, hsm⟩))
      go_end0
      refine ⟨rfl, ?_⟩
      rw [e1.out]
      rw [offEach_inq] at hQ2
      exact hQ2.back (hs1.same fun g e => hsm g e) hgo
    | false =>
      rw [h8] at a12 HR
      by_cases hn0 : 0 < gone.length
      · have e1 : Hid (σ.rubs gone.length c = ({ σ with inq := kept } : St).echo1 c) := by show σ.rubs gone.length c = _; rw [HR.out, ← HF]; simp [hn0]
        have hn1 : 0 < (gone.length : Int) := by omega
        clear HR HF HT h4 h8
        go_enter Tryz.func137, Tryz.ntmps137
        go_wp2_with (first
          | (go_at_call 139; refine hrb.mono ?_; rintro e W ⟨a, cap, vf, o, rfl, hQ, hs1, hs2, hgo⟩; have kl := cl.out W vf o hQ; have hB := back.out W vf o hQ hs1 hgo)
          | (go_at_call 52; refine (Has_any _ _ _).mono ?_; rintro e w' ⟨rfl, hw⟩; subst hw)
          | (go_at_call 103; refine (PEcho_any S0 w0 x b _ _ K hB ok3 hK c _ rfl).mono ?_; rintro e W2 ⟨rfl, hW2⟩))
        go_end0
        exact ⟨rfl, by rw [e1.out]; exact hW2⟩
      · have e1 : Hid (σ.rubs gone.length c = { σ with inq := kept }) := by show σ.rubs gone.length c = _; rw [HR.out, ← HF]; simp [hn0]
        have hn1 : ¬ 0 < (gone.length : Int) := by omega
        clear HR HF HT h4 h8
        go_enter Tryz.func137, Tryz.ntmps137
        go_wp2_with (first
          | (go_at_call 139; refine hrb.mono ?_; rintro e W ⟨a, cap, vf, o, rfl, hQ, hs1, hs2, hgo⟩; have kl := cl.out W vf o hQ; have hB := back.out W vf o hQ hs1 hgo)
          | (go_at_call 52; refine (Has_any _ _ _).mono ?_; rintro e w' ⟨rfl, hw⟩; subst hw))
        go_end0
        exact ⟨rfl, by rw [e1.out]; exact hB⟩
  | false =>
    rw [h4] at a4 a12 HR
    have e1 : Hid (σ.rubs gone.length c = { σ with inq := kept }) := by show σ.rubs gone.length c = _; rw [HR.out, ← HF]; simp
    clear HR HF HT h4
    go_enter Tryz.func137, Tryz.ntmps137
    go_wp2_with (first
      | (go_at_call 139; refine hrb.mono ?_; rintro e W ⟨a, cap, vf, o, rfl, hQ, hs1, hs2, hgo⟩; have kl := cl.out W vf o hQ; have hB := back.out W vf o hQ hs1 hgo)
      | (go_at_call 52; refine (Has_any _ _ _).mono ?_; rintro e w' ⟨rfl, hw⟩; subst hw))
    go_end0
    exact ⟨rfl, by rw [e1.out]; exact hB⟩

set_option maxHeartbeats 1000000 in
set_option maxRecDepth 100000 in
theorem eraseLast_any (h : AtP S0 w0 x b σ w) (ok : Inv K σ) (hK : K ≤ 1099511627776) (c : UInt8) (ci : Int) (hc : ci = (c.toNat : Int)) :
    Calls Tryz.prog 108 #[.pointer (some ⟨b, 0, none⟩), .int .u8 ci] w fun e w' => e = .returned (.tuple #[]) ∧ AtP S0 w0 x b (σ.rubs (min 1 (pend σ.inq)) c) w' := by
  subst hc
  have hil := ok.inq
  have hpl := pend_le σ.inq
  have hR := h
  obtain ⟨vi, vu, vo, vs, hV⟩ := h
  obtain ⟨oi, hsi, _, _, _⟩ := hV.lens_in
  have k17 := hV.c_in
  have hpd := Pending_any w vi σ.inq oi hsi hil
  clear hV hsi
  have HRB : Hid (∀ (n : Nat) (ni : Int), n = min 1 (pend σ.inq) → ni = (n : Int) → Calls Tryz.prog 137 #[.pointer (some ⟨b, 0, none⟩), .int .u8 c.toNat, .int .i64 ni] w fun e w' => e = .returned (.tuple #[]) ∧ AtP S0 w0 x b (σ.rubs (min 1 (pend σ.inq)) c) w') := by
    rintro n ni rfl hni; exact rubOut_any S0 w0 x b σ w K hR ok hK c _ rfl _ (by omega) ni hni
  clear ok
  obtain ⟨p, hp⟩ : ∃ p, pend σ.inq = p := ⟨_, rfl⟩
  rw [hp] at hpd HRB hpl ⊢
  clear hp
  by_cases h1 : 1 ≤ p
  · have h1' : (1 : Int) ≤ (p : Int) := by omega
    go_enter Tryz.func108, Tryz.ntmps108
    go_wp2_with (first
      | (go_at_call 138; refine hpd.mono ?_; rintro e W ⟨hw, a, cap, rfl, hs2⟩; subst hw)
      | (go_at_call 137; refine (HRB.out 1 _ (by omega) (by omega)).mono ?_; rintro e W2 ⟨rfl, hW2⟩))
    all_goals go_end0
    all_goals exact ⟨rfl, hW2⟩
  · obtain rfl : p = 0 := by omega
    go_enter Tryz.func108, Tryz.ntmps108
    go_wp2_with (first
      | (go_at_call 138; refine hpd.mono ?_; rintro e W ⟨hw, a, cap, rfl, hs2⟩; subst hw)
      | (go_at_call 137; refine (HRB.out 0 _ (by omega) (by omega)).mono ?_; rintro e W2 ⟨rfl, hW2⟩))
    all_goals go_end0
    all_goals exact ⟨rfl, hW2⟩

set_option maxHeartbeats 1000000 in
set_option maxRecDepth 100000 in
theorem eraseWord_any (h : AtP S0 w0 x b σ w) (ok : Inv K σ) (hK : K ≤ 1099511627776) (c : UInt8) (ci : Int) (hc : ci = (c.toNat : Int)) :
    Calls Tryz.prog 110 #[.pointer (some ⟨b, 0, none⟩), .int .u8 ci] w fun e w' => e = .returned (.tuple #[]) ∧ AtP S0 w0 x b (σ.rubs (wordR (σ.inq.reverse.take (pend σ.inq))) c) w' := by
  subst hc
  have hil := ok.inq
  have hpl := pend_le σ.inq
  have hwl := wordR_le (σ.inq.reverse.take (pend σ.inq))
  rw [List.length_take, List.length_reverse] at hwl
  obtain ⟨vi, vu, vo, vs, hV⟩ := h
  obtain ⟨oi, hsi, _, _, _⟩ := hV.lens_in
  have k17 := hV.c_in
  have hlw := LastWord_any w vi σ.inq oi hsi hil
  have HRB : Hid (∀ (W : World) (n : Nat) (ni : Int), w.grownBy W none → n = wordR (σ.inq.reverse.take (pend σ.inq)) → ni = (n : Int) → Calls Tryz.prog 137 #[.pointer (some ⟨b, 0, none⟩), .int .u8 c.toNat, .int .i64 ni] W fun e w' => e = .returned (.tuple #[]) ∧ AtP S0 w0 x b (σ.rubs (wordR (σ.inq.reverse.take (pend σ.inq))) c) w') := by
    rintro W n ni hg rfl hni; exact rubOut_any S0 w0 x b σ W K (hV.same hg).r ok hK c _ rfl _ (by omega) ni hni
  clear ok hV hsi
  obtain ⟨p, hp⟩ : ∃ p, wordR (σ.inq.reverse.take (pend σ.inq)) = p := ⟨_, rfl⟩
  rw [hp] at hlw HRB ⊢
  clear hp hwl
  go_enter Tryz.func110, Tryz.ntmps110
  go_wp2_with (first
    | (go_at_call 141; refine hlw.mono ?_; rintro e W ⟨rfl, hgW⟩)
    | (go_at_call 137; refine (HRB.out _ p _ hgW rfl rfl).mono ?_; rintro e W2 ⟨rfl, hW2⟩))
  go_end0
  exact ⟨rfl, hW2⟩
end
end Go.Proofs.YtfnglkhhmplejaaGreat
