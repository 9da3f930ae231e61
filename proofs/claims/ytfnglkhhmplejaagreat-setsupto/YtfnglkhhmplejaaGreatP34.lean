/- Walks: the program: entries are rubbed out: rubOut, eraseLast, eraseWord. -/
import Derived.Test.YtfnglkhhmplejaaGreatP30
import Derived.Test.YtfnglkhhmplejaaGreatP16
import Derived.Deep.DeepCutAuto
namespace Go.Clk
open Go
theorem put_inq (σ : St) (l : List Ent) (bs : List UInt8) : ({ σ with inq := l } : St).put bs = ({ (σ.put bs).1 with inq := l }, (σ.put bs).2) := by
  unfold St.put
  rw [putAll_render, putAll_render]
  by_cases h : 256 < (σ.out ++ (renderL σ.o σ.col bs).1).length
  · have h' : 256 < (({ σ with inq := l } : St).out ++ (renderL ({ σ with inq := l } : St).o ({ σ with inq := l } : St).col bs).1).length := h
    rw [if_pos h', if_pos h]
  · have h' : ¬ 256 < (({ σ with inq := l } : St).out ++ (renderL ({ σ with inq := l } : St).o ({ σ with inq := l } : St).col bs).1).length := h
    rw [if_neg h', if_neg h]
    rfl
theorem offEach_inq (l : List Ent) (g : List Ent) : ∀ σ : St, offEach { σ with inq := l } g = { offEach σ g with inq := l } := by
  induction g with
  | nil => intro σ; rfl
  | cons e g ih =>
    intro σ
    show offEach (({ σ with inq := l } : St).put (rubOne e)).1 g = { offEach (σ.put (rubOne e)).1 g with inq := l }
    rw [put_inq]
    exact ih _
theorem rub_false (n : Nat) : ∀ σ : St, n ≤ σ.inq.length → St.rub false n σ = { σ with inq := σ.inq.take (σ.inq.length - n) } := by
  induction n with
  | zero => intro σ _; show σ = _; rw [Nat.sub_zero, List.take_of_length_le (Nat.le_refl _)]
  | succ n ih =>
    intro σ h
    have hne : σ.inq ≠ [] := by intro e; rw [e] at h; simp at h
    unfold St.rub
    rw [List.getLast?_eq_some_getLast hne]
    dsimp only
    rw [if_neg (by decide), ih _ (by simp; omega)]
    dsimp only
    congr 1
    rw [List.length_dropLast, List.dropLast_eq_take, List.take_take]
    congr 1
    omega
theorem rub_true (n : Nat) : ∀ σ : St, n ≤ σ.inq.length → St.rub true n σ = { offEach σ (σ.inq.drop (σ.inq.length - n)).reverse with inq := σ.inq.take (σ.inq.length - n) } := by
  induction n with
  | zero =>
    intro σ _
    rw [Nat.sub_zero, List.take_of_length_le (Nat.le_refl _), List.drop_eq_nil_of_le (Nat.le_refl _)]
    rfl
  | succ n ih =>
    intro σ h
    have hne : σ.inq ≠ [] := by intro e; rw [e] at h; simp at h
    unfold St.rub
    rw [List.getLast?_eq_some_getLast hne]
    dsimp only
    rw [if_pos rfl, put_inq]
    dsimp only
    rw [ih _ (by simp; omega)]
    dsimp only
    rw [offEach_inq]
    have e1 : σ.inq.dropLast.length - n = σ.inq.length - (n + 1) := by rw [List.length_dropLast]; omega
    have e2 : σ.inq.drop (σ.inq.length - (n + 1)) = σ.inq.dropLast.drop (σ.inq.length - (n + 1)) ++ [σ.inq.getLast hne] := by
      have h3 : σ.inq = σ.inq.dropLast ++ [σ.inq.getLast hne] := (List.dropLast_concat_getLast hne).symm
      have h4 : σ.inq.drop (σ.inq.length - (n + 1)) = (σ.inq.dropLast ++ [σ.inq.getLast hne]).drop (σ.inq.length - (n + 1)) := by rw [← h3]
      rw [h4, List.drop_append_of_le_length (by rw [List.length_dropLast]; omega)]
    rw [e1, e2, List.reverse_append]
    show _ = ({ offEach (σ.put (rubOne (σ.inq.getLast hne))).1 (σ.inq.dropLast.drop (σ.inq.length - (n + 1))).reverse with inq := _ } : St)
    congr 1
    rw [List.dropLast_eq_take, List.take_take]
    congr 1
    omega
end Go.Clk
namespace Go.Proofs.YtfnglkhhmplejaaGreat
open Go Go.RowKit Go.Clk
section
variable (S0 : List Nat) (w0 : World) (x : List Nat) (b : Nat) (σ : St) (w : World) (K : Int)

theorem drop_cells {K : Int} {σ : St} (ok : Inv K σ) (n : Nat) : ∀ e ∈ σ.inq.drop n, 0 ≤ e.cells ∧ e.cells ≤ 128 := fun e he => ok.cells e (List.mem_of_mem_drop he)

set_option maxHeartbeats 1000000 in
set_option maxRecDepth 100000 in
theorem rubOut_any (h : AtP S0 w0 x b σ w) (ok : Inv K σ) (hK : K ≤ 1099511627776) (c : UInt8) (ci : Int) (hc : ci = (c.toNat : Int)) (n : Nat) (hn : n ≤ σ.inq.length) (ni : Int) (hni : ni = (n : Int)) :
    Calls Tryz.prog 137 #[.pointer (some ⟨b, 0, none⟩), .int .u8 ci, .int .i64 ni] w fun e w' => e = .returned (.tuple #[]) ∧ AtP S0 w0 x b (σ.rubs n c) w' := by
  subst hc
  subst hni
  have hil := ok.inq
  have l0 := ok.ok.l0; have l1 := ok.ok.l1
  have a12 := has12 σ.l l0 l1
  have a4 := has4 σ.l l0 l1
  have hrb := RubOut_any S0 w0 x b σ w h hil n hn (n : Int) rfl
  have ok2 : Inv K ({ σ with inq := [] } : St) := ok.inq_ [] (by simp) (by simp)
  have ok3 : Inv K ({ σ with inq := σ.inq.take (σ.inq.length - n) } : St) := ok.inq_ _ (by rw [List.length_take]; omega) (fun e he => ok.cells e (List.mem_of_mem_take he))
  have hcl := drop_cells ok (σ.inq.length - n)
  have HR : Hid (σ.rubs n c = if decide (0 < n) && (bit σ.l 4 && !bit σ.l 8) then (St.rub (bit σ.l 4 && bit σ.l 8) n σ).echo1 c else St.rub (bit σ.l 4 && bit σ.l 8) n σ) := rfl
  have HF := rub_false n σ hn
  have HT := rub_true n σ hn
  obtain ⟨gone, hgone⟩ : ∃ gone, σ.inq.drop (σ.inq.length - n) = gone := ⟨_, rfl⟩
  have hgl : gone.length = n := by rw [← hgone, List.length_drop]; omega
  obtain ⟨kept, hkept⟩ : ∃ kept, σ.inq.take (σ.inq.length - n) = kept := ⟨_, rfl⟩
  rw [hgone, hkept] at hrb HT
  rw [hgone] at hcl
  rw [hkept] at HF ok3
  clear hgone hkept ok h
  subst hgl
  have back : Hid (∀ (W : World) (vf : Value) (o : Option Nat), AtQ S0 w0 (o.toList ++ x) b { σ with inq := [] } vf (.slice none 0 0) W → Sl W 112 4 vf kept.length (pents kept) o → (∀ g, o = some g → g ≠ b ∧ g ∉ x ∧ (g ∈ S0 ∨ w0.heap.size ≤ g)) → AtP S0 w0 x b { σ with inq := kept } W) := fun W vf o h1 h2 h3 => h1.back h2 h3
  have cl : Hid (∀ (W : World) (vf : Value) (o : Option Nat), AtQ S0 w0 (o.toList ++ x) b { σ with inq := [] } vf (.slice none 0 0) W → W.cell? ⟨b, 2, none⟩ = some (.int .i64 σ.l)) := by
    rintro W vf o ⟨vu, vo, vs, hq⟩; exact hq.cl
  cases h4 : bit σ.l 4 with
  | true =>
    rw [h4] at a4 a12 HR
    cases h8 : bit σ.l 8 with
    | true =>
      rw [h8] at a12 HR
      have e1 : Hid (σ.rubs gone.length c = { offEach σ gone.reverse with inq := kept }) := by show σ.rubs gone.length c = _; rw [HR.out, ← HT]; simp
      clear HR HF HT h4 h8 ok3
      go_enter Tryz.func137, Tryz.ntmps137
      go_wp2_with (first
        | (go_at_call 139; refine hrb.mono ?_; rintro e W ⟨a, cap, vf, o, rfl, hQ, hs1, hs2, hgo⟩; have kl := cl.out W vf o hQ)
        | (go_at_call 52; refine (Has_any _ _ _).mono ?_; rintro e w' ⟨rfl, hw⟩; subst hw)
        | (go_at_call 140; refine (showGone_any S0 w0 x b _ _ _ _ K o hQ ok2 hK a cap gone hs2 (by omega) hcl).mono ?_; rintro e W2 ⟨rfl, hQ2, hsm⟩))
      go_end0
      refine ⟨rfl, ?_⟩
      rw [e1.out]
      rw [offEach_inq] at hQ2
      exact hQ2.back (hs1.same fun g e => hsm g e) hgo
    | false =>
      rw [h8] at a12 HR
      by_cases hn0 : 0 < gone.length
      · have e1 : Hid (σ.rubs gone.length c = ({ σ with inq := kept } : St).echo1 c) := by show σ.rubs gone.length c = _; rw [HR.out, ← HF]; simp [hn0]
        have hn1 : 0 < (gone.length : Int) := by omega
        clear HR HF HT h4 h8
        go_enter Tryz.func137, Tryz.ntmps137
        go_wp2_with (first
          | (go_at_call 139; refine hrb.mono ?_; rintro e W ⟨a, cap, vf, o, rfl, hQ, hs1, hs2, hgo⟩; have kl := cl.out W vf o hQ; have hB := back.out W vf o hQ hs1 hgo)
          | (go_at_call 52; refine (Has_any _ _ _).mono ?_; rintro e w' ⟨rfl, hw⟩; subst hw)
          | (go_at_call 103; refine (PEcho_any S0 w0 x b _ _ K hB ok3 hK c _ rfl).mono ?_; rintro e W2 ⟨rfl, hW2⟩))
        go_end0
        exact ⟨rfl, by rw [e1.out]; exact hW2⟩
      · have e1 : Hid (σ.rubs gone.length c = { σ with inq := kept }) := by show σ.rubs gone.length c = _; rw [HR.out, ← HF]; simp [hn0]
        have hn1 : ¬ 0 < (gone.length : Int) := by omega
        clear HR HF HT h4 h8
        go_enter Tryz.func137, Tryz.ntmps137
        go_wp2_with (first
          | (go_at_call 139; refine hrb.mono ?_; rintro e W ⟨a, cap, vf, o, rfl, hQ, hs1, hs2, hgo⟩; have kl := cl.out W vf o hQ; have hB := back.out W vf o hQ hs1 hgo)
          | (go_at_call 52; refine (Has_any _ _ _).mono ?_; rintro e w' ⟨rfl, hw⟩; subst hw))
        go_end0
        exact ⟨rfl, by rw [e1.out]; exact hB⟩
  | false =>
    rw [h4] at a4 a12 HR
    have e1 : Hid (σ.rubs gone.length c = { σ with inq := kept }) := by show σ.rubs gone.length c = _; rw [HR.out, ← HF]; simp
    clear HR HF HT h4
    go_enter Tryz.func137, Tryz.ntmps137
    go_wp2_with (first
      | (go_at_call 139; refine hrb.mono ?_; rintro e W ⟨a, cap, vf, o, rfl, hQ, hs1, hs2, hgo⟩; have kl := cl.out W vf o hQ; have hB := back.out W vf o hQ hs1 hgo)
      | (go_at_call 52; refine (Has_any _ _ _).mono ?_; rintro e w' ⟨rfl, hw⟩; subst hw))
    go_end0
    exact ⟨rfl, by rw [e1.out]; exact hB⟩

set_option maxHeartbeats 1000000 in
set_option maxRecDepth 100000 in
theorem eraseLast_any (h : AtP S0 w0 x b σ w) (ok : Inv K σ) (hK : K ≤ 1099511627776) (c : UInt8) (ci : Int) (hc : ci = (c.toNat : Int)) :
    Calls Tryz.prog 108 #[.pointer (some ⟨b, 0, none⟩), .int .u8 ci] w fun e w' => e = .returned (.tuple #[]) ∧ AtP S0 w0 x b (σ.rubs (min 1 (pend σ.inq)) c) w' := by
  subst hc
  have hil := ok.inq
  have hpl := pend_le σ.inq
  have hR := h
  obtain ⟨vi, vu, vo, vs, hV⟩ := h
  obtain ⟨oi, hsi, _, _, _⟩ := hV.lens_in
  have k17 := hV.c_in
  have hpd := Pending_any w vi σ.inq oi hsi hil
  clear hV hsi
  have HRB : Hid (∀ (n : Nat) (ni : Int), n = min 1 (pend σ.inq) → ni = (n : Int) → Calls Tryz.prog 137 #[.pointer (some ⟨b, 0, none⟩), .int .u8 c.toNat, .int .i64 ni] w fun e w' => e = .returned (.tuple #[]) ∧ AtP S0 w0 x b (σ.rubs (min 1 (pend σ.inq)) c) w') := by
    rintro n ni rfl hni; exact rubOut_any S0 w0 x b σ w K hR ok hK c _ rfl _ (by omega) ni hni
  clear ok
  obtain ⟨p, hp⟩ : ∃ p, pend σ.inq = p := ⟨_, rfl⟩
  rw [hp] at hpd HRB hpl ⊢
  clear hp
  by_cases h1 : 1 ≤ p
  · have h1' : (1 : Int) ≤ (p : Int) := by omega
    go_enter Tryz.func108, Tryz.ntmps108
    go_wp2_with (first
      | (go_at_call 138; refine hpd.mono ?_; rintro e W ⟨hw, a, cap, rfl, hs2⟩; subst hw)
      | (go_at_call 137; refine (HRB.out 1 _ (by omega) (by omega)).mono ?_; rintro e W2 ⟨rfl, hW2⟩))
    all_goals go_end0
    all_goals exact ⟨rfl, hW2⟩
  · obtain rfl : p = 0 := by omega
    go_enter Tryz.func108, Tryz.ntmps108
    go_wp2_with (first
      | (go_at_call 138; refine hpd.mono ?_; rintro e W ⟨hw, a, cap, rfl, hs2⟩; subst hw)
      | (go_at_call 137; refine (HRB.out 0 _ (by omega) (by omega)).mono ?_; rintro e W2 ⟨rfl, hW2⟩))
    all_goals go_end0
    all_goals exact ⟨rfl, hW2⟩

set_option maxHeartbeats 1000000 in
set_option maxRecDepth 100000 in
theorem eraseWord_any (h : AtP S0 w0 x b σ w) (ok : Inv K σ) (hK : K ≤ 1099511627776) (c : UInt8) (ci : Int) (hc : ci = (c.toNat : Int)) :
    Calls Tryz.prog 110 #[.pointer (some ⟨b, 0, none⟩), .int .u8 ci] w fun e w' => e = .returned (.tuple #[]) ∧ AtP S0 w0 x b (σ.rubs (wordR (σ.inq.reverse.take (pend σ.inq))) c) w' := by
  subst hc
  have hil := ok.inq
  have hpl := pend_le σ.inq
  have hwl := wordR_le (σ.inq.reverse.take (pend σ.inq))
  rw [List.length_take, List.length_reverse] at hwl
  obtain ⟨vi, vu, vo, vs, hV⟩ := h
  obtain ⟨oi, hsi, _, _, _⟩ := hV.lens_in
  have k17 := hV.c_in
  have hlw := LastWord_any w vi σ.inq oi hsi hil
  have HRB : Hid (∀ (W : World) (n : Nat) (ni : Int), w.grownBy W none → n = wordR (σ.inq.reverse.take (pend σ.inq)) → ni = (n : Int) → Calls Tryz.prog 137 #[.pointer (some ⟨b, 0, none⟩), .int .u8 c.toNat, .int .i64 ni] W fun e w' => e = .returned (.tuple #[]) ∧ AtP S0 w0 x b (σ.rubs (wordR (σ.inq.reverse.take (pend σ.inq))) c) w') := by
    rintro W n ni hg rfl hni; exact rubOut_any S0 w0 x b σ W K (hV.same hg).r ok hK c _ rfl _ (by omega) ni hni
  clear ok hV hsi
  obtain ⟨p, hp⟩ : ∃ p, wordR (σ.inq.reverse.take (pend σ.inq)) = p := ⟨_, rfl⟩
  rw [hp] at hlw HRB ⊢
  clear hp hwl
  go_enter Tryz.func110, Tryz.ntmps110
  go_wp2_with (first
    | (go_at_call 141; refine hlw.mono ?_; rintro e W ⟨rfl, hgW⟩)
    | (go_at_call 137; refine (HRB.out _ p _ hgW rfl rfl).mono ?_; rintro e W2 ⟨rfl, hW2⟩))
  go_end0
  exact ⟨rfl, hW2⟩
end
end Go.Proofs.YtfnglkhhmplejaaGreat
namespace Go.Proofs.YtfnglkhhmplejaaGreat
open Go Go.RowKit Go.Clk
section
variable (S0 : List Nat) (w0 : World) (x : List Nat) (b : Nat) (σ : St) (w : World) (K : Int)

theorem putOut_new2 (h : AtP S0 w0 x b σ w) (ok : Inv K σ) (hK : K ≤ 1099511627776) (l : List UInt8) (hn : l.length ≤ 10000) (cs : Array Value) (hcs : cs = (bys l).toArray) (n : Nat) (hl : n = l.length) (sz : Nat) (hsz : sz = w.heap.size) :
    Calls Tryz.prog 60 #[.pointer (some ⟨b, 0, none⟩), .slice (some ⟨sz, 0, none⟩) n n] (w.alloc (.cells cs 5)) fun e w' => e = .returned (.bool (σ.put l).2) ∧ AtP S0 w0 x b (σ.put l).1 w' := by
  subst hsz; exact putOut_new S0 w0 x b σ w K h ok hK l hn cs hcs n hl

set_option maxHeartbeats 1000000 in
set_option maxRecDepth 100000 in
theorem quoteNext_any (h : AtP S0 w0 x b σ w) (ok : Inv K σ) (hK : K ≤ 1099511627776) (n : Int) :
    Calls Tryz.prog 111 #[.pointer (some ⟨b, 0, none⟩), .int .u8 n] w fun e w' => e = .returned (.tuple #[]) ∧ AtP S0 w0 x b σ.quote w' := by
  have l0 := ok.ok.l0; have l1 := ok.ok.l1
  have a68 := has68 σ.l l0 l1
  have HQ : Hid (σ.quote = if bit σ.l 4 && bit σ.l 64 then (({ σ with quoted := true } : St).put [94, 8]).1 else { σ with quoted := true }) := rfl
  obtain ⟨vi, vu, vo, vs, hV⟩ := h
  have k := hV.c_quo
  have f := hV.frozen 28
  have hq := hV.s_quo true
  have kl : (w.setCell ⟨b, 28, none⟩ (.bool true)).cell? ⟨b, 2, none⟩ = some (.int .i64 σ.l) := hq.cl
  have hR := hq.r
  have ok2 := ok.quoted_ true
  clear hV hq ok
  cases hc : (bit σ.l 4 && bit σ.l 64) with
  | true =>
    rw [hc] at a68 HQ
    have e1 : Hid (σ.quote = (({ σ with quoted := true } : St).put [94, 8]).1) := by show σ.quote = _; rw [HQ.out]; rfl
    clear HQ hc
    go_enter Tryz.func111, Tryz.ntmps111
    go_wp2_with (go_at_call 52; refine (Has_any _ _ _).mono ?_; rintro e w' ⟨rfl, hw⟩; subst hw)
    refine (putOut_new2 S0 w0 x b _ (w.setCell ⟨b, 28, none⟩ (.bool true)) K hR ok2 hK [94, 8] (by simp) _ rfl _ rfl _ (by simp)).mono ?_
    rintro e W2 ⟨rfl, hW2⟩
    go_wp2
    go_end0
    exact ⟨rfl, by rw [e1.out]; exact hW2⟩
  | false =>
    rw [hc] at a68 HQ
    have e1 : Hid (σ.quote = { σ with quoted := true }) := by show σ.quote = _; rw [HQ.out]; rfl
    clear HQ hc
    go_enter Tryz.func111, Tryz.ntmps111
    go_wp2_with (go_at_call 52; refine (Has_any _ _ _).mono ?_; rintro e w' ⟨rfl, hw⟩; subst hw)
    go_end0
    exact ⟨rfl, by rw [e1.out]; exact hR⟩

set_option maxHeartbeats 2000000 in
set_option maxRecDepth 100000 in
theorem killLine_any (h : AtP S0 w0 x b σ w) (ok : Inv K σ) (hK : K ≤ 1099511627776) (c : UInt8) (ci : Int) (hc : ci = (c.toNat : Int)) :
    Calls Tryz.prog 109 #[.pointer (some ⟨b, 0, none⟩), .int .u8 ci] w fun e w' => e = .returned (.tuple #[]) ∧ AtP S0 w0 x b (σ.kills (pend σ.inq) c) w' := by
  subst hc
  have hil := ok.inq
  have hpl := pend_le σ.inq
  have l0 := ok.ok.l0; have l1 := ok.ok.l1
  have a140 := has140 σ.l l0 l1
  have a20 := has20 σ.l l0 l1
  have a4 := has4 σ.l l0 l1
  have HR : Hid (∀ n, σ.kills n c = if bit σ.l 4 && !(bit σ.l 8 && bit σ.l 128) then (if bit σ.l 16 then (((St.rub (bit σ.l 4 && (bit σ.l 8 && bit σ.l 128)) n σ).echo1 c).put [10]).1 else (St.rub (bit σ.l 4 && (bit σ.l 8 && bit σ.l 128)) n σ).echo1 c) else St.rub (bit σ.l 4 && (bit σ.l 8 && bit σ.l 128)) n σ) := fun _ => rfl
  obtain ⟨p, hp⟩ : ∃ p, pend σ.inq = p := ⟨_, rfl⟩
  have ok2 : Inv K ({ σ with inq := [] } : St) := ok.inq_ [] (by simp) (by simp)
  have ok3 : Inv K ({ σ with inq := σ.inq.take (σ.inq.length - p) } : St) := ok.inq_ _ (by rw [List.length_take]; omega) (fun e he => ok.cells e (List.mem_of_mem_take he))
  have ok4 := ok3.echo1 c
  have hcl := drop_cells ok (σ.inq.length - p)
  have HF := rub_false p σ (by omega)
  have HT := rub_true p σ (by omega)
  have HRB : Hid (∀ W, AtP S0 w0 x b σ W → ∀ ni : Int, ni = (p : Int) → Calls Tryz.prog 139 #[.pointer (some ⟨b, 17, none⟩), .int .i64 ni] W fun e w' => ∃ a cap vf o, e = .returned (.slice a p cap) ∧ AtQ S0 w0 (o.toList ++ x) b { σ with inq := [] } vf (.slice none 0 0) w' ∧
      Sl w' 112 4 vf (σ.inq.take (σ.inq.length - p)).length (pents (σ.inq.take (σ.inq.length - p))) o ∧ Sl w' 112 4 (.slice a p cap) p (pents (σ.inq.drop (σ.inq.length - p))) o ∧ (∀ g, o = some g → g ≠ b ∧ g ∉ x ∧ (g ∈ S0 ∨ w0.heap.size ≤ g))) :=
    fun W hW ni hni => RubOut_any S0 w0 x b σ W hW hil p (by omega) ni hni
  obtain ⟨gone, hgone⟩ : ∃ gone, σ.inq.drop (σ.inq.length - p) = gone := ⟨_, rfl⟩
  have hgl : gone.length = p := by rw [← hgone, List.length_drop]; omega
  obtain ⟨kept, hkept⟩ : ∃ kept, σ.inq.take (σ.inq.length - p) = kept := ⟨_, rfl⟩
  rw [hgone, hkept] at HRB HT
  rw [hgone] at hcl
  rw [hkept] at HF ok3 ok4
  obtain ⟨vi, vu, vo, vs, hV⟩ := h
  obtain ⟨oi, hsi, _, _, _⟩ := hV.lens_in
  have k17 := hV.c_in
  have hpd := fun (W : World) (hg : w.grownBy W none) => Pending_any W vi σ.inq oi (hsi.same fun g e => hg.block g (hsi.lt e) (by simp)) hil
  rw [hp] at hpd hpl ⊢
  have hRd := hV.drew.r
  have hgd : w.grownBy w.drew none := ⟨rfl, rfl, rfl, Nat.le_refl _, fun _ _ _ => rfl⟩
  have hpdd := hpd _ hgd
  clear hgone hkept ok hpd hsi hV hp
  subst hgl
  have cl : Hid (∀ (W : World) (vf : Value) (o : Option Nat), AtQ S0 w0 (o.toList ++ x) b { σ with inq := [] } vf (.slice none 0 0) W → W.cell? ⟨b, 2, none⟩ = some (.int .i64 σ.l)) := by
    rintro W vf o ⟨vu, vo, vs, hq⟩; exact hq.cl
  go_enter Tryz.func109, Tryz.ntmps109
  go_upto_region 0 with fail
  go_cut [4] (fun s4 wx => ∃ a cap vf o, s4 = .slice a gone.length cap ∧ AtQ S0 w0 (o.toList ++ x) b { σ with inq := [] } vf (.slice none 0 0) wx ∧ Sl wx 112 4 vf kept.length (pents kept) o ∧ Sl wx 112 4 (.slice a gone.length cap) gone.length (pents gone) o ∧ (∀ g, o = some g → g ≠ b ∧ g ∉ x ∧ (g ∈ S0 ∨ w0.heap.size ≤ g)))
  case first =>
    go_region_with (first
      | (go_at_call 138; refine hpdd.mono ?_; rintro e W ⟨hw, a, cap, rfl, hs2⟩; subst hw)
      | (go_at_call 139; refine (HRB.out _ hRd _ rfl).mono ?_; rintro e W ⟨a, cap, vf, o, rfl, hQ, hs1, hs2, hgo⟩))
    all_goals (go_wp2_with fail; go_meet; exact ⟨_, _, _, _, rfl, hQ, hs1, hs2, hgo⟩)
  case rest =>
  clear hpdd HRB k17 hRd hgd
  obtain ⟨a, cap, vf, o, rfl, hQ, hs1, hs2, hgo⟩ := hcut
  have kl := cl.out _ vf o hQ
  clear cl
  cases h4 : bit σ.l 4 with
  | false =>
    rw [h4] at a4 a20 a140 HR
    have e1 : Hid (σ.kills gone.length c = { σ with inq := kept }) := by show σ.kills gone.length c = _; rw [HR.out, ← HF]; simp
    have hB := hQ.back hs1 hgo
    clear HR HF HT h4 hQ hs1 hs2
    go_wp2_with (go_at_call 52; refine (Has_any _ _ _).mono ?_; rintro e w' ⟨rfl, hw⟩; subst hw)
    go_end0
    exact ⟨rfl, by rw [e1.out]; exact hB⟩
  | true =>
    rw [h4] at a4 a20 a140 HR
    cases h8 : (bit σ.l 8 && bit σ.l 128) with
    | true =>
      have h8a : bit σ.l 8 = true := by cases h : bit σ.l 8 <;> simp_all
      have h8b : bit σ.l 128 = true := by cases h : bit σ.l 128 <;> simp_all
      have e1 : Hid (σ.kills gone.length c = { offEach σ gone.reverse with inq := kept }) := by show σ.kills gone.length c = _; rw [HR.out, h8, ← HT]; simp
      rw [h8a, h8b] at a140
      clear HR HF HT h4 h8 h8a h8b
      go_wp2_with (first
        | (go_at_call 52; refine (Has_any _ _ _).mono ?_; rintro e w' ⟨rfl, hw⟩; subst hw)
        | (go_at_call 140; refine (showGone_any S0 w0 x b _ _ _ _ K o hQ ok2 hK a cap gone hs2 (by omega) hcl).mono ?_; rintro e W2 ⟨rfl, hQ2, hsm⟩))
      go_end0
      refine ⟨rfl, ?_⟩
      rw [e1.out]
      rw [offEach_inq] at hQ2
      exact hQ2.back (hs1.same fun g e => hsm g e) hgo
    | false =>
      have h140 : hasB σ.l 140 = false := by
        rw [a140]
        cases h : bit σ.l 8 <;> simp_all
      have hB := hQ.back hs1 hgo
      clear a140 hQ hs1 hs2 HT
      cases h16 : bit σ.l 16 with
      | true =>
        have e1 : Hid (σ.kills gone.length c = ((({ σ with inq := kept } : St).echo1 c).put [10]).1) := by show σ.kills gone.length c = _; rw [HR.out, h8, h16, ← HF]; simp
        rw [h16] at a20
        clear HR HF h4 h8 h16
        go_wp2_with (first
          | (go_at_call 52; refine (Has_any _ _ _).mono ?_; rintro e w' ⟨rfl, hw⟩; subst hw)
          | (go_at_call 103; refine (PEcho_any S0 w0 x b _ _ K hB ok3 hK c _ rfl).mono ?_; rintro e W2 ⟨rfl, hW2⟩))
        refine (putOut_new S0 w0 x b _ _ K hW2 ok4 hK [10] (by simp) _ rfl _ rfl).mono ?_
        rintro e W3 ⟨rfl, hW3⟩
        go_wp2
        go_end0
        exact ⟨rfl, by rw [e1.out]; exact hW3⟩
      | false =>
        have e1 : Hid (σ.kills gone.length c = ({ σ with inq := kept } : St).echo1 c) := by show σ.kills gone.length c = _; rw [HR.out, h8, h16, ← HF]; simp
        rw [h16] at a20
        clear HR HF h4 h8 h16
        go_wp2_with (first
          | (go_at_call 52; refine (Has_any _ _ _).mono ?_; rintro e w' ⟨rfl, hw⟩; subst hw)
          | (go_at_call 103; refine (PEcho_any S0 w0 x b _ _ K hB ok3 hK c _ rfl).mono ?_; rintro e W2 ⟨rfl, hW2⟩))
        go_end0
        exact ⟨rfl, by rw [e1.out]; exact hW2⟩
end
end Go.Proofs.YtfnglkhhmplejaaGreat
namespace Go.Clk
open Go
theorem echo1_inq (σ : St) (l : List Ent) (c : UInt8) : ({ σ with inq := l } : St).echo1 c = { σ.echo1 c with inq := l } := by
  unfold St.echo1
  rw [show ({ σ with inq := l } : St).echoes c = σ.echoes c from rfl, show ({ σ with inq := l } : St).shows c = σ.shows c from rfl, put_inq]
  split <;> rfl
theorem cells_inq (σ : St) (l : List Ent) (c : UInt8) : ({ σ with inq := l } : St).cellsOf c = σ.cellsOf c := by
  unfold St.cellsOf; rw [echo1_inq]
end Go.Clk
namespace Go.Proofs.YtfnglkhhmplejaaGreat
open Go Go.RowKit Go.Clk
section
variable (S0 : List Nat) (w0 : World) (x : List Nat) (b : Nat) (σ : St) (ci vi : Value) (w : World) (K : Int)

theorem putOut_qnew (h : AtQ S0 w0 x b σ ci vi w) (ok : Inv K σ) (hK : K ≤ 1099511627776) (l : List UInt8) (hn : l.length ≤ 10000) (cs : Array Value) (hcs : cs = (bys l).toArray) (n : Nat) (hl : n = l.length) :
    Calls Tryz.prog 60 #[.pointer (some ⟨b, 0, none⟩), .slice (some ⟨w.heap.size, 0, none⟩) n n] (w.alloc (.cells cs 5)) fun e w' => e = .returned (.bool (σ.put l).2) ∧ AtQ S0 w0 x b (σ.put l).1 ci vi w' := by
  subst hcs hl
  refine (putOut_q S0 w0 (w.heap.size :: x) b σ ci vi _ _ (h.boxed _) ok.ok (by omega) ok.out _ l (some w.heap.size) (Sl.made w (bys l) l.length 5 1 (bys_len l) (by unfold maxLen; omega)) hn).mono ?_
  rintro e w' ⟨rfl, h'⟩
  exact ⟨rfl, h'.weaken fun g hg => by simp [hg]⟩
set_option maxHeartbeats 1000000 in
set_option maxRecDepth 100000 in
theorem echo_q (h : AtQ S0 w0 x b σ ci vi w) (ok : Inv K σ) (hK : K ≤ 1099511627776) (c : UInt8) (n : Int) (hn : n = (c.toNat : Int)) :
    Calls Tryz.prog 103 #[.pointer (some ⟨b, 0, none⟩), .int .u8 n] w fun e w' => e = .returned (.int .i64 (σ.cellsOf c)) ∧ AtQ S0 w0 x b (σ.echo1 c) ci vi w' := by
  subst hn
  have hR := h
  obtain ⟨vu, vo, vs, hV⟩ := h
  have l0 := ok.ok.l0; have l1 := ok.ok.l1
  have k2 := hV.cl
  have kcol := hV.c_col
  have q0 := ok.c0; have q1 := ok.c1; have q2 := ok.out
  have HI : Hid (Inv K σ) := ok
  have HX := u8_xor c
  have hlt := hR.lt
  clear ok hV
  have HC : Hid (σ.cellsOf c = if σ.col < (σ.echo1 c).col then (σ.echo1 c).col - σ.col else 0) := rfl
  cases he : σ.echoes c with
  | false =>
    have h1 : σ.echo1 c = σ := by unfold St.echo1; rw [he]; rfl
    have h2 : σ.cellsOf c = 0 := by rw [HC.out, h1]; simp
    rw [h1, h2]
    clear HC h1 h2
    go_enter Tryz.func103, Tryz.ntmps103
    go_wp2_with (go_at_call 133; refine (echoes_any b σ _ k2 l0 l1 c).mono ?_; rw [he]; rintro e w' ⟨rfl, rfl⟩)
    go_ret
    exact ⟨rfl, hR⟩
  | true =>
    have HE : Hid (σ.echo1 c = (σ.put (σ.shows c)).1) := by show σ.echo1 c = _; unfold St.echo1; rw [if_pos he]
    have HK : Hid (Inv K (σ.echo1 c)) := HI.out.echo1 c
    have hq0 := HK.out.c0; have hq1 := HK.out.c1; have hq2 := HK.out.out
    cases ht : σ.two c with
    | true =>
      have HS : Hid (σ.shows c = [94, c ^^^ 64]) := by show σ.shows c = _; unfold St.shows; rw [if_pos ht]
      go_enter Tryz.func103, Tryz.ntmps103
      go_wp2_with (first | (go_at_call 133; refine (echoes_any b σ _ k2 l0 l1 c).mono ?_; rw [he]; rintro e w' ⟨rfl, rfl⟩) | (go_at_call 38; refine (Column_any b _ σ.col kcol).mono ?_; rintro e w' ⟨rfl, rfl⟩) | (go_at_call 134; refine (two_any b σ _ k2 l0 l1 c).mono ?_; rw [ht]; rintro e w' ⟨rfl, rfl⟩))
      refine (putOut_qnew S0 w0 x b σ ci vi _ K hR HI.out hK [94, c ^^^ 64] (by simp) _ (pcells_two c _ (by rfl)) 2 rfl).mono ?_
      rintro e W ⟨rfl, hW⟩
      rw [← HS.out, ← HE.out] at hW
      have hW' := hW
      obtain ⟨vu, vo, vs, hV⟩ := hW'
      have pcol := hV.c_col
      clear hV HS HE k2 kcol HX
      obtain ⟨τ, hτ⟩ : ∃ τ, σ.echo1 c = τ := ⟨_, rfl⟩
      rw [hτ] at hW pcol hq0 hq1 hq2 HC
      have HG : Hid (σ.echo1 c = τ) := hτ
      clear hτ HK
      go_wp2_with (go_at_call 38; refine (Column_any b _ τ.col pcol).mono ?_; rintro e w' ⟨rfl, rfl⟩)
      all_goals go_ret
      all_goals exact ⟨ret_int (by rw [HC.out]; split <;> omega), by rw [HG.out]; exact hW⟩
    | false =>
      have HS : Hid (σ.shows c = [c]) := by show σ.shows c = _; unfold St.shows; rw [if_neg (by rw [ht]; decide)]
      go_enter Tryz.func103, Tryz.ntmps103
      go_wp2_with (first | (go_at_call 133; refine (echoes_any b σ _ k2 l0 l1 c).mono ?_; rw [he]; rintro e w' ⟨rfl, rfl⟩) | (go_at_call 38; refine (Column_any b _ σ.col kcol).mono ?_; rintro e w' ⟨rfl, rfl⟩) | (go_at_call 134; refine (two_any b σ _ k2 l0 l1 c).mono ?_; rw [ht]; rintro e w' ⟨rfl, rfl⟩))
      refine (putOut_qnew S0 w0 x b σ ci vi _ K hR HI.out hK [c] (by simp) _ rfl 1 rfl).mono ?_
      rintro e W ⟨rfl, hW⟩
      rw [← HS.out, ← HE.out] at hW
      have hW' := hW
      obtain ⟨vu, vo, vs, hV⟩ := hW'
      have pcol := hV.c_col
      clear hV HS HE k2 kcol HX
      obtain ⟨τ, hτ⟩ : ∃ τ, σ.echo1 c = τ := ⟨_, rfl⟩
      rw [hτ] at hW pcol hq0 hq1 hq2 HC
      have HG : Hid (σ.echo1 c = τ) := hτ
      clear hτ HK
      go_wp2_with (go_at_call 38; refine (Column_any b _ τ.col pcol).mono ?_; rintro e w' ⟨rfl, rfl⟩)
      all_goals go_ret
      all_goals exact ⟨ret_int (by rw [HC.out]; split <;> omega), by rw [HG.out]; exact hW⟩

end
/-- The queue's entries are held apart. -/
theorem AtP.held {S0 : List Nat} {w0 w : World} {x : List Nat} {b : Nat} {σ : St} (h : AtP S0 w0 x b σ w) : ∃ vi o, w.cell? ⟨b, 17, none⟩ = some vi ∧ Sl w 112 4 vi σ.inq.length (pents σ.inq) o ∧ (∀ g, o = some g → g ≠ b ∧ g ∉ x ∧ (g ∈ S0 ∨ w0.heap.size ≤ g)) ∧ AtQ S0 w0 (o.toList ++ x) b { σ with inq := [] } vi (.slice none 0 0) w := by
  obtain ⟨vi, vu, vo, vs, hV⟩ := h
  have k := hV.c_in
  obtain ⟨oi, hs0, hgo, hG⟩ := hV.2.give 0 rfl
  exact ⟨vi, oi, k, hs0, hgo, vu, vo, vs, hV.1, hG⟩
theorem AtQ.poke {S0 : List Nat} {w0 w : World} {x : List Nat} {b : Nat} {σ : St} {ci vi : Value} (h : AtQ S0 w0 x b σ ci vi w) {g : Nat} (hg : g ∈ x) (h0 : g ∈ S0 ∨ w0.heap.size ≤ g) (k : Nat) (v : Value) : AtQ S0 w0 x b σ ci vi (w.setCell ⟨g, k, none⟩ v) := by
  obtain ⟨vu, vo, vs, hl, h⟩ := h
  exact ⟨vu, vo, vs, hl, h.same (h.kp.set ⟨g, k, none⟩ v h0) (by simp) fun j _ hx => heap_setCell_other w ⟨g, k, none⟩ j v fun e => hx (by rw [e]; exact hg)⟩
end Go.Proofs.YtfnglkhhmplejaaGreat
namespace Go.Clk
open Go Go.RowKit
theorem hid_of {p : Prop} (h : p) : Hid p := h
theorem wpList_cutA {P : Program} {w : World} {ops : Array Oper} {rest : List Oper} {op : Oper} {act : Act} {Q : Exit → Act → World → Prop} (hgd : op.guard = none) (x : Operand) (lo : Operand) (t : TypeId)
    (hop : op.op = .slice t x (some lo) none none) {e : TypeId} {size : Nat} (i : TypeInfo) (ht : P.underlying t = some (.slice e)) (hi : P.info? e = some i) (hsize : i.size = size)
    {a : Option Addr} {n cap : Nat} {xs : List Value} {o : Option Nat} (hx : act.eval x = .slice a n cap) (h : Sl w e size (.slice a n cap) n xs o) (k : Int) (hlo : act.eval lo = .int .i64 k) (hk0 : 0 ≤ k) (hk : k ≤ n)
    (hK : ∀ a' cap', (∀ g off, a = some ⟨g, off, none⟩ → k.toNat < cap → a' = some ⟨g, off + k.toNat * size, none⟩) → Sl w e size (.slice a' (n - k.toNat) cap') (n - k.toNat) (xs.drop (k.toNat * size)) o → wpList P ops Q rest (act.put op.dst (.slice a' (n - k.toNat) cap')) w) : wpList P ops Q (op :: rest) act w := by
  refine wpList_plain hgd fun K hK' => ?_
  have h1 := h.cut k.toNat (by omega)
  obtain ⟨_, _, _, hnc, hcm⟩ := h.shape
  unfold Oper.wp
  have hr : (Instr.sliceAt t (.slice a n cap) (some (.int .i64 k)) none none).run P w = .ok (.slice (if cap = k.toNat then a else a.map (·.add (k.toNat * size))) (n - k.toNat) (cap - k.toNat)) w := by
    have hle : k ≤ (n : Int) := hk
    simp [Instr.sliceAt, Instr.slice, run_underlying ht, Instr.sliceBounds, Instr.sliceBound, asIntOf, hk0, hle, sizeOf, typeInfo, hi, hsize]
  simp [execOp, hop, hx, hlo, hr, Result.andThen]
  refine hK' _ _ (hK _ _ ?_ h1)
  rintro g off rfl hlt
  rw [if_neg (by omega)]
  simp [Addr.add_lit]
end Go.Clk
namespace Go.Proofs.YtfnglkhhmplejaaGreat
open Go Go.RowKit Go.Clk
section
variable (S0 : List Nat) (w0 : World) (x : List Nat) (b : Nat) (σ : St) (w : World) (K : Int)

set_option maxHeartbeats 1000000 in
set_option maxRecDepth 100000 in
theorem Pending_at (v : Value) (l : List Ent) (o : Option Nat) (hs : Sl w 112 4 v l.length (pents l) o) (hl : l.length ≤ 256) :
    Calls Tryz.prog 138 #[v] w fun e w' => w' = w ∧ ∃ a cap, e = .returned (.slice a (pend l) cap) ∧ Sl w 112 4 (.slice a (pend l) cap) (pend l) (pents (l.drop (l.length - pend l))) o ∧ (∀ g off ci, v = .slice (some ⟨g, off, none⟩) l.length ci → 0 < pend l → a = some ⟨g, off + (l.length - pend l) * 4, none⟩) := by
  obtain ⟨t0, hti, htz0, htz1, htz2⟩ := info_parts info_pent
  obtain ⟨ai, ci, rfl, hl1, hl2⟩ := hs.shape
  have hpl := pend_le l
  have HP : Hid (∀ (j q : Nat) (h : q < l.length), j < pend l → q + 1 + j = l.length → l[q].fin = false) := fun j q _ hj hq => pend_in l j q hj hq
  have HQ : Hid (∀ (q : Nat) (h : q < l.length), q + 1 + pend l = l.length → l[q].fin = true) := fun q _ hq => pend_end l q hq
  obtain ⟨p, hp⟩ : ∃ p, pend l = p := ⟨_, rfl⟩
  rw [hp] at hpl HP HQ ⊢
  have HS : Hid (Sl w 112 4 (.slice ai l.length ci) l.length (pents l) o) := hs
  clear hp
  go_enter Tryz.func138, Tryz.ntmps138
  go_wp2_with fail
  go_loopg [3] p (fun k fv wr => ∃ (f j : Nat), f + j = l.length ∧ j + k = p ∧ fv = .int .i64 f ∧ wr = w)
  case atStart => exact ⟨l.length, 0, by omega, by omega, rfl, rfl⟩
  case round =>
    obtain ⟨f, j, hf, hj, rfl, rfl⟩ := hrel
    have fin : ∀ q : Nat, q + p = l.length → ∀ a' cap', Sl wr 112 4 (.slice a' (l.length - q) cap') (l.length - q) ((pents l).drop (q * 4)) o → Sl wr 112 4 (.slice a' p cap') p (pents (l.drop (l.length - p))) o := by
      intro q hq a' cap' h
      have e1 : l.length - q = p := by omega
      have e2 : l.length - p = q := by omega
      rw [e1] at h
      rw [e2, pents_drop]; exact h
    have HFin : Hid (∀ q : Nat, q + p = l.length → ∀ a' cap', Sl wr 112 4 (.slice a' (l.length - q) cap') (l.length - q) ((pents l).drop (q * 4)) o → Sl wr 112 4 (.slice a' p cap') p (pents (l.drop (l.length - p))) o) := fin
    clear fin
    by_cases hz : 0 < f
    · obtain ⟨q, rfl⟩ : ∃ q, f = q + 1 := ⟨f - 1, by omega⟩
      have hql : q < l.length := by omega
      obtain ⟨ug, uoff, uc, he, rfl⟩ := hs.addr (by omega)
      cases he
      have kc := (hs.cells rfl (q * 4 + 2) (u := .bool l[q].fin) (by rw [pents_get l q hql 2 (by omega)]; rfl)).1
      simp only [← Nat.add_assoc] at kc
      by_cases hjp : j < p
      · rw [HP.out j q hql hjp (by omega)] at kc
        clear HP HQ
        go_wp2
        go_roundg (gk - 1)
        case measure => omega
        case rel => exact ⟨q, j + 1, by omega, by omega, by go_num, rfl⟩
      · obtain rfl : j = p := by omega
        rw [HQ.out q hql (by omega)] at kc
        clear HP HQ
        go_wp2_with (refine wpList_cutA rfl (.tmp 19) (.tmp 20) 69 rfl t0 Tryz.underlying69 hti htz1 rfl HS.out ((q + 1 : Nat) : Int) (by first | rfl | simp [Act.eval]) (by omega) (by omega) ?_)
        intro a2 cap2 hA hs2
        have HA := hid_of hA
        clear hA
        have hfin := HFin.out (q + 1) (by omega) a2 cap2 (by simpa using hs2)
        clear hs2 HFin
        go_wp2
        go_ret
        exact ⟨rfl, a2, cap2, by rw [show j = l.length - (q + 1) by omega]; rfl, hfin, fun g off c e h0 => by cases e; have := HA.out (by omega); rw [this, show l.length - j = q + 1 by omega]⟩
    · obtain rfl : f = 0 := by omega
      obtain rfl : j = p := by omega
      clear HP HQ
      go_wp2_with (refine wpList_cutA rfl (.tmp 19) (.tmp 20) 69 rfl t0 Tryz.underlying69 hti htz1 rfl HS.out 0 (by first | rfl | simp [Act.eval]) (by omega) (by omega) ?_)
      intro a2 cap2 hA hs2
      have HA := hid_of hA
      clear hA
      have hfin := HFin.out 0 (by omega) a2 cap2 (by simpa using hs2)
      clear hs2 HFin
      go_wp2
      go_ret
      exact ⟨rfl, a2, cap2, by rw [show j = l.length by omega]; rfl, hfin, fun g off c e h0 => by cases e; have := HA.out g off rfl (by omega); rw [this]; simp; try omega⟩

set_option maxHeartbeats 2000000 in
set_option maxRecDepth 100000 in
theorem reprint_any (h : AtP S0 w0 x b σ w) (ok : Inv K σ) (hK : K ≤ 1099511627776) (c : UInt8) (ci : Int) (hc : ci = (c.toNat : Int)) :
    Calls Tryz.prog 112 #[.pointer (some ⟨b, 0, none⟩), .int .u8 ci] w fun e w' => e = .returned (.tuple #[]) ∧ AtP S0 w0 x b (σ.reprint c) w' := by
  subst hc
  have HR : Hid (σ.reprint c = St.reps (pend σ.inq) (σ.inq.length - pend σ.inq) ((σ.echo1 c).put [10]).1) := rfl
  have hq : ((σ.echo1 c).put [10]).1.inq = σ.inq := by
    obtain ⟨o1, k1, e1⟩ := put_frame (σ.echo1 c) [10]
    obtain ⟨o2, k2, e2⟩ := echo1_frame σ c
    rw [e1, e2]
  have ok1 := ok.echo1 c
  have ok2 := ok1.put [10]
  obtain ⟨τ0, hτ0⟩ : ∃ τ0, ((σ.echo1 c).put [10]).1 = τ0 := ⟨_, rfl⟩
  have hech := PEcho_any S0 w0 x b σ w K h ok hK c _ rfl
  have HPN : Hid (∀ W, AtP S0 w0 x b (σ.echo1 c) W → Calls Tryz.prog 60 #[.pointer (some ⟨b, 0, none⟩), .slice (some ⟨W.heap.size, 0, none⟩) 1 1] (W.alloc (.cells #[.int .u8 10] 5)) fun e w' => e = .returned (.bool ((σ.echo1 c).put [10]).2) ∧ AtP S0 w0 x b τ0 w') := by
    intro W hW; rw [← hτ0]; exact putOut_new S0 w0 x b _ W K hW ok1 hK [10] (by simp) _ rfl 1 rfl
  rw [hτ0] at HR hq ok2
  rw [← hq] at HR
  clear hτ0 hq ok ok1 h
  have hil := ok2.inq
  have hpl := pend_le τ0.inq
  go_enter Tryz.func112, Tryz.ntmps112
  go_wp2_with (go_at_call 103; refine hech.mono ?_; rintro e W1 ⟨rfl, hW1⟩)
  refine (HPN.out W1 hW1).mono ?_
  rintro e W2 ⟨rfl, hW2⟩
  obtain ⟨vi, o, kin, hsi, hgo, hQ⟩ := hW2.held
  obtain ⟨ai, cc, rfl, hl1, hl2⟩ := hsi.shape
  have hpd := Pending_at W2 _ τ0.inq o hsi hil
  obtain ⟨p, hp⟩ : ∃ p, pend τ0.inq = p := ⟨_, rfl⟩
  rw [hp] at hpd hpl HR
  obtain ⟨L, hL⟩ : ∃ L, τ0.inq.length = L := ⟨_, rfl⟩
  rw [hL] at hpl HR hil hl1
  have HSI : Hid (Sl W2 112 4 (.slice ai τ0.inq.length cc) τ0.inq.length (pents τ0.inq) o) := hsi
  have HL : Hid (τ0.inq.length = L) := hL
  clear hp hech HPN hW1 hW2 hsi hL
  go_wp2_with (go_at_call 138; refine hpd.mono ?_; rintro e W ⟨hw, a, cap, rfl, hs2, haddr⟩; subst hw)
  obtain ⟨m, hm⟩ : ∃ m, L - p = m := ⟨_, rfl⟩
  have hmp : m + p = L := by omega
  have HAD : Hid (∀ g off, ai = some ⟨g, off, none⟩ → 0 < p → a = some ⟨g, off + m * 4, none⟩) := fun g off e h0 => by
    have := haddr g off cc (by rw [e]) h0
    rw [HL.out, hm] at this; exact this
  rw [hm] at HR
  clear haddr hpd hs2 kin hm
  go_loopg [5, 19] p (fun k _ iv wr => ∃ (j : Nat) (τ : St), j + k = p ∧ iv = .int .i64 j ∧ AtQ S0 w0 (o.toList ++ x) b { τ with inq := [] } (.slice ai τ0.inq.length cc) (.slice none 0 0) wr ∧ Sl wr 112 4 (.slice ai τ0.inq.length cc) τ0.inq.length (pents τ.inq) o ∧ Hid (τ.inq.length = L) ∧ Hid (Inv K τ) ∧ Hid (St.reps p m τ0 = St.reps (p - j) (m + j) τ))
  case atStart => exact ⟨0, τ0, by omega, rfl, hQ, HSI.out, HL, ok2, rfl⟩
  case round =>
    clear hQ HSI
    obtain ⟨j, τ, hj, rfl, hQ, hs, hτl, okτ, hreps⟩ := hrel
    by_cases hlt : j < p
    · have hL0 : 0 < τ0.inq.length := by have := HL.out; omega
      have hql : m + j < τ.inq.length := by have := hτl.out; omega
      obtain ⟨ug, uoff, uc, he, rfl⟩ := hs.addr hL0
      cases he
      have ha := HAD.out ug uoff rfl (by omega)
      subst ha
      obtain ⟨en, hen⟩ : ∃ en, τ.inq[m + j] = en := ⟨_, rfl⟩
      have HEn : Hid (τ.inq[m + j]? = some en) := by show τ.inq[m + j]? = some en; rw [List.getElem?_eq_getElem hql, hen]
      have zb : wr.cell? ⟨ug, uoff + m * 4 + j * 4, none⟩ = some (.int .u8 (en.b.toNat : Int)) := by
        have := (hs.cells rfl ((m + j) * 4 + 0) (u := .int .u8 (en.b.toNat : Int)) (by rw [pents_get τ.inq (m + j) hql 0 (by omega), hen]; rfl)).1
        rw [show uoff + m * 4 + j * 4 = uoff + ((m + j) * 4 + 0) by omega]; exact this
      obtain ⟨S, hSQ, hS1, hS2, hS3, hback⟩ := hQ.rebase
      have hgS : ug ∉ S := hS2 ug (by simp)
      have hec := echo_q S wr (ug :: x) b _ _ _ wr K hSQ (okτ.out.inq_ [] (by simp) (by simp)) hK en.b _ rfl
      rw [cells_inq, echo1_inq] at hec
      have hcb := cells_bound okτ.out en.b
      have HRep : Hid (τ.rep (m + j) = { τ.echo1 en.b with inq := τ.inq.set (m + j) { en with cells := τ.cellsOf en.b } }) := by
        show τ.rep (m + j) = _; unfold St.rep; rw [HEn.out]
      have HI2 : Hid (Inv K (τ.rep (m + j))) := okτ.out.rep (m + j)
      have HRp2 : Hid (St.reps p m τ0 = St.reps (p - (j + 1)) (m + (j + 1)) (τ.rep (m + j))) := by
        show St.reps p m τ0 = _
        rw [hreps.out, show p - j = (p - (j + 1)) + 1 by omega]; rfl
      have HPS : Hid ((pents τ.inq).set ((m + j) * 4 + 3) (.int .i64 (τ.cellsOf en.b)) = pents (τ.rep (m + j)).inq) := by
        show (pents τ.inq).set ((m + j) * 4 + 3) _ = _
        rw [HRep.out]
        have := pents_set τ.inq (m + j) hql (τ.cellsOf en.b)
        rw [hen] at this
        exact this.symm
      have HLn : Hid ((τ.rep (m + j)).inq.length = L) := by
        show (τ.rep (m + j)).inq.length = L
        rw [HRep.out]; dsimp only; rw [List.length_set]; exact hτl.out
      obtain ⟨cv, hcv⟩ : ∃ cv, τ.cellsOf en.b = cv := ⟨_, rfl⟩
      rw [hcv] at hec HPS hcb HRep
      have hg0 := (hgo ug rfl).2.2
      have HQ3 : Hid (({ τ.rep (m + j) with inq := [] } : St) = { τ.echo1 en.b with inq := [] }) := by
        show ({ τ.rep (m + j) with inq := [] } : St) = _; rw [HRep.out]
      clear hQ hSQ hreps okτ HEn HRep hcv hS1 hS2 hS3
      have hoff : Hid (uoff + m * 4 + j * 4 + 3 = uoff + ((m + j) * 4 + 3)) := by show _ = _; omega
      go_wp2_with (go_at_call 103; refine hec.mono ?_; rintro e W4 ⟨rfl, hQ4⟩; have hs4 : Sl W4 112 4 (.slice (some ⟨ug, uoff, none⟩) τ0.inq.length cc) τ0.inq.length (pents τ.inq) (some ug) := hs.same (fun g e => by cases e; exact hQ4.kp.block ug (hs.lt rfl) hgS); have hQ5 := hback _ _ hQ4; have zc : W4.cell? ⟨ug, uoff + m * 4 + j * 4 + 3, none⟩ = some (.int .i64 en.cells) := (by rw [hoff.out]; exact (hs4.cells rfl ((m + j) * 4 + 3) (u := .int .i64 en.cells) (by rw [pents_get τ.inq (m + j) hql 3 (by omega), hen]; rfl)).1); have fc : W4.frozen? ⟨ug, uoff + m * 4 + j * 4 + 3, none⟩ = false := hs4.frozenAt rfl _)
      have hQ6 := hQ5.poke (g := ug) (by simp) hg0 (uoff + m * 4 + j * 4 + 3) (.int .i64 cv)
      have hs6 := hs4.poke ((m + j) * 4 + 3) (.int .i64 cv)
      rw [← hoff.out, HPS.out] at hs6
      rw [← HQ3.out] at hQ6
      go_roundg (gk - 1)
      case measure => omega
      case rel => exact ⟨j + 1, τ.rep (m + j), by omega, by go_num, hQ6, hs6, HLn, HI2, HRp2⟩
    · obtain rfl : j = p := by omega
      have HE : Hid (σ.reprint c = τ) := by
        show σ.reprint c = τ
        rw [HR.out, hreps.out, Nat.sub_self]; rfl
      have hs3 : Sl wr 112 4 (.slice ai τ0.inq.length cc) τ.inq.length (pents τ.inq) o := by
        rw [show τ.inq.length = τ0.inq.length by rw [HL.out, hτl.out]]; exact hs
      have hB : AtP S0 w0 x b τ wr := hQ.back (l := τ.inq) hs3 hgo
      clear hQ hs hs3 hreps HR HAD
      go_wp2
      go_end0
      exact ⟨rfl, by rw [HE.out]; exact hB⟩
end
end Go.Proofs.YtfnglkhhmplejaaGreat
