/- Walks: clackkeep.Raised. -/
import Derived.Test.YtfnglkhhmplejaaKW3
import Derived.Test.YtfnglkhhmplejaaKLy
namespace Go.Clk
open Go
theorem Ed.sent {l : Int} {p : List UInt8} {q : Bool} {ns : List Int} {σ : St} (h : Ed l p q ns { σ with out := [] }) {C K : Int} (ok : InvC C K σ) : Ed l p q ns (σ.drain 1099511627776).1 := by
  have e : (σ.drain 1099511627776).1 = { σ with out := [] } := by
    rw [drain_all σ _ h.urg h.stopped (by have := ok.out; omega)]
  rw [e]; exact h
end Go.Clk
namespace Go.Proofs.Ytfnglkhhmplejaa
open Go Go.RowKit Go.Clk
def skipR (c : UInt8) (n : Nat) : Bool := (((((c.toNat : Int) == 17) || ((c.toNat : Int) == 19)) || ((c.toNat : Int) == 18)) || (decide (200 ≤ n) && ((c.toNat : Int) != 10)))
theorem skipR_no {c : UInt8} {n : Nat} (h : skipR c n = false) : c.toNat ≠ 17 ∧ c.toNat ≠ 19 ∧ c.toNat ≠ 18 ∧ (n < 200 ∨ c.toNat = 10) := by
  unfold skipR at h
  simp at h
  omega
theorem raised_cells (l : Int) : (i64s newS.ss).set 2 (.int .i64 l) = i64s (edSet l) := ed_cells l
theorem raised_first : i64s newS.ss = i64s (edSet 735) := rfl
theorem raised_or : bits .or .i64 735 256 = 991 := by kernel_rfl
/-- The list told: what it is, and what is kept. -/
theorem TSignals_q {S0 : List Nat} {w0 w : World} {x : List Nat} {b : Nat} {σ : St} (h : AtT S0 w0 x b σ w) :
    Calls Try.prog 23 #[.pointer (some ⟨b, 0, none⟩)] w fun e w' => ∃ v o, e = .returned v ∧ Sl w' 3 1 v σ.noted.length (i64s σ.noted) o ∧ AtT S0 w0 (o.toList ++ x) b σ.signals.1 w' ∧ Kq x w w' := by
  obtain ⟨S, h1, h2, h3, h4, h5⟩ := h.rebase
  refine (TSignals S w x b σ w h1).mono ?_
  rintro e w' ⟨v, o, he, hs, ho, hA⟩
  refine ⟨v, o, he, hs, ?_, S, hA.kp, h3⟩
  obtain ⟨ρ, hsm, ⟨vi, vu, vo, vs, hp, hA⟩⟩ := hA
  refine ⟨ρ, hsm, vi, vu, vo, vs, hp, ?_⟩
  obtain ⟨os, q1, q2, q3, q4, q5⟩ := hA
  have hk0 := h.kp
  refine ⟨os, q1, hk0.trans q2 fun k hk => (h4 k hk), ?_, ?_, q5⟩
  · rcases q3 with q | q
    · exact h4 _ q
    · exact .inr (Nat.le_trans hk0.size q)
  · intro k g hg
    rcases q4 k g hg with q | q
    · exact h4 _ q
    · exact .inr (Nat.le_trans hk0.size q)
set_option maxHeartbeats 20000000 in
set_option maxRecDepth 100000 in
theorem raised_walk (w : World) (s : ByteArray) (hs : s.size ≤ 1048576) (keep : Bool) :
    Calls Try.prog 5 #[.string s, .bool keep] w fun e w' => e = .returned (.bool true) ∧ Below w.heap.size w w' := by
  obtain ⟨i0, hi, hz0, hz1, hz2⟩ := info_parts info_u8
  obtain ⟨j0, hji, hj0, hj1, hj2⟩ := info_parts info_int
  have HB := begin_any w
  obtain ⟨l, hl⟩ : ∃ l : Int, (if keep then 991 else 735) = l := ⟨_, rfl⟩
  have hl256 : bit l 256 = keep := by rw [← hl]; cases keep <;> decide
  have hlb : bit l 1 = true ∧ bit l 2 = true ∧ bit l 512 = true ∧ 0 ≤ l ∧ l < 1024 := by rw [← hl]; cases keep <;> decide
  obtain ⟨hed, hiv⟩ := Ed.begin l hlb.2.2.2.1 hlb.2.2.2.2 hlb.1 hlb.2.1 hlb.2.2.1
  have HE0 : Hid (Ed l [] false [] (newS.change (edSet l)).look) := hed
  have HI0 : Hid (Inv (10 + 8000 * ((0 : Nat) : Int)) (newS.change (edSet l)).look) := Go.Clk.Inv.mk hiv (by omega) (by omega)
  have HW0 : Hid (Well (newS.change (edSet l)).look) := (from_look _).well (Well.new.change _)
  have HC : Hid (∀ b W x, AtT [] w x b newS W → Calls Try.prog 11 #[.pointer (some ⟨b, 0, none⟩), .agg (i64s (edSet l)).toArray] W fun e w' => e = .returned (.bool true) ∧ AtT [] w x b (newS.change (edSet l)).look w') := fun b W x hW => kchange_any [] w x b newS W 0 hW Inv.new (by omega) Well.new (edSet l) rfl
  have HLK : Hid ((if keep then (991 : Int) else 735) = l) := hl
  clear hed hiv hlb hl
  generalize (newS.change (edSet l)).look = σ0 at *
  have HL256 : Hid (bit l 256 = keep) := hl256
  clear hl256
  go_enter Try.func5, Try.ntmps5
  go_wp2_with (first
    | (go_at_call 9; refine HB.mono ?_; clear HB; rintro e W1 ⟨b, rfl, hW1⟩)
    | (go_at_call 10; refine (TGet [] w [] b newS _ hW1).mono ?_; rintro e W2 ⟨rfl, hW2⟩)
    | (refine wpList_store_whole rfl (.tmp 6) (.tmp 25) 26 rfl W2.heap.size rfl (i64s newS.ss) rfl 26 zero17 (Blk.new W2 _ _) rfl rfl (i64s_one _) ?_))
  intro W hbk hgW hsz
  obtain ⟨B, hB⟩ : ∃ B, W2.heap.size = B := ⟨_, rfl⟩
  have hW3 : AtT [] w [B] b newS W := by
    have := (hW2.boxed (.cells zero17.toArray 26)).grown hgW fun g e => by cases e; exact ⟨by simp, hW2.kp.size⟩
    rw [hB] at this; exact this
  have hBw : w.heap.size ≤ B := by rw [← hB]; exact hW2.kp.size
  rw [hB] at hbk ⊢
  have HBk : Hid (Blk W B 26 (i64s newS.ss)) := hbk
  have c2 := hbk.cell 2 (v := .int .i64 735) rfl
  have f2 := hbk.frozen 2
  clear hgW hsz hB hW2 hW1 hbk
  go_upto_if 26 with fail
  go_cut [6] (fun s6 wx => s6 = .pointer (some ⟨B, 0, none⟩) ∧ Hid (Blk wx B 26 (i64s (edSet l))) ∧ AtT [] w [B] b newS wx)
  case first =>
    have hor := raised_or
    cases keep with
    | true =>
      have HX : Hid (Blk (W.setCell ⟨B, 2, none⟩ (.int .i64 991)) B 26 (i64s (edSet l))) := by
        have := HBk.out.set 2 (.int .i64 991)
        rw [raised_cells] at this
        rw [← HLK.out]; exact this
      have hX2 := hW3.poke (g := B) (by simp) hBw 2 (.int .i64 991)
      go_wp2_with fail
      all_goals (go_meet; exact ⟨rfl, HX, hX2⟩)
    | false =>
      have HX : Hid (Blk W B 26 (i64s (edSet l))) := by
        have := HBk.out
        rw [raised_first] at this
        rw [← HLK.out]; exact this
      go_wp2_with fail
      all_goals (go_meet; exact ⟨rfl, HX, hW3⟩)
  case rest =>
  obtain ⟨rfl, HBk2, hW4⟩ := hcut
  have hsl : (i64s (edSet l)).length = 17 := rfl
  clear c2 f2 HBk hW3 HLK
  go_wp2_with (refine wpList_load_part rfl (.tmp 6) 26 rfl B 0 rfl (i64s (edSet l)) _ (fun j v hv => by rw [Nat.zero_add]; exact HBk2.out.cell j hv) Try.underlying26 rfl (by rw [hsl]; exact size_settings2) ?_)
  refine (HC.out b _ [B] hW4).mono ?_
  clear hW4 HC HBk2 hsl
  rintro e W5 ⟨rfl, hW5⟩
  have hW5 : AtT [] w [] b σ0 W5 := hW5.weaken fun g hg => by cases hg
  clear hBw
  go_wp2_with (refine wpList_box rfl (.tmp 36) 32 rfl [.slice none 0 0, .bool false, .bool false] rfl ?_)
  intro W6 L0 hid
  have hln0 : LW w L0 none none [] false false [] (.slice none 0 0) W6 := by
    obtain ⟨rfl, rfl⟩ := hid.out
    exact ⟨⟨⟨_, Blk.new W5 _ _, Sl.nil _ _ _⟩, fun g e => by cases e⟩, Sl.nil _ _ _, (fun g e => by cases e), hW5.kp.size, (fun g e => by cases e), (fun g e => by cases e)⟩
  have hW6 : AtT [] w (xs3 L0 none none) b σ0 W6 := by obtain ⟨rfl, rfl⟩ := hid.out; exact hW5.boxed _
  clear hid hW5
  go_wp2_with fail
  go_loopg [8, 9, 10, 11, 12, 13, 14, 15, 16] s.size (fun kk lv wantv qv iv _ _ _ _ _ wr => ∃ (j L : Nat) (o ow : Option Nat) (p : List UInt8) (q : Bool) (ns : List Int) (wv : Value) (σ : St), j + kk = s.size ∧ lv = .pointer (some ⟨L, 0, none⟩) ∧ wantv = wv ∧ qv = .bool q ∧ iv = .int .i64 j ∧ AtT [] w (xs3 L o ow) b σ wr ∧ Hid (LW w L o ow p false false ns wv wr) ∧ Hid (Ed l p q ns σ) ∧ Hid (Inv (10 + 8000 * (j : Int)) σ) ∧ Hid (Well σ) ∧ p.length ≤ 200 ∧ ns.length ≤ j ∧ (q = true → p.length ≤ 199))
  case atStart => exact ⟨0, L0, none, none, [], false, [], _, σ0, by omega, rfl, rfl, rfl, rfl, hW6, hln0, HE0, HI0, HW0, by simp, by simp, (fun h => by cases h)⟩
  case round =>
    clear hW6 hln0 HE0 HI0 HW0
    obtain ⟨j, L, o, ow, p, q, ns, wv, σ, hj, rfl, rfl, rfl, rfl, hR, hln, hed, hiv, hwl, hp, hns, hq199⟩ := hrel
    obtain ⟨v, hlb, hlsl⟩ := hln.out.ln.ex
    obtain ⟨la, lcap, rfl, _, _⟩ := hlsl.shape
    have k0 := hlb.cell 0 rfl
    clear hlb hlsl
    obtain ⟨wa, wcap, rfl, _, _⟩ := hln.out.sl.shape
    by_cases hlt : j < s.size
    · have hlt' : (j : Int) < (s.size : Int) := by omega
      obtain ⟨e1, e2⟩ := one_byte s j hlt
      obtain ⟨sk, hsk⟩ : ∃ sk : Bool, skipR s[j] p.length = sk := ⟨_, rfl⟩
      have HSK : Hid (skipR s[j] p.length = sk) := hsk
      clear hsk
      go_upto_region 17 with fail
      go_cut [68] (fun s68 wx => s68 = .bool sk ∧ wx = wr)
      case first =>
        have HS2 : Hid (sk = (((((s[j].toNat : Int) == 17) || ((s[j].toNat : Int) == 19)) || ((s[j].toNat : Int) == 18)) || (decide (200 ≤ p.length) && ((s[j].toNat : Int) != 10)))) := HSK.out.symm
        cases h17 : ((s[j].toNat : Int) == 17) with
        | true =>
          have e3 : sk = true := by rw [HS2.out, h17]; rfl
          subst e3
          go_wp2_with fail
          all_goals (go_meet; exact ⟨rfl, rfl⟩)
        | false =>
          cases h19 : ((s[j].toNat : Int) == 19) with
          | true =>
            have e3 : sk = true := by rw [HS2.out, h17, h19]; rfl
            subst e3
            go_wp2_with fail
            all_goals (go_meet; exact ⟨rfl, rfl⟩)
          | false =>
            cases h18 : ((s[j].toNat : Int) == 18) with
            | true =>
              have e3 : sk = true := by rw [HS2.out, h17, h19, h18]; rfl
              subst e3
              go_wp2_with fail
              all_goals (go_meet; exact ⟨rfl, rfl⟩)
            | false =>
              by_cases h200 : 200 ≤ p.length
              · have e3 : ((s[j].toNat : Int) != 10) = sk := by rw [HS2.out, h17, h19, h18, decide_eq_true h200]; rfl
                have h200' : (200 : Int) ≤ (p.length : Int) := by omega
                go_wp2_with fail
                all_goals (go_meet; exact ⟨by first | rfl | rw [e3], rfl⟩)
              · have e3 : sk = false := by rw [HS2.out, h17, h19, h18, decide_eq_false h200]; rfl
                subst e3
                have h200' : ¬ (200 : Int) ≤ (p.length : Int) := by omega
                go_wp2_with fail
                all_goals (go_meet; exact ⟨rfl, rfl⟩)
      case rest =>
      obtain ⟨rfl, hw1⟩ := hcut
      have hw1 := hw1.symm
      subst hw1
      cases sk with
      | true =>
        have HI2 : Hid (Inv (10 + 8000 * ((j + 1 : Nat) : Int)) σ) := hiv.out.mono (by omega)
        go_wp2_with fail
        go_roundg (gk - 1)
        case measure => omega
        case rel => exact ⟨j + 1, L, o, ow, p, q, ns, _, σ, by omega, rfl, rfl, rfl, by go_num, hR, hln, hed, HI2, hwl, hp, by omega, hq199⟩
      | false =>
        obtain ⟨d17, d19, d18, hcn⟩ := skipR_no HSK.out
        have HRc : Hid (∀ W x, AtT [] w x b σ W → Calls Try.prog 13 #[.pointer (some ⟨b, 0, none⟩), .int .i64 0, .string (s.extract j (j + 1))] W fun e w' => e = .returned (.int .i64 0) ∧ AtT [] w x b (σ.good s[j]).look w' ∧ Kq x W w') := fun W x hW => hW.calls fun S u h => by
          have := TReceive S u x b σ W _ h hiv.out hwl.out 0 (s.extract j (j + 1)) (by rw [e2]; simp [maxLen]) (by rw [e2]; omega)
          rw [e1, show σ.receive 0 [s[j]] = ((σ.good s[j]).look, 0) from rfl] at this
          exact this
        have hwg : Well (σ.good s[j]).look := ((from_good σ s[j]).trans (from_look _)).well hwl.out
        have hwd : Well ((σ.good s[j]).look.drain 1099511627776).1 := (from_drain _ _).well hwg
        have hig : Inv (10 + 8000 * (j : Int) + 2048 + 1) (σ.good s[j]).look := (hiv.out.good s[j]).look
        have HAl : Hid (∀ W x, AtT [] w x b (σ.good s[j]).look W → ∃ ds, Calls Try.prog 15 #[.pointer (some ⟨b, 0, none⟩)] W fun e w' => e = .returned (.string ds) ∧ AtT [] w x b ((σ.good s[j]).look.drain 1099511627776).1 w' ∧ Kq x W w') := fun W x hW => ⟨_, hW.calls fun S u h => all_any S u x b _ W _ h hig (by omega)⟩
        have hsk : True := trivial
        clear HSK e1 e2
        cases q with
        | true =>
          have HE2 : Hid (Ed l (p ++ [s[j]]) false ns ((σ.good s[j]).look.drain 1099511627776).1) := (hed.out.quotedB s[j] (by omega)).2.sent hig
          have HI2 : Hid (Inv (10 + 8000 * ((j + 1 : Nat) : Int)) ((σ.good s[j]).look.drain 1099511627776).1) := (hig.drain 1099511627776).mono (by omega)
          have HW2 : Hid (Well ((σ.good s[j]).look.drain 1099511627776).1) := hwd
          clear hed hiv hwl hig hwd hwg
          generalize ((σ.good s[j]).look.drain 1099511627776).1 = σ2 at *
          generalize (σ.good s[j]).look = σ1 at *
          have hq200 : p.length + 1 ≤ 200 := by have := hq199 rfl; omega
          clear hcn hq199 hsk
          go_wp2_with (first
            | (go_at_call 13; refine (HRc.out _ _ hR).mono ?_; clear HRc; rintro e V1 ⟨rfl, hV1, hk1⟩; have hn1 := hln.out.kq hk1)
            | (go_at_call 15; obtain ⟨ds, hal⟩ := HAl.out _ _ hV1; refine hal.mono ?_; clear hal HAl; rintro e V2 ⟨rfl, hV2, hk2⟩; have hn2 := hn1.kq hk2; obtain ⟨la2, lcap2, lc0, lsl, HEp⟩ := hn2.ln.push s[j]; have HEq : Hid _ := HEp; clear HEp)
            | (at_builtin; refine wpList_append_sl rfl (.tmp 90) (.tmp 92) 30 30 rfl lsl rfl i0 (.int .u8 0) 1 Try.underlying30 hi hz0 hz1 hz2 rfl (.slice (some ⟨V2.heap.size, 0, none⟩) 1 1) 1 [.int .u8 s[j].toNat] rfl ?src ?b1 ?b2 ?next))
          case src => exact (Sl.made V2 [.int .u8 s[j].toNat] 1 5 1 rfl (by simp [maxLen])).src Try.underlying30 (by intro u hu; simp at hu; subst hu; rfl)
          case b1 => unfold maxLen; omega
          case b2 => omega
          case next =>
            intro a' cap' w1 oz hs1 hg1 ho1
            obtain ⟨⟨k0, k1⟩, o2, hn3, ht3⟩ := HEq.out a' cap' w1 oz hs1 hg1 ho1
            obtain ⟨hn4, hV4⟩ := hn2.line hV2 hn3 ht3
            obtain ⟨v3, hb3, _⟩ := hn4.ln.ex
            have k3 := hb3.cell 1 rfl
            clear hs1 hg1 ho1 HEq hb3 lsl lc0 hn3 ht3 hn2 hn1 hk1 hk2 hV1 hV2
            go_wp2_with fail
            go_roundg (gk - 1)
            case measure => omega
            case rel => exact ⟨j + 1, L, o2, ow, p ++ [s[j]], false, ns, _, σ2, by omega, rfl, rfl, rfl, by go_num, hV4, hn4, HE2, HI2, HW2, by simp; omega, by omega, (fun h => by cases h)⟩
        | false =>
          clear hq199
          cases h22 : ((s[j].toNat : Int) == 22) with
          | true =>
            have hs22 : s[j] = 22 := UInt8.toNat_inj.1 (by simp at h22; show s[j].toNat = 22; omega)
            clear d17 d19 d18
            have HE2 : Hid (Ed l p true ns ((σ.good s[j]).look.drain 1099511627776).1) := (by rw [hs22]; exact (hed.out.quote).2.sent (by rw [← hs22]; exact hig))
            have HI2 : Hid (Inv (10 + 8000 * ((j + 1 : Nat) : Int)) ((σ.good s[j]).look.drain 1099511627776).1) := (hig.drain 1099511627776).mono (by omega)
            have HW2 : Hid (Well ((σ.good s[j]).look.drain 1099511627776).1) := hwd
            clear hed hiv hwl hig hwd hwg
            generalize ((σ.good s[j]).look.drain 1099511627776).1 = σ2 at *
            generalize (σ.good s[j]).look = σ1 at *
            have hp199 : p.length ≤ 199 := by
              have h5 : s[j].toNat = 22 := by rw [hs22]; rfl
              omega
            clear hs22 hsk
            clear hcn
            go_wp2_with (first
              | (go_at_call 13; refine (HRc.out _ _ hR).mono ?_; clear HRc; rintro e V1 ⟨rfl, hV1, hk1⟩; have hn1 := hln.out.kq hk1)
              | (go_at_call 15; obtain ⟨ds, hal⟩ := HAl.out _ _ hV1; refine hal.mono ?_; clear hal HAl; rintro e V2 ⟨rfl, hV2, hk2⟩; have hn2 := hn1.kq hk2; obtain ⟨v3, hb3, _⟩ := hn2.ln.ex; have k3 := hb3.cell 1 rfl; clear hb3))
            go_roundg (gk - 1)
            case measure => omega
            case rel => exact ⟨j + 1, L, o, ow, p, true, ns, _, σ2, by omega, rfl, rfl, rfl, by go_num, hV2, hn2, HE2, HI2, HW2, hp, by omega, (fun _ => hp199)⟩
          | false =>
            cases h3 : ((s[j].toNat : Int) == 3) with
            | true =>
              have hsg : s[j].toNat = 3 ∧ (1 : Int) = 1 ∨ s[j].toNat = 28 ∧ (1 : Int) = 2 ∨ s[j].toNat = 26 ∧ (1 : Int) = 3 := by simp at h3; omega
              clear d17 d19 d18
              cases keep with
              | true =>
                have hl256 := HL256.out
                have HE2 : Hid (Ed l p false (ns ++ [1]) ((σ.good s[j]).look.drain 1099511627776).1) := (by have := (hed.out.signal s[j] 1 hsg).2.sent hig; rw [if_pos hl256] at this; exact this)
                have HI2 : Hid (Inv (10 + 8000 * ((j + 1 : Nat) : Int)) ((σ.good s[j]).look.drain 1099511627776).1) := (hig.drain 1099511627776).mono (by omega)
                have HW2 : Hid (Well ((σ.good s[j]).look.drain 1099511627776).1) := hwd
                clear hed hiv hwl hig hwd hwg
                generalize ((σ.good s[j]).look.drain 1099511627776).1 = σ2 at *
                generalize (σ.good s[j]).look = σ1 at *
                clear hsg hsk hcn
                go_wp2_with (first
                  | (go_at_call 13; refine (HRc.out _ _ hR).mono ?_; clear HRc; rintro e V1 ⟨rfl, hV1, hk1⟩; have hn1 := hln.out.kq hk1)
                  | (go_at_call 15; obtain ⟨ds, hal⟩ := HAl.out _ _ hV1; refine hal.mono ?_; clear hal HAl; rintro e V2 ⟨rfl, hV2, hk2⟩; have hn2 := hn1.kq hk2; have hss2 := hn2.sl.alloc (.cells #[.int .i64 1] 3))
                  | (at_builtin; refine wpList_append_sl rfl (.tmp 110) (.tmp 112) 45 45 rfl hss2 rfl j0 (.int .i64 0) 8 Try.underlying45 hji hj0 hj1 hj2 rfl (.slice (some ⟨V2.heap.size, 0, none⟩) 1 1) 1 [.int .i64 1] rfl ?src ?b1 ?b2 ?next))
                case src => exact (Sl.made V2 [.int .i64 1] 1 3 1 rfl (by simp [maxLen])).src Try.underlying45 (by intro u hu; simp at hu; subst hu; rfl)
                case b1 => unfold maxLen; omega
                case b2 => omega
                case next =>
                  intro a' cap' w1 oz hs1 hg1 ho1
                  obtain ⟨hn3, hV3⟩ := hn2.note hV2 1 hs1 hg1 ho1
                  obtain ⟨v3, hb3, _⟩ := hn3.ln.ex
                  have k3 := hb3.cell 1 rfl
                  clear hs1 hg1 ho1 hb3 hss2 hn2 hn1 hk1 hk2 hV1 hV2
                  go_wp2_with fail
                  go_roundg (gk - 1)
                  case measure => omega
                  case rel => exact ⟨j + 1, L, o, oz, p, false, ns ++ [1], _, σ2, by omega, rfl, rfl, rfl, by go_num, hV3, hn3, HE2, HI2, HW2, hp, by simp; omega, (fun h => by cases h)⟩
              | false =>
                have hl256 := HL256.out
                have HE2 : Hid (Ed l [] false (ns ++ [1]) ((σ.good s[j]).look.drain 1099511627776).1) := (by have := (hed.out.signal s[j] 1 hsg).2.sent hig; rw [if_neg (by rw [hl256]; decide)] at this; exact this)
                have HI2 : Hid (Inv (10 + 8000 * ((j + 1 : Nat) : Int)) ((σ.good s[j]).look.drain 1099511627776).1) := (hig.drain 1099511627776).mono (by omega)
                have HW2 : Hid (Well ((σ.good s[j]).look.drain 1099511627776).1) := hwd
                clear hed hiv hwl hig hwd hwg
                generalize ((σ.good s[j]).look.drain 1099511627776).1 = σ2 at *
                generalize (σ.good s[j]).look = σ1 at *
                clear hsg hsk hcn
                go_wp2_with (first
                  | (go_at_call 13; refine (HRc.out _ _ hR).mono ?_; clear HRc; rintro e V1 ⟨rfl, hV1, hk1⟩; have hn1 := hln.out.kq hk1)
                  | (go_at_call 15; obtain ⟨ds, hal⟩ := HAl.out _ _ hV1; refine hal.mono ?_; clear hal HAl; rintro e V2 ⟨rfl, hV2, hk2⟩; have hn2 := hn1.kq hk2; have hss2 := hn2.sl.alloc (.cells #[.int .i64 1] 3))
                  | (at_builtin; refine wpList_append_sl rfl (.tmp 110) (.tmp 112) 45 45 rfl hss2 rfl j0 (.int .i64 0) 8 Try.underlying45 hji hj0 hj1 hj2 rfl (.slice (some ⟨V2.heap.size, 0, none⟩) 1 1) 1 [.int .i64 1] rfl ?src ?b1 ?b2 ?next))
                case src => exact (Sl.made V2 [.int .i64 1] 1 3 1 rfl (by simp [maxLen])).src Try.underlying45 (by intro u hu; simp at hu; subst hu; rfl)
                case b1 => unfold maxLen; omega
                case b2 => omega
                case next =>
                  intro a' cap' w1 oz hs1 hg1 ho1
                  obtain ⟨hn3, hV3⟩ := hn2.note hV2 1 hs1 hg1 ho1
                  clear hs1 hg1 ho1 hss2 hn2 hn1 hk1 hk2 hV1 hV2
                  go_wp2_with (refine wpList_box rfl (.tmp 116) 32 rfl [.slice none 0 0, .bool false, .bool false] rfl ?_)
                  intro V5 L2 hid
                  obtain ⟨hn5, hV5⟩ := hn3.fresh hV3 V5 L2 hid.out
                  obtain ⟨v3, hb3, _⟩ := hn5.ln.ex
                  have k3 := hb3.cell 1 rfl
                  clear hid hb3 hn3 hV3
                  go_wp2_with fail
                  go_roundg (gk - 1)
                  case measure => omega
                  case rel => exact ⟨j + 1, L2, none, oz, [], false, ns ++ [1], _, σ2, by omega, rfl, rfl, rfl, by go_num, hV5, hn5, HE2, HI2, HW2, by simp, by simp; omega, (fun h => by cases h)⟩
            | false =>
              cases h28 : ((s[j].toNat : Int) == 28) with
              | true =>
                have hsg : s[j].toNat = 3 ∧ (2 : Int) = 1 ∨ s[j].toNat = 28 ∧ (2 : Int) = 2 ∨ s[j].toNat = 26 ∧ (2 : Int) = 3 := by simp at h28; omega
                clear d17 d19 d18
                cases keep with
                | true =>
                  have hl256 := HL256.out
                  have HE2 : Hid (Ed l p false (ns ++ [2]) ((σ.good s[j]).look.drain 1099511627776).1) := (by have := (hed.out.signal s[j] 2 hsg).2.sent hig; rw [if_pos hl256] at this; exact this)
                  have HI2 : Hid (Inv (10 + 8000 * ((j + 1 : Nat) : Int)) ((σ.good s[j]).look.drain 1099511627776).1) := (hig.drain 1099511627776).mono (by omega)
                  have HW2 : Hid (Well ((σ.good s[j]).look.drain 1099511627776).1) := hwd
                  clear hed hiv hwl hig hwd hwg
                  generalize ((σ.good s[j]).look.drain 1099511627776).1 = σ2 at *
                  generalize (σ.good s[j]).look = σ1 at *
                  clear hsg hsk hcn
                  go_wp2_with (first
                    | (go_at_call 13; refine (HRc.out _ _ hR).mono ?_; clear HRc; rintro e V1 ⟨rfl, hV1, hk1⟩; have hn1 := hln.out.kq hk1)
                    | (go_at_call 15; obtain ⟨ds, hal⟩ := HAl.out _ _ hV1; refine hal.mono ?_; clear hal HAl; rintro e V2 ⟨rfl, hV2, hk2⟩; have hn2 := hn1.kq hk2; have hss2 := hn2.sl.alloc (.cells #[.int .i64 2] 3))
                    | (at_builtin; refine wpList_append_sl rfl (.tmp 110) (.tmp 112) 45 45 rfl hss2 rfl j0 (.int .i64 0) 8 Try.underlying45 hji hj0 hj1 hj2 rfl (.slice (some ⟨V2.heap.size, 0, none⟩) 1 1) 1 [.int .i64 2] rfl ?src ?b1 ?b2 ?next))
                  case src => exact (Sl.made V2 [.int .i64 2] 1 3 1 rfl (by simp [maxLen])).src Try.underlying45 (by intro u hu; simp at hu; subst hu; rfl)
                  case b1 => unfold maxLen; omega
                  case b2 => omega
                  case next =>
                    intro a' cap' w1 oz hs1 hg1 ho1
                    obtain ⟨hn3, hV3⟩ := hn2.note hV2 2 hs1 hg1 ho1
                    obtain ⟨v3, hb3, _⟩ := hn3.ln.ex
                    have k3 := hb3.cell 1 rfl
                    clear hs1 hg1 ho1 hb3 hss2 hn2 hn1 hk1 hk2 hV1 hV2
                    go_wp2_with fail
                    go_roundg (gk - 1)
                    case measure => omega
                    case rel => exact ⟨j + 1, L, o, oz, p, false, ns ++ [2], _, σ2, by omega, rfl, rfl, rfl, by go_num, hV3, hn3, HE2, HI2, HW2, hp, by simp; omega, (fun h => by cases h)⟩
                | false =>
                  have hl256 := HL256.out
                  have HE2 : Hid (Ed l [] false (ns ++ [2]) ((σ.good s[j]).look.drain 1099511627776).1) := (by have := (hed.out.signal s[j] 2 hsg).2.sent hig; rw [if_neg (by rw [hl256]; decide)] at this; exact this)
                  have HI2 : Hid (Inv (10 + 8000 * ((j + 1 : Nat) : Int)) ((σ.good s[j]).look.drain 1099511627776).1) := (hig.drain 1099511627776).mono (by omega)
                  have HW2 : Hid (Well ((σ.good s[j]).look.drain 1099511627776).1) := hwd
                  clear hed hiv hwl hig hwd hwg
                  generalize ((σ.good s[j]).look.drain 1099511627776).1 = σ2 at *
                  generalize (σ.good s[j]).look = σ1 at *
                  clear hsg hsk hcn
                  go_wp2_with (first
                    | (go_at_call 13; refine (HRc.out _ _ hR).mono ?_; clear HRc; rintro e V1 ⟨rfl, hV1, hk1⟩; have hn1 := hln.out.kq hk1)
                    | (go_at_call 15; obtain ⟨ds, hal⟩ := HAl.out _ _ hV1; refine hal.mono ?_; clear hal HAl; rintro e V2 ⟨rfl, hV2, hk2⟩; have hn2 := hn1.kq hk2; have hss2 := hn2.sl.alloc (.cells #[.int .i64 2] 3))
                    | (at_builtin; refine wpList_append_sl rfl (.tmp 110) (.tmp 112) 45 45 rfl hss2 rfl j0 (.int .i64 0) 8 Try.underlying45 hji hj0 hj1 hj2 rfl (.slice (some ⟨V2.heap.size, 0, none⟩) 1 1) 1 [.int .i64 2] rfl ?src ?b1 ?b2 ?next))
                  case src => exact (Sl.made V2 [.int .i64 2] 1 3 1 rfl (by simp [maxLen])).src Try.underlying45 (by intro u hu; simp at hu; subst hu; rfl)
                  case b1 => unfold maxLen; omega
                  case b2 => omega
                  case next =>
                    intro a' cap' w1 oz hs1 hg1 ho1
                    obtain ⟨hn3, hV3⟩ := hn2.note hV2 2 hs1 hg1 ho1
                    clear hs1 hg1 ho1 hss2 hn2 hn1 hk1 hk2 hV1 hV2
                    go_wp2_with (refine wpList_box rfl (.tmp 116) 32 rfl [.slice none 0 0, .bool false, .bool false] rfl ?_)
                    intro V5 L2 hid
                    obtain ⟨hn5, hV5⟩ := hn3.fresh hV3 V5 L2 hid.out
                    obtain ⟨v3, hb3, _⟩ := hn5.ln.ex
                    have k3 := hb3.cell 1 rfl
                    clear hid hb3 hn3 hV3
                    go_wp2_with fail
                    go_roundg (gk - 1)
                    case measure => omega
                    case rel => exact ⟨j + 1, L2, none, oz, [], false, ns ++ [2], _, σ2, by omega, rfl, rfl, rfl, by go_num, hV5, hn5, HE2, HI2, HW2, by simp, by simp; omega, (fun h => by cases h)⟩
              | false =>
                cases h26 : ((s[j].toNat : Int) == 26) with
                | true =>
                  have hsg : s[j].toNat = 3 ∧ (3 : Int) = 1 ∨ s[j].toNat = 28 ∧ (3 : Int) = 2 ∨ s[j].toNat = 26 ∧ (3 : Int) = 3 := by simp at h26; omega
                  clear d17 d19 d18
                  cases keep with
                  | true =>
                    have hl256 := HL256.out
                    have HE2 : Hid (Ed l p false (ns ++ [3]) ((σ.good s[j]).look.drain 1099511627776).1) := (by have := (hed.out.signal s[j] 3 hsg).2.sent hig; rw [if_pos hl256] at this; exact this)
                    have HI2 : Hid (Inv (10 + 8000 * ((j + 1 : Nat) : Int)) ((σ.good s[j]).look.drain 1099511627776).1) := (hig.drain 1099511627776).mono (by omega)
                    have HW2 : Hid (Well ((σ.good s[j]).look.drain 1099511627776).1) := hwd
                    clear hed hiv hwl hig hwd hwg
                    generalize ((σ.good s[j]).look.drain 1099511627776).1 = σ2 at *
                    generalize (σ.good s[j]).look = σ1 at *
                    clear hsg hsk hcn
                    go_wp2_with (first
                      | (go_at_call 13; refine (HRc.out _ _ hR).mono ?_; clear HRc; rintro e V1 ⟨rfl, hV1, hk1⟩; have hn1 := hln.out.kq hk1)
                      | (go_at_call 15; obtain ⟨ds, hal⟩ := HAl.out _ _ hV1; refine hal.mono ?_; clear hal HAl; rintro e V2 ⟨rfl, hV2, hk2⟩; have hn2 := hn1.kq hk2; have hss2 := hn2.sl.alloc (.cells #[.int .i64 3] 3))
                      | (at_builtin; refine wpList_append_sl rfl (.tmp 110) (.tmp 112) 45 45 rfl hss2 rfl j0 (.int .i64 0) 8 Try.underlying45 hji hj0 hj1 hj2 rfl (.slice (some ⟨V2.heap.size, 0, none⟩) 1 1) 1 [.int .i64 3] rfl ?src ?b1 ?b2 ?next))
                    case src => exact (Sl.made V2 [.int .i64 3] 1 3 1 rfl (by simp [maxLen])).src Try.underlying45 (by intro u hu; simp at hu; subst hu; rfl)
                    case b1 => unfold maxLen; omega
                    case b2 => omega
                    case next =>
                      intro a' cap' w1 oz hs1 hg1 ho1
                      obtain ⟨hn3, hV3⟩ := hn2.note hV2 3 hs1 hg1 ho1
                      obtain ⟨v3, hb3, _⟩ := hn3.ln.ex
                      have k3 := hb3.cell 1 rfl
                      clear hs1 hg1 ho1 hb3 hss2 hn2 hn1 hk1 hk2 hV1 hV2
                      go_wp2_with fail
                      go_roundg (gk - 1)
                      case measure => omega
                      case rel => exact ⟨j + 1, L, o, oz, p, false, ns ++ [3], _, σ2, by omega, rfl, rfl, rfl, by go_num, hV3, hn3, HE2, HI2, HW2, hp, by simp; omega, (fun h => by cases h)⟩
                  | false =>
                    have hl256 := HL256.out
                    have HE2 : Hid (Ed l [] false (ns ++ [3]) ((σ.good s[j]).look.drain 1099511627776).1) := (by have := (hed.out.signal s[j] 3 hsg).2.sent hig; rw [if_neg (by rw [hl256]; decide)] at this; exact this)
                    have HI2 : Hid (Inv (10 + 8000 * ((j + 1 : Nat) : Int)) ((σ.good s[j]).look.drain 1099511627776).1) := (hig.drain 1099511627776).mono (by omega)
                    have HW2 : Hid (Well ((σ.good s[j]).look.drain 1099511627776).1) := hwd
                    clear hed hiv hwl hig hwd hwg
                    generalize ((σ.good s[j]).look.drain 1099511627776).1 = σ2 at *
                    generalize (σ.good s[j]).look = σ1 at *
                    clear hsg hsk hcn
                    go_wp2_with (first
                      | (go_at_call 13; refine (HRc.out _ _ hR).mono ?_; clear HRc; rintro e V1 ⟨rfl, hV1, hk1⟩; have hn1 := hln.out.kq hk1)
                      | (go_at_call 15; obtain ⟨ds, hal⟩ := HAl.out _ _ hV1; refine hal.mono ?_; clear hal HAl; rintro e V2 ⟨rfl, hV2, hk2⟩; have hn2 := hn1.kq hk2; have hss2 := hn2.sl.alloc (.cells #[.int .i64 3] 3))
                      | (at_builtin; refine wpList_append_sl rfl (.tmp 110) (.tmp 112) 45 45 rfl hss2 rfl j0 (.int .i64 0) 8 Try.underlying45 hji hj0 hj1 hj2 rfl (.slice (some ⟨V2.heap.size, 0, none⟩) 1 1) 1 [.int .i64 3] rfl ?src ?b1 ?b2 ?next))
                    case src => exact (Sl.made V2 [.int .i64 3] 1 3 1 rfl (by simp [maxLen])).src Try.underlying45 (by intro u hu; simp at hu; subst hu; rfl)
                    case b1 => unfold maxLen; omega
                    case b2 => omega
                    case next =>
                      intro a' cap' w1 oz hs1 hg1 ho1
                      obtain ⟨hn3, hV3⟩ := hn2.note hV2 3 hs1 hg1 ho1
                      clear hs1 hg1 ho1 hss2 hn2 hn1 hk1 hk2 hV1 hV2
                      go_wp2_with (refine wpList_box rfl (.tmp 116) 32 rfl [.slice none 0 0, .bool false, .bool false] rfl ?_)
                      intro V5 L2 hid
                      obtain ⟨hn5, hV5⟩ := hn3.fresh hV3 V5 L2 hid.out
                      obtain ⟨v3, hb3, _⟩ := hn5.ln.ex
                      have k3 := hb3.cell 1 rfl
                      clear hid hb3 hn3 hV3
                      go_wp2_with fail
                      go_roundg (gk - 1)
                      case measure => omega
                      case rel => exact ⟨j + 1, L2, none, oz, [], false, ns ++ [3], _, σ2, by omega, rfl, rfl, rfl, by go_num, hV5, hn5, HE2, HI2, HW2, by simp, by simp; omega, (fun h => by cases h)⟩
                | false =>
                  have hc1 : s[j].toNat ≠ 3 ∧ s[j].toNat ≠ 28 ∧ s[j].toNat ≠ 26 ∧ s[j].toNat ≠ 17 ∧ s[j].toNat ≠ 19 := by simp at h3 h28 h26; omega
                  have hc2 : s[j].toNat ≠ 22 ∧ s[j].toNat ≠ 18 := by simp at h22; omega
                  clear d17 d19 d18
                  have HTy : Hid (∀ W, LnAt L o p false false W → Calls Try.prog 14 #[.pointer (some ⟨L, 0, none⟩), .int .u8 s[j].toNat, .bool true, .bool true] W fun e w' => e = .returned (.tuple #[]) ∧ ∃ o', LnAt L o' (typed true true p s[j]).1 (typed true true p s[j]).2.1 (typed true true p s[j]).2.2 w' ∧ LnTo L o o' W w') := fun W hW => typed_any L o p W hW (by omega) s[j] true true
                  cases hen : (typed true true p s[j]).2.1 with
                  | false =>
                    have hpn : p.length < 200 := by
                      rcases hcn with h | h
                      · exact h
                      · exfalso
                        unfold typed at hen; rw [if_neg (by omega), if_neg (by omega), if_neg (by omega), if_neg (by omega), if_pos (by omega)] at hen; cases hen
                    have hpl2 : (typed true true p s[j]).1.length ≤ 200 := by have := typed_len true true p s[j]; omega
                    have hfi : (typed true true p s[j]).2.2 = false := typed_file true true p s[j] hen
                    have hstp := (hed.out.step s[j] (by omega) hc1 hc2 hen).2.sent hig
                    rw [hen, hfi] at HTy
                    clear hen hfi hcn hc1 hc2
                    have HE2 : Hid (Ed l (typed true true p s[j]).1 false ns ((σ.good s[j]).look.drain 1099511627776).1) := hstp
                    have HI2 : Hid (Inv (10 + 8000 * ((j + 1 : Nat) : Int)) ((σ.good s[j]).look.drain 1099511627776).1) := (hig.drain 1099511627776).mono (by omega)
                    have HW2 : Hid (Well ((σ.good s[j]).look.drain 1099511627776).1) := hwd
                    clear hed hiv hwl hig hwd hwg
                    generalize ((σ.good s[j]).look.drain 1099511627776).1 = σ2 at *
                    generalize (σ.good s[j]).look = σ1 at *
                    clear hstp hsk
                    generalize (typed true true p s[j]).1 = p2 at *
                    go_wp2_with (first
                      | (go_at_call 13; refine (HRc.out _ _ hR).mono ?_; clear HRc; rintro e V1 ⟨rfl, hV1, hk1⟩; have hn1 := hln.out.kq hk1)
                      | (go_at_call 15; obtain ⟨ds, hal⟩ := HAl.out _ _ hV1; refine hal.mono ?_; clear hal HAl; rintro e V2 ⟨rfl, hV2, hk2⟩; have hn2 := hn1.kq hk2)
                      | (go_at_call 14; refine (HTy.out _ hn2.ln).mono ?_; clear HTy; rintro e V3 ⟨rfl, o2, hn3, ht3⟩; obtain ⟨hn4, hV4⟩ := hn2.line hV2 hn3 ht3; obtain ⟨v3, hb3, _⟩ := hn4.ln.ex; have k3 := hb3.cell 1 rfl; clear hb3 hn3 ht3))
                    go_roundg (gk - 1)
                    case measure => omega
                    case rel => exact ⟨j + 1, L, o2, ow, p2, false, ns, _, σ2, by omega, rfl, rfl, rfl, by go_num, hV4, hn4, HE2, HI2, HW2, hpl2, by omega, (fun h => by cases h)⟩
                  | true =>
                    obtain ⟨hu1, hu2, hr1, hr2, hed3⟩ := hed.out.fin s[j] (by omega) hc1 hc2 hen
                    have e1 : ((σ.good s[j]).look.drain 1099511627776).1 = { (σ.good s[j]).look with out := [] } := by
                      rw [drain_all _ _ hu1 hu2 (by have := hig.out; omega)]
                    rw [← e1] at hr1 hr2 hed3
                    have hlen2 := typed_len true true p s[j]
                    have HFe : Hid (∀ W x, AtT [] w x b ((σ.good s[j]).look.drain 1099511627776).1 W → Calls Try.prog 16 #[.pointer (some ⟨b, 0, none⟩), .int .i64 256] W fun e w' => e = .returned (.tuple #[.string (lineText (typed true true p s[j]).1 (typed true true p s[j]).2.2), .bool true]) ∧ AtT [] w x b (((σ.good s[j]).look.drain 1099511627776).1.read 256).1.take.1 w' ∧ Kq x W w') := fun W x hW => hW.calls fun S u h => by
                      have := kfetch_any S u x b _ W _ h (hig.drain 1099511627776) (by omega) hwd 256
                      have hf : fetched ((σ.good s[j]).look.drain 1099511627776).1 256 = true := by unfold fetched; rw [hr1, hr2]; rfl
                      rw [hf, hr2] at this
                      exact this
                    rw [hen] at HTy
                    have HE2 : Hid (Ed l [] false ns (((σ.good s[j]).look.drain 1099511627776).1.read 256).1.take.1) := hed3
                    have HI2 : Hid (Inv (10 + 8000 * ((j + 1 : Nat) : Int)) (((σ.good s[j]).look.drain 1099511627776).1.read 256).1.take.1) := by
                      have h5 : Inv _ (((σ.good s[j]).look.drain 1099511627776).1.read 256).1.take.1 := InvC.take ((hig.drain 1099511627776).read 256)
                      exact h5.mono (by omega)
                    have HW2 : Hid (Well (((σ.good s[j]).look.drain 1099511627776).1.read 256).1.take.1) := (from_take _).well ((from_read _ _).well hwd)
                    clear hu1 hu2 hr1 hr2 hed3 e1 hed hiv hwl hig hwd hwg hen hcn hc1 hc2 hsk
                    generalize (((σ.good s[j]).look.drain 1099511627776).1.read 256).1.take.1 = σ3 at *
                    generalize ((σ.good s[j]).look.drain 1099511627776).1 = σ2 at *
                    generalize (σ.good s[j]).look = σ1 at *
                    generalize (typed true true p s[j]).2.2 = fi at *
                    generalize (typed true true p s[j]).1 = p2 at *
                    go_wp2_with (first
                      | (go_at_call 13; refine (HRc.out _ _ hR).mono ?_; clear HRc; rintro e V1 ⟨rfl, hV1, hk1⟩; have hn1 := hln.out.kq hk1)
                      | (go_at_call 15; obtain ⟨ds, hal⟩ := HAl.out _ _ hV1; refine hal.mono ?_; clear hal HAl; rintro e V2 ⟨rfl, hV2, hk2⟩; have hn2 := hn1.kq hk2)
                      | (go_at_call 14; refine (HTy.out _ hn2.ln).mono ?_; clear HTy; rintro e V3 ⟨rfl, o2, hn3, ht3⟩; obtain ⟨hn4, hV4⟩ := hn2.line hV2 hn3 ht3; obtain ⟨v3, hb3, _⟩ := hn4.ln.ex; have k3 := hb3.cell 1 rfl; clear hb3 hn3 ht3)
                      | (go_at_call 16; refine (HFe.out _ _ hV4).mono ?_; clear HFe; rintro e V6 ⟨rfl, hV6, hk6⟩; have hn6 := hn4.kq hk6)
                      | (go_at_call 17; refine (text_any L o2 p2 true fi _ hn6.ln (by omega)).mono ?_; rintro e w' ⟨rfl, hw⟩; subst hw)
                      | (refine wpList_box rfl (.tmp 135) 32 rfl [.slice none 0 0, .bool false, .bool false] rfl ?_))
                    intro V7 L2 hid
                    obtain ⟨hn7, hV7⟩ := hn6.fresh hV6 V7 L2 hid.out
                    clear hid
                    go_wp2_with fail
                    go_roundg (gk - 1)
                    case measure => omega
                    case rel => exact ⟨j + 1, L2, none, ow, [], false, ns, _, σ3, by omega, rfl, rfl, rfl, by go_num, hV7, hn7, HE2, HI2, HW2, by simp, by omega, (fun h => by cases h)⟩
    · obtain rfl : j = s.size := by omega
      have hq := TSignals_q hR
      rw [hed.out.noted] at hq
      have hsz2 : σ.signals.1.noted = [] := rfl
      have HS2 : Hid (σ.signals.1.signals.1.inq.length = p.length ∧ σ.signals.1.signals.1.quoted = q) := ⟨hed.out.inq.len, hed.out.quoted⟩
      clear hed hiv hwl
      go_wp2_with (go_at_call 23; refine hq.mono ?_; clear hq; rintro e W1 ⟨v1, o1, rfl, hs1, hA1, hk1⟩)
      have hq2 := TSignals_q hA1
      rw [hsz2] at hq2
      refine hq2.mono ?_
      clear hq2
      rintro e W2 ⟨v2, o2, rfl, hs2, hA2, hk2⟩
      obtain ⟨a1, cap1, rfl, _, _⟩ := hs1.shape
      obtain ⟨a2, cap2, rfl, _, _⟩ := hs2.shape
      have hs1' := hk2.sl hs1 fun g e => by simp [e]
      have hln2 := (hln.out.kq hk1).kq (hk2.weaken fun g hg => List.mem_append_right _ hg)
      have HS1 : Hid (Sl W2 3 1 (.slice a1 ns.length cap1) ns.length (i64s ns) o1) := hs1'
      have HLN : Hid (LW w L o ow p false false ns (.slice wa ns.length wcap) W2) := hln2
      have HA2 : Hid (∀ d, AtT [] w (xs3 L o ow) b σ.signals.1.signals.1 (W2.drewN d)) := fun d => (hA2.drewN d).weaken fun g hg => List.mem_append_right _ (List.mem_append_right _ hg)
      clear hs1 hs1' hs2 hln2 hln hA1 hA2 hk1 hk2 hR hsz2
      generalize σ.signals.1.signals.1 = σ2 at *
      go_wp2_with fail
      go_loopg [19] ns.length (fun k iv wx => ∃ (i : Nat), i + k = ns.length ∧ iv = .int .i64 i ∧ Hid (AtT [] w (xs3 L o ow) b σ2 wx) ∧ Hid (LW w L o ow p false false ns (.slice wa ns.length wcap) wx) ∧ Hid (Sl wx 3 1 (.slice a1 ns.length cap1) ns.length (i64s ns) o1))
      case atStart => exact ⟨0, by omega, rfl, HA2.out 0, HLN, HS1⟩
      case round =>
        clear HA2 HLN HS1
        obtain ⟨i, hi2, rfl, HA2, HLN, HS1⟩ := hrel
        by_cases hil : i < ns.length
        · have hil' : (i : Int) < (ns.length : Int) := by omega
          obtain ⟨g1, f1, c1, he1, _⟩ := HS1.out.addr (by omega)
          obtain ⟨g2, f2, c2, he2, _⟩ := HLN.out.sl.addr (by omega)
          cases he1
          cases he2
          have kc1 := ((HS1.out.cells rfl i (u := .int .i64 ns[i]) (by simp [i64s, hil])).1)
          have kc2 := ((HLN.out.sl.cells rfl i (u := .int .i64 ns[i]) (by simp [i64s, hil])).1)
          generalize ns[i] = nv at *
          go_wp2_with fail
          go_quiet (fail)
          go_wp2_with fail
          go_roundg (gk - 1)
          case measure => omega
          case rel => exact ⟨i + 1, by omega, by go_num, HA2.out.drewN _, HLN.out.drewN _, HS1.out.same fun _ _ => rfl⟩
        · obtain rfl : i = ns.length := by omega
          obtain ⟨qq1, qq2⟩ := HS2.out
          have hA := HA2.out
          have HSt : Hid (∀ W, AtT [] w (xs3 L o ow) b σ2 W → Calls Try.prog 18 #[.pointer (some ⟨b, 0, none⟩)] W fun e w' => e = .returned (.agg (stL p.length σ2.out.length σ2.col σ2.stopped σ2.held q).toArray) ∧ AtT [] w (xs3 L o ow) b σ2 w' ∧ Kq (xs3 L o ow) W w') := fun W hW => hW.calls fun S u h => by
            have := TStatus S u (xs3 L o ow) b σ2 W h
            unfold statusV at this
            rw [qq1, qq2] at this
            exact this
          have hln3 := HLN.out
          clear HLN HS1 HS2 HA2 qq1 qq2
          go_wp2_with (first
            | (go_at_call 18; refine (HSt.out _ hA).mono ?_; clear HSt; rintro e V1 ⟨rfl, hV1, hk1⟩)
            | (refine wpList_store_whole rfl (.tmp 20) (.tmp 167) 42 rfl V1.heap.size rfl (stL p.length σ2.out.length σ2.col σ2.stopped σ2.held q) rfl 42 zero6 (Blk.new V1 _ _) rfl rfl (stL_one _ _ _ _ _ _) ?_))
          intro V2 hb2 hg2 hz2
          obtain ⟨hV2, hk2⟩ := hV1.filled _ hg2
          have hn2 := (hln3.kq hk1).kq hk2
          obtain ⟨v2, hb3, hs3⟩ := hn2.ln.ex
          obtain ⟨la2, lcap2, rfl, _, _⟩ := hs3.shape
          have k3 := hb3.cell 0 rfl
          have k4 := hb2.cell 0 rfl
          have k5 := hb2.cell 5 rfl
          have HKP : Hid (∀ k, Below w.heap.size w (V2.drewN k)) := fun k => below_of (hV2.drewN k)
          clear hb2 hb3 hs3 hg2 hz2 hV1 hk1 hk2 hV2 hn2 hln3 hA
          go_wp2_with fail
          go_quiet (fail)
          go_wp2
          go_ret
          exact ⟨ret_bool (by simp), HKP.out _⟩
end Go.Proofs.Ytfnglkhhmplejaa
