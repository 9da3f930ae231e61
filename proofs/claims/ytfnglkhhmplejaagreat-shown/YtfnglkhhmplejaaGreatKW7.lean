/- Walks: clackkeep.Shown. -/
import Derived.Test.YtfnglkhhmplejaaGreatKLz
import Derived.Deep.DeepCutAuto
import Derived.Deep.CutBlock
import Derived.BigQuiet
import Derived.Deep.QuietTactic
namespace Go.Proofs.YtfnglkhhmplejaaGreat
open Go Go.RowKit Go.Clk
theorem i64_or_nat (a b : Nat) (ha : a < 2 ^ 62) (hb : b < 2 ^ 62) : bits .or .i64 (a : Int) (b : Int) = ((a ||| b : Nat) : Int) := by
  have hx : a ||| b < 2 ^ 62 := Nat.or_lt_two_pow ha hb
  have e1 : ∀ n : Nat, n < 2 ^ 62 → (BitVec.ofInt 64 (n : Int)).toNat = n := fun n hn => by
    rw [BitVec.ofInt_natCast, BitVec.toNat_ofNat]; exact Nat.mod_eq_of_lt (by omega)
  show IntKind.i64.wrap ((BitVec.ofInt 64 (a : Int) ||| BitVec.ofInt 64 (b : Int)).toNat : Int) = _
  rw [BitVec.toNat_or, e1 a ha, e1 b hb]
  have e2 : ∀ n : Nat, n < 2 ^ 62 → IntKind.i64.wrap (n : Int) = n := fun n hn => by
    simp [IntKind.wrap, IntKind.bits, IntKind.signed]; omega
  exact e2 _ (by omega)
/-- Some flags of a raw number. -/
theorem i64_and_some (n : Int) (m : Nat) (hm : m < 2 ^ 62) : ∃ a : Nat, a ≤ m ∧ a &&& m = a ∧ bits .and .i64 n (m : Int) = (a : Int) := by
  refine ⟨(BitVec.ofInt 64 n).toNat &&& m, Nat.and_le_right, by rw [Nat.and_assoc, Nat.and_self], ?_⟩
  have e1 : (BitVec.ofInt 64 (m : Int)).toNat = m := by
    rw [BitVec.ofInt_natCast, BitVec.toNat_ofNat]; exact Nat.mod_eq_of_lt (by omega)
  show IntKind.i64.wrap ((BitVec.ofInt 64 n &&& BitVec.ofInt 64 (m : Int)).toNat : Int) = _
  rw [BitVec.toNat_and, e1]
  have hle : (BitVec.ofInt 64 n).toNat &&& m ≤ m := Nat.and_le_right
  generalize (BitVec.ofInt 64 n).toNat &&& m = k at *
  simp [IntKind.wrap, IntKind.bits, IntKind.signed]; omega
theorem one_byte (s : ByteArray) (j : Nat) (h : j < s.size) : (s.extract j (j + 1)).data.toList = [s[j]] ∧ (s.extract j (j + 1)).size = 1 := by
  have hsz : s.data.toList.length = s.size := by rw [Array.length_toList]; rfl
  have e : (s.extract j (j + 1)).data.toList = [s[j]] := by
    rw [ByteArray.data_extract, Array.toList_extract, List.extract_eq_take_drop]
    rw [List.drop_eq_getElem_cons (by rw [hsz]; exact h)]
    simp
    rfl
  refine ⟨e, ?_⟩
  have : (s.extract j (j + 1)).data.toList.length = 1 := by rw [e]; rfl
  rw [Array.length_toList] at this
  exact this
theorem sh_bits : ∀ a : Nat, a < 32 → a &&& 28 = a → Plain ((((a ||| 1) ||| 64) ||| 2 : Nat) : Int) ∧ (((a ||| 1) ||| 64) ||| 2) < 128 ∧ (a ||| 1) < 32 ∧ ((a ||| 1) ||| 64) < 128 := by
  intro a ha hb
  have key : ∀ a : Nat, a < 32 → a &&& 28 = a → (bit ((((a ||| 1) ||| 64) ||| 2 : Nat) : Int) 1 = true ∧ bit ((((a ||| 1) ||| 64) ||| 2 : Nat) : Int) 2 = true ∧ bit ((((a ||| 1) ||| 64) ||| 2 : Nat) : Int) 64 = true ∧ bit ((((a ||| 1) ||| 64) ||| 2 : Nat) : Int) 32 = false) ∧ (((a ||| 1) ||| 64) ||| 2) < 128 ∧ (a ||| 1) < 32 ∧ ((a ||| 1) ||| 64) < 128 := by decide +kernel
  obtain ⟨⟨h1, h2, h3, h4⟩, h5⟩ := key a ha hb
  exact ⟨⟨h1, h2, h3, h4⟩, h5⟩
theorem sh_cells (f : Int) : ((((i64s newS.ss).set 0 (.int .i64 128)).set 1 (.int .i64 f)).set 2 (.int .i64 206)).set 9 (.int .i64 0) = i64s (shSet f) := by
  simp [i64s, newS, firstS, shSet]
def skipS (c : UInt8) (n : Nat) : Bool := (((decide (30 ≤ n) && ((c.toNat : Int) != 10)) && ((c.toNat : Int) != 127)) && ((c.toNat : Int) != 21))
theorem skipS_no {c : UInt8} {n : Nat} (h : skipS c n = false) : n < 30 ∨ c.toNat = 10 ∨ c.toNat = 127 ∨ c.toNat = 21 := by
  unfold skipS at h
  simp at h
  omega
set_option maxHeartbeats 20000000 in
set_option maxRecDepth 100000 in
theorem shown_walk (w : World) (s : ByteArray) (hs : s.size ≤ 140737488355328) (out_ : Int) :
    Calls Tryz.prog 7 #[.string s, .int .i64 out_] w fun e w' => e = .returned (.bool true) ∧ Below w.heap.size w w' := by
  have HB := begin_any w
  obtain ⟨a, ha1, ha2, m0⟩ := i64_and_some out_ 28 (by omega)
  obtain ⟨hpf, hb1, hb2, hb3⟩ := sh_bits a (by omega) ha2
  have m1 := i64_or_nat a 1 (by omega) (by omega)
  have m2 := i64_or_nat (a ||| 1) 64 (by omega) (by omega)
  have m3 := i64_or_nat ((a ||| 1) ||| 64) 2 (by omega) (by omega)
  obtain ⟨f, hfe⟩ : ∃ f : Int, ((((a ||| 1) ||| 64) ||| 2 : Nat) : Int) = f := ⟨_, rfl⟩
  rw [hfe] at hpf m3
  obtain ⟨hsh0, hiv0⟩ := Sh.begin f (by omega) (by omega)
  have hf : Plain f := hpf
  have HE0 : Hid (Sh f [] (newS.change (shSet f)).look) := hsh0
  have HI0 : Hid (InvC 300 2 (newS.change (shSet f)).look) := hiv0
  have HW0 : Hid (Well (newS.change (shSet f)).look) := (from_look _).well (Well.new.change _)
  have HC : Hid (∀ b W x, AtT [] w x b newS W → Calls Tryz.prog 12 #[.pointer (some ⟨b, 0, none⟩), .agg (i64s (shSet f)).toArray] W fun e w' => e = .returned (.bool true) ∧ AtT [] w x b (newS.change (shSet f)).look w') := fun b W x hW => kchange_any [] w x b newS W 0 hW Inv.new (by omega) Well.new (shSet f) rfl
  have m0' : bits .and .i64 out_ 28 = (a : Int) := m0
  have m1' : bits .or .i64 (a : Int) 1 = ((a ||| 1 : Nat) : Int) := m1
  have m2' : bits .or .i64 ((a ||| 1 : Nat) : Int) 64 = (((a ||| 1) ||| 64 : Nat) : Int) := m2
  have m3' : bits .or .i64 (((a ||| 1) ||| 64 : Nat) : Int) 2 = f := m3
  clear hsh0 hiv0 hfe hpf ha1 ha2 m0 m1 m2 m3 hb1 hb2 hb3
  generalize (newS.change (shSet f)).look = σ0 at *
  generalize ((a ||| 1) ||| 64 : Nat) = a2 at *
  generalize (a ||| 1 : Nat) = a1 at *
  go_enter Tryz.func7, Tryz.ntmps7
  go_wp2_with (first
    | (go_at_call 10; refine HB.mono ?_; clear HB; rintro e W1 ⟨b, rfl, hW1⟩)
    | (go_at_call 11; refine (TGet [] w [] b newS _ hW1).mono ?_; rintro e W2 ⟨rfl, hW2⟩)
    | (refine wpList_store_whole rfl (.tmp 6) (.tmp 21) 29 rfl W2.heap.size rfl (i64s newS.ss) rfl 29 zero17 (Blk.new W2 _ _) rfl rfl (i64s_one _) ?_))
  intro W hbk hgW hsz
  obtain ⟨B, hB⟩ : ∃ B, W2.heap.size = B := ⟨_, rfl⟩
  have hW3 : AtT [] w [B] b newS W := by
    have := (hW2.boxed (.cells zero17.toArray 29)).grown hgW fun g e => by cases e; exact ⟨by simp, hW2.kp.size⟩
    rw [hB] at this; exact this
  have hBw : w.heap.size ≤ B := by rw [← hB]; exact hW2.kp.size
  rw [hB] at hbk ⊢
  have c0 := hbk.cell 0 rfl
  have c1 := hbk.cell 1 rfl
  have c2 := hbk.cell 2 rfl
  have c9 := hbk.cell 9 rfl
  have f0 := hbk.frozen 0
  have f1 := hbk.frozen 1
  have f2 := hbk.frozen 2
  have f9 := hbk.frozen 9
  have HBk : Hid (Blk ((((W.setCell ⟨B, 0, none⟩ (.int .i64 128)).setCell ⟨B, 1, none⟩ (.int .i64 f)).setCell ⟨B, 2, none⟩ (.int .i64 206)).setCell ⟨B, 9, none⟩ (.int .i64 0)) B 29 (i64s (shSet f))) := by
    have h5 := (((hbk.set 0 (.int .i64 128)).set 1 (.int .i64 f)).set 2 (.int .i64 206)).set 9 (.int .i64 0)
    rw [sh_cells] at h5
    exact h5
  have hW4 := (((hW3.poke (g := B) (by simp) hBw 0 (.int .i64 128)).poke (g := B) (by simp) hBw 1 (.int .i64 f)).poke (g := B) (by simp) hBw 2 (.int .i64 206)).poke (g := B) (by simp) hBw 9 (.int .i64 0)
  have hsl : (i64s (shSet f)).length = 17 := rfl
  obtain ⟨W3, hW3e⟩ : ∃ W3, (((W.setCell ⟨B, 0, none⟩ (.int .i64 128)).setCell ⟨B, 1, none⟩ (.int .i64 f)).setCell ⟨B, 2, none⟩ (.int .i64 206)).setCell ⟨B, 9, none⟩ (.int .i64 0) = W3 := ⟨_, rfl⟩
  rw [hW3e] at HBk hW4
  clear hgW hsz hB hW2 hbk hW1 hW3
  go_wp2_with (refine wpList_load_part rfl (.tmp 6) 29 rfl B 0 rfl (i64s (shSet f)) _ (fun j v hv => by rw [Nat.zero_add]; exact HBk.out.cell j hv) Tryz.underlying29 rfl (by rw [hsl]; exact size_settings2) ?_)
  refine (HC.out b _ [B] hW4).mono ?_
  clear hW4 HC c0 c1 c2 c9 f0 f1 f2 f9 HBk hW3e hsl m0' m1' m2' m3'
  rintro e W5 ⟨rfl, hW5⟩
  have hW5 : AtT [] w [] b σ0 W5 := hW5.weaken fun g hg => by cases hg
  clear hBw
  go_wp2_with (refine wpList_box rfl (.tmp 37) 35 rfl [.slice none 0 0, .int .i64 0] rfl ?_)
  intro W6 Sc hid6
  have hsc6 : ScAt Sc none ⟨[], 0⟩ W6 := by obtain ⟨rfl, rfl⟩ := hid6.out; exact ⟨⟨_, Blk.new W5 _ _, Sl.nil _ _ _⟩, fun g e => by cases e⟩
  have hW6 : AtT [] w [Sc] b σ0 W6 := by obtain ⟨rfl, rfl⟩ := hid6.out; exact hW5.boxed _
  have hSc : w.heap.size ≤ Sc ∧ Sc < W6.heap.size := by obtain ⟨rfl, rfl⟩ := hid6.out; exact ⟨hW5.kp.size, by simp⟩
  clear hid6 hW5
  go_wp2_with (refine wpList_box rfl (.tmp 39) 38 rfl [.slice none 0 0, .bool false, .bool false] rfl ?_)
  intro W7 L0 hid
  have hW7 : AtT [] w (xs4 L0 none Sc none) b σ0 W7 := by obtain ⟨rfl, rfl⟩ := hid.out; exact hW6.boxed _
  have hln0 : LS w L0 none [] false false Sc none ⟨[], 0⟩ W7 := by
    obtain ⟨rfl, rfl⟩ := hid.out
    refine ⟨⟨⟨_, Blk.new W6 _ _, Sl.nil _ _ _⟩, fun g e => by cases e⟩, hsc6.grown ⟨rfl, rfl, rfl, by simp, fun k hk _ => Below.heap_alloc W6 _ k hk⟩, by omega, (fun g e => by cases e), (fun g e => by cases e), hW6.kp.size, hSc.1, (fun g e => by cases e), (fun g e => by cases e)⟩
  have HSn0 : Hid (Seen ⟨[], 0⟩ (rend [])) := ⟨rfl, 0, rfl⟩
  clear hid hW6 hsc6 hSc
  go_wp2_with fail
  go_loopg [9, 10, 11, 12, 13, 14, 15, 16] s.size (fun kk lv iv _ _ _ _ _ _ wr => ∃ (j L : Nat) (o : Option Nat) (p : List UInt8) (oS : Option Nat) (sc : Scr) (σ : St), j + kk = s.size ∧ lv = .pointer (some ⟨L, 0, none⟩) ∧ iv = .int .i64 j ∧ AtT [] w (xs4 L o Sc oS) b σ wr ∧ Hid (LS w L o p false false Sc oS sc wr) ∧ Hid (Sh f p σ) ∧ Hid (InvC 300 2 σ) ∧ Hid (Well σ) ∧ Hid (Seen sc (rend p)) ∧ p.length ≤ 30 ∧ sc.row.length ≤ 1000)
  case atStart => exact ⟨0, L0, none, [], none, ⟨[], 0⟩, σ0, by omega, rfl, rfl, hW7, hln0, HE0, HI0, HW0, HSn0, by simp, by simp⟩
  case round =>
    clear hW7 hln0 HE0 HI0 HW0 HSn0
    obtain ⟨j, L, o, p, oS, sc, σ, hj, rfl, rfl, hR, hln, hsh, hiv, hwl, hsn, hp, hrow⟩ := hrel
    obtain ⟨v, hlb, hlsl⟩ := hln.out.ln.ex
    obtain ⟨la, lcap, rfl, _, _⟩ := hlsl.shape
    have k0 := hlb.cell 0 rfl
    clear hlb hlsl
    by_cases hlt : j < s.size
    · have hlt' : (j : Int) < (s.size : Int) := by omega
      obtain ⟨e1, e2⟩ := one_byte s j hlt
      obtain ⟨sk, hsk⟩ : ∃ sk : Bool, skipS s[j] p.length = sk := ⟨_, rfl⟩
      have HSK : Hid (skipS s[j] p.length = sk) := hsk
      clear hsk
      go_upto_region 18 with fail
      go_cut [67] (fun s67 wx => s67 = .bool sk ∧ wx = wr)
      case first =>
        have HS2 : Hid (sk = (((decide (30 ≤ p.length) && ((s[j].toNat : Int) != 10)) && ((s[j].toNat : Int) != 127)) && ((s[j].toNat : Int) != 21))) := HSK.out.symm
        by_cases h30 : 30 ≤ p.length
        · have h30' : (30 : Int) ≤ (p.length : Int) := by omega
          cases h10 : ((s[j].toNat : Int) != 10) with
          | false =>
            have e3 : sk = false := by rw [HS2.out, h10]; simp
            subst e3
            go_wp2_with fail
            all_goals (go_meet; exact ⟨rfl, rfl⟩)
          | true =>
            cases h127 : ((s[j].toNat : Int) != 127) with
            | false =>
              have e3 : sk = false := by rw [HS2.out, h127]; simp
              subst e3
              go_wp2_with fail
              all_goals (go_meet; exact ⟨rfl, rfl⟩)
            | true =>
              have e3 : ((s[j].toNat : Int) != 21) = sk := by rw [HS2.out, h10, h127, decide_eq_true h30]; rfl
              go_wp2_with fail
              all_goals (go_meet; exact ⟨by first | rfl | rw [e3], rfl⟩)
        · have h30' : ¬ (30 : Int) ≤ (p.length : Int) := by omega
          have e3 : sk = false := by rw [HS2.out, decide_eq_false h30]; rfl
          subst e3
          go_wp2_with fail
          all_goals (go_meet; exact ⟨rfl, rfl⟩)
      case rest =>
      obtain ⟨rfl, hw1⟩ := hcut
      have hw1 := hw1.symm
      subst hw1
      cases sk with
      | true =>
        go_wp2_with fail
        go_roundg (gk - 1)
        case measure => omega
        case rel => exact ⟨j + 1, L, o, p, oS, sc, σ, by omega, rfl, by go_num, hR, hln, hsh, hiv, hwl, hsn, hp, hrow⟩
      | false =>
        have hcn := skipS_no HSK.out
        have HRc : Hid (∀ W x, AtT [] w x b σ W → Calls Tryz.prog 13 #[.pointer (some ⟨b, 0, none⟩), .int .i64 0, .string (s.extract j (j + 1))] W fun e w' => e = .returned (.int .i64 0) ∧ AtT [] w x b (σ.good s[j]).look w' ∧ Kq x W w') := fun W x hW => hW.calls fun S u h => by
          have := TReceive S u x b σ W 600000 h (Go.Clk.Inv.mk hiv.out (by omega) (by omega)) hwl.out 0 (s.extract j (j + 1)) (by rw [e2]; simp [maxLen]) (by rw [e2]; omega)
          rw [e1, show σ.receive 0 [s[j]] = ((σ.good s[j]).look, 0) from rfl] at this
          exact this
        have HTy : Hid (∀ W, LnAt L o p false false W → Calls Tryz.prog 14 #[.pointer (some ⟨L, 0, none⟩), .int .u8 s[j].toNat, .bool false, .bool false] W fun e w' => e = .returned (.tuple #[]) ∧ ∃ o', LnAt L o' (typed false false p s[j]).1 (typed false false p s[j]).2.1 (typed false false p s[j]).2.2 w' ∧ LnTo L o o' W w') := fun W hW => typed_any L o p W hW (by omega) s[j] false false
        have hwg : Well (σ.good s[j]).look := ((from_good σ s[j]).trans (from_look _)).well hwl.out
        clear HSK e1 e2
        cases hen : (typed false false p s[j]).2.1 with
        | false =>
          have hp2 : p.length < 30 ∨ p.length ≤ 30 ∧ (s[j].toNat = 127 ∨ s[j].toNat = 21) := by
            rcases hcn with h | h | h | h
            · exact .inl h
            · exfalso; unfold typed at hen; rw [if_neg (by omega), if_neg (by omega), if_neg (by omega), if_neg (by simp), if_pos (by omega)] at hen; cases hen
            · exact .inr ⟨hp, .inl h⟩
            · exact .inr ⟨hp, .inr h⟩
          obtain ⟨hsh2, hse2, hu2, hst2, hol2⟩ := shown_step hf hsh.out s[j] sc hsn.out hp2 hen
          have hpl2 : (typed false false p s[j]).1.length ≤ 30 := by
            rcases hp2 with h | ⟨h, h5⟩
            · have := typed_len false false p s[j]; omega
            · unfold typed
              rcases h5 with h5 | h5
              · rw [if_pos h5]; simp; omega
              · rw [if_neg (by omega), if_pos h5]; simp
          have hig := hsh.out.inv_step hiv.out (by omega) s[j] hu2
          have e5 : (σ.good s[j]).look.drain 1099511627776 = ({ (σ.good s[j]).look with out := [] }, (σ.good s[j]).look.out) := drain_all _ _ hu2 hst2 (by omega)
          have HAl : Hid (∀ W x, AtT [] w x b (σ.good s[j]).look W → Calls Tryz.prog 16 #[.pointer (some ⟨b, 0, none⟩)] W fun e w' => e = .returned (.string (str (σ.good s[j]).look.out)) ∧ AtT [] w x b { (σ.good s[j]).look with out := [] } w' ∧ Kq x W w') := fun W x hW => hW.calls fun S u h => by
            have := all_any S u x b _ W 600000 h (Go.Clk.Inv.mk hig (by omega) (by omega)) (by omega)
            rw [e5] at this; exact this
          have hfi : (typed false false p s[j]).2.2 = false := typed_file false false p s[j] hen
          rw [hen, hfi] at HTy
          have hdr := hig.drained 1099511627776
          rw [e5] at hdr
          have hwt : ({ (σ.good s[j]).look with out := [] } : St).wait ≤ 2 := hig.w1
          have HI2 : Hid (InvC 300 2 { (σ.good s[j]).look with out := [] }) := hsh2.tighten hdr hpl2 hwt
          have HW2 : Hid (Well { (σ.good s[j]).look with out := [] }) := fun e he => hwg e he
          have HSh : Hid (Sh f (typed false false p s[j]).1 { (σ.good s[j]).look with out := [] }) := hsh2
          have HSeen : Hid (Seen (sc.shows (σ.good s[j]).look.out) (rend (typed false false p s[j]).1)) := hse2
          have hat : sc.at_ ≤ 240 := by have := hsn.out.1; have := rend_short p; omega
          have hrow2 : (sc.shows (σ.good s[j]).look.out).row.length ≤ 1000 := by have := shows_row' sc (σ.good s[j]).look.out; omega
          have hcol : ({ (σ.good s[j]).look with out := [] } : St).col = ((sc.shows (σ.good s[j]).look.out).at_ : Nat) := by rw [hsh2.col, hse2.1]
          clear hsh2 hse2 hu2 hst2 hig e5 hfi hdr hwt hsh hiv hwl hsn hwg hen hcn hp2
          generalize ({ (σ.good s[j]).look with out := [] } : St) = σ2 at *
          generalize (σ.good s[j]).look.out = OUTL at *
          generalize (σ.good s[j]).look = σ1 at *
          generalize (typed false false p s[j]).1 = p2 at *
          obtain ⟨q0, q1, q3, q4, q5, HSt⟩ : ∃ (q0 q1 : Nat) (q3 q4 q5 : Bool), Hid (∀ W x, AtT [] w x b σ2 W → Calls Tryz.prog 20 #[.pointer (some ⟨b, 0, none⟩)] W fun e w' => e = .returned (.agg #[.int .i64 q0, .int .i64 q1, .int .i64 ((sc.shows OUTL).at_ : Nat), .bool q3, .bool q4, .bool q5]) ∧ AtT [] w x b σ2 w' ∧ Kq x W w') := by
            refine ⟨σ2.inq.length, σ2.out.length, σ2.stopped, σ2.held, σ2.quoted, fun W x hW => hW.calls fun S u h => ?_⟩
            have := TStatus S u x b σ2 W h
            unfold statusV at this
            rw [hcol] at this
            exact this
          clear hcol
          go_wp2_with (first
            | (go_at_call 13; refine (HRc.out _ _ hR).mono ?_; clear HRc; rintro e V1 ⟨rfl, hV1, hk1⟩; have hn1 := hln.out.kq hk1)
            | (go_at_call 14; refine (HTy.out _ hn1.ln).mono ?_; clear HTy; rintro e V2 ⟨rfl, o2, hn2, ht2⟩; obtain ⟨hm2, hV2⟩ := hn1.line hV1 hn2 ht2; clear hn2 ht2)
            | (go_at_call 16; refine (HAl.out _ _ hV2).mono ?_; clear HAl; rintro e V3 ⟨rfl, hV3, hk3⟩; have hm3 := hm2.kq hk3)
            | (go_at_call 15; refine (shows_any Sc oS sc V3 hm3.sc OUTL (by omega)).mono ?_; rintro e V4 ⟨rfl, oS4, hn4, ht4⟩; obtain ⟨hm4, hV4⟩ := hm3.scr hV3 hn4 ht4; clear hn4 ht4; obtain ⟨lv5, lb5, ls5⟩ := hm4.ln.ex; obtain ⟨la5, lc5, rfl, _, _⟩ := ls5.shape; have g0 := lb5.cell 0 rfl; have k4 := lb5.cell 1 rfl; have hse := seen_any Sc oS4 (sc.shows OUTL) V4 hm4.sc _ p2 _ ls5 (by omega) HSeen.out (by omega); clear lb5 ls5)
            | (go_at_call 19; refine hse.mono ?_; clear hse; rintro e V6 ⟨rfl, hg6⟩; have hV6 := hV4.same hg6; have hm6 := hm4.grown hg6)
            | (go_at_call 20; refine (HSt.out _ _ hV6).mono ?_; clear HSt; rintro e V7 ⟨rfl, hV7, hk7⟩; have hm7 := hm6.kq hk7)
            | (refine wpList_store_whole rfl (.tmp 16) (.tmp 110) 49 rfl V7.heap.size rfl [.int .i64 q0, .int .i64 q1, .int .i64 ((sc.shows OUTL).at_ : Nat), .bool q3, .bool q4, .bool q5] rfl 49 zero6 (Blk.new V7 _ _) rfl rfl (by intro u hu; simp at hu; rcases hu with rfl | rfl | rfl | rfl | rfl | rfl <;> rfl) ?_))
          intro V8 hb8 hg8 hz8
          obtain ⟨hV8, hk8⟩ := hV7.filled _ hg8
          have hm8 := hm7.kq hk8
          obtain ⟨v9, hb9, _⟩ := hm8.sc.ex
          have j1 := hb9.cell 1 rfl
          have j2 := hb8.cell 2 (v := .int .i64 ((sc.shows OUTL).at_ : Nat)) rfl
          have HV9 : Hid (∀ k, AtT [] w (xs4 L o2 Sc oS4) b σ2 (V8.drewN k)) := fun k => (hV8.drewN k).weaken fun g hg => List.mem_cons_of_mem _ hg
          have HM9 : Hid (∀ k, LS w L o2 p2 false false Sc oS4 (sc.shows OUTL) (V8.drewN k)) := fun k => hm8.grown ⟨rfl, rfl, rfl, Nat.le_refl _, fun _ _ _ => rfl⟩
          clear hb8 hb9 hg8 hz8 hk7 hk8 hV7 hV8 hm6 hm7 hm8 hV6
          go_wp2_with fail
          go_quiet (fail)
          go_wp2_with fail
          go_roundg (gk - 1)
          case measure => omega
          case rel => exact ⟨j + 1, L, o2, p2, oS4, (sc.shows OUTL), σ2, by omega, rfl, by go_num, HV9.out _, HM9.out _, HSh, HI2, HW2, HSeen, hpl2, hrow2⟩
        | true =>
          obtain ⟨t1, t2, hu2, hst2, hou2, hse2, hr1, hr2, hsh3⟩ := shown_end hf hsh.out s[j] sc hp hen
          have hig := hsh.out.inv_step hiv.out (by omega) s[j] hu2
          have e5 : (σ.good s[j]).look.drain 1099511627776 = ({ (σ.good s[j]).look with out := [] }, [13, 10]) := by rw [drain_all _ _ hu2 hst2 (by rw [hou2]; simp), hou2]
          have HAl : Hid (∀ W x, AtT [] w x b (σ.good s[j]).look W → Calls Tryz.prog 16 #[.pointer (some ⟨b, 0, none⟩)] W fun e w' => e = .returned (.string (str [13, 10])) ∧ AtT [] w x b { (σ.good s[j]).look with out := [] } w' ∧ Kq x W w') := fun W x hW => hW.calls fun S u h => by
            have := all_any S u x b _ W 600000 h (Go.Clk.Inv.mk hig (by omega) (by omega)) (by omega)
            rw [e5] at this; exact this
          have hdr := hig.drained 1099511627776
          rw [e5] at hdr
          have hwd : Well { (σ.good s[j]).look with out := [] } := fun e he => hwg e he
          have HFe : Hid (∀ W x, AtT [] w x b { (σ.good s[j]).look with out := [] } W → Calls Tryz.prog 17 #[.pointer (some ⟨b, 0, none⟩), .int .i64 256] W fun e w' => e = .returned (.tuple #[.string (lineText p false), .bool true]) ∧ AtT [] w x b (({ (σ.good s[j]).look with out := [] } : St).read 256).1.take.1 w' ∧ Kq x W w') := fun W x hW => hW.calls fun S u h => by
            have := kfetch_any S u x b _ W 600000 h (Go.Clk.Inv.mk hdr (by omega) (by omega)) (by omega) hwd 256
            have hf5 : fetched ({ (σ.good s[j]).look with out := [] } : St) 256 = true := by unfold fetched; rw [hr1, hr2]; rfl
            rw [hf5, hr2] at this
            exact this
          have hrd := (hdr.read 256).take
          have hwt : (({ (σ.good s[j]).look with out := [] } : St).read 256).1.take.1.wait ≤ 2 := by
            rw [take_wait]
            have h5 := hdr.w1
            rcases read_wait ({ (σ.good s[j]).look with out := [] } : St) 256 with e | e
            · rw [e]; exact h5
            · rw [e]; omega
          have HI2 : Hid (InvC 300 2 (({ (σ.good s[j]).look with out := [] } : St).read 256).1.take.1) := hsh3.tighten hrd (by simp) hwt
          have HW2 : Hid (Well (({ (σ.good s[j]).look with out := [] } : St).read 256).1.take.1) := (from_take _).well ((from_read _ _).well hwd)
          have HSh : Hid (Sh f [] (({ (σ.good s[j]).look with out := [] } : St).read 256).1.take.1) := hsh3
          have HSeen : Hid (Seen (sc.shows [13, 10]) (rend [])) := hse2
          have hat : sc.at_ ≤ 240 := by have := hsn.out.1; have := rend_short p; omega
          have hrow2 : (sc.shows [13, 10]).row.length ≤ 1000 := by have := shows_row' sc [13, 10]; simp only [List.length_cons, List.length_nil] at this; omega
          have hcol : (({ (σ.good s[j]).look with out := [] } : St).read 256).1.take.1.col = ((sc.shows [13, 10]).at_ : Nat) := by rw [hsh3.col, hse2.1]
          have hpl2 : ([] : List UInt8).length ≤ 30 := by simp
          rw [hen, t1, t2] at HTy
          clear t1 t2 hu2 hst2 hou2 hse2 hr1 hr2 hsh3 hig e5 hdr hwd hrd hwt hsh hiv hwl hsn hwg hen hcn
          generalize (({ (σ.good s[j]).look with out := [] } : St).read 256).1.take.1 = σ3 at *
          generalize ({ (σ.good s[j]).look with out := [] } : St) = σ2 at *
          generalize (σ.good s[j]).look = σ1 at *
          obtain ⟨q0, q1, q3, q4, q5, HSt⟩ : ∃ (q0 q1 : Nat) (q3 q4 q5 : Bool), Hid (∀ W x, AtT [] w x b σ3 W → Calls Tryz.prog 20 #[.pointer (some ⟨b, 0, none⟩)] W fun e w' => e = .returned (.agg #[.int .i64 q0, .int .i64 q1, .int .i64 ((sc.shows [13, 10]).at_ : Nat), .bool q3, .bool q4, .bool q5]) ∧ AtT [] w x b σ3 w' ∧ Kq x W w') := by
            refine ⟨σ3.inq.length, σ3.out.length, σ3.stopped, σ3.held, σ3.quoted, fun W x hW => hW.calls fun S u h => ?_⟩
            have := TStatus S u x b σ3 W h
            unfold statusV at this
            rw [hcol] at this
            exact this
          clear hcol
          have hs2 : sc.row.length + sc.at_ + ([13, 10] : List UInt8).length + 1 ≤ 100000 := by simp; omega
          obtain ⟨sc2, hsc2⟩ : ∃ sc2, sc.shows [13, 10] = sc2 := ⟨_, rfl⟩
          have HSC2 : Hid (sc.shows [13, 10] = sc2) := hsc2
          rw [hsc2] at HSeen hrow2 HSt
          clear hsc2
          go_wp2_with (first
            | (go_at_call 13; refine (HRc.out _ _ hR).mono ?_; clear HRc; rintro e V1 ⟨rfl, hV1, hk1⟩; have hn1 := hln.out.kq hk1)
            | (go_at_call 14; refine (HTy.out _ hn1.ln).mono ?_; clear HTy; rintro e V2 ⟨rfl, o2, hn2, ht2⟩; obtain ⟨hm2, hV2⟩ := hn1.line hV1 hn2 ht2; clear hn2 ht2)
            | (go_at_call 16; refine (HAl.out _ _ hV2).mono ?_; clear HAl; rintro e V3 ⟨rfl, hV3, hk3⟩; have hm3 := hm2.kq hk3)
            | (go_at_call 15; refine (shows_any Sc oS sc V3 hm3.sc [13, 10] hs2).mono ?_; rintro e V4 ⟨rfl, oS4, hn4, ht4⟩; rw [HSC2.out] at hn4; obtain ⟨hm4, hV4⟩ := hm3.scr hV3 hn4 ht4; clear hn4 ht4; obtain ⟨lv5, lb5, ls5⟩ := hm4.ln.ex; have k4 := lb5.cell 1 rfl; clear lb5 ls5)
            | (go_at_call 17; refine (HFe.out _ _ hV4).mono ?_; clear HFe; rintro e V5 ⟨rfl, hV5, hk5⟩; have hm5 := hm4.kq hk5)
            | (go_at_call 18; refine (text_any L o2 p true false _ hm5.ln (by omega)).mono ?_; rintro e w' ⟨rfl, hw⟩; subst hw)
            | (refine wpList_box rfl (.tmp 101) 38 rfl [.slice none 0 0, .bool false, .bool false] rfl ?_))
          intro V9 L2 hid
          obtain ⟨hma, hVa⟩ := hm5.fresh hV5 V9 L2 hid.out
          have lb5 := hma.ln.ex
          obtain ⟨lv5, lb5, ls5⟩ := lb5
          obtain ⟨la5, lc5, rfl, _, _⟩ := ls5.shape
          have g0 := lb5.cell 0 (v := .slice la5 ([] : List UInt8).length lc5) rfl
          have hse := seen_any Sc oS4 sc2 V9 hma.sc _ [] _ ls5 (by simp) HSeen.out (by omega)
          clear hid lb5 ls5 hm5 hV5 hm4 hV4 hm3 hV3 hm2 hV2 hn1 hV1 k4 hk1 hk3 hk5
          go_wp2_with (first
            | (go_at_call 19; refine hse.mono ?_; clear hse; rintro e V6 ⟨rfl, hg6⟩; have hV6 := hVa.same hg6; have hm6 := hma.grown hg6)
            | (go_at_call 20; refine (HSt.out _ _ hV6).mono ?_; clear HSt; rintro e V7 ⟨rfl, hV7, hk7⟩; have hm7 := hm6.kq hk7)
            | (refine wpList_store_whole rfl (.tmp 16) (.tmp 110) 49 rfl V7.heap.size rfl [.int .i64 q0, .int .i64 q1, .int .i64 (sc2.at_ : Nat), .bool q3, .bool q4, .bool q5] rfl 49 zero6 (Blk.new V7 _ _) rfl rfl (by intro u hu; simp at hu; rcases hu with rfl | rfl | rfl | rfl | rfl | rfl <;> rfl) ?_))
          intro V8 hb8 hg8 hz8
          obtain ⟨hV8, hk8⟩ := hV7.filled _ hg8
          have hm8 := hm7.kq hk8
          obtain ⟨v9, hb9, _⟩ := hm8.sc.ex
          have j1 := hb9.cell 1 rfl
          have j2 := hb8.cell 2 (v := .int .i64 (sc2.at_ : Nat)) rfl
          have HV9 : Hid (∀ k, AtT [] w (xs4 L2 none Sc oS4) b σ3 (V8.drewN k)) := fun k => (hV8.drewN k).weaken fun g hg => List.mem_cons_of_mem _ hg
          have HM9 : Hid (∀ k, LS w L2 none [] false false Sc oS4 sc2 (V8.drewN k)) := fun k => hm8.grown ⟨rfl, rfl, rfl, Nat.le_refl _, fun _ _ _ => rfl⟩
          clear hb8 hb9 hg8 hz8 hk7 hk8 hV7 hV8 hm6 hm7 hm8 hV6 g0
          go_wp2_with fail
          go_quiet (fail)
          go_wp2_with fail
          go_roundg (gk - 1)
          case measure => omega
          case rel => exact ⟨j + 1, L2, none, [], oS4, sc2, σ3, by omega, rfl, by go_num, HV9.out _, HM9.out _, HSh, HI2, HW2, HSeen, hpl2, hrow2⟩
    · obtain rfl : j = s.size := by omega
      have HKP : Hid (Below w.heap.size w wr) := below_of hR
      clear hsh hiv hwl hsn
      go_wp2_with fail
      go_ret
      exact ⟨rfl, HKP.out⟩
end Go.Proofs.YtfnglkhhmplejaaGreat
