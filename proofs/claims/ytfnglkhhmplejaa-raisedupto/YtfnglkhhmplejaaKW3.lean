/- Walks: clackkeep.Edited. -/
import Derived.Test.YtfnglkhhmplejaaKW
import Derived.Test.YtfnglkhhmplejaaKL
import Derived.Test.YtfnglkhhmplejaaKeep12
import Derived.Deep.DeepCutAuto
import Derived.Deep.CutBlock
import Derived.BigQuiet
import Derived.Deep.QuietTactic
namespace Go.Proofs.Ytfnglkhhmplejaa
open Go Go.RowKit Go.Clk
theorem i64_or_nat (a b : Nat) (ha : a < 2 ^ 62) (hb : b < 2 ^ 62) : bits .or .i64 (a : Int) (b : Int) = ((a ||| b : Nat) : Int) := by
  have hx : a ||| b < 2 ^ 62 := Nat.or_lt_two_pow ha hb
  have e1 : ∀ n : Nat, n < 2 ^ 62 → (BitVec.ofInt 64 (n : Int)).toNat = n := fun n hn => by
    rw [BitVec.ofInt_natCast, BitVec.toNat_ofNat]; exact Nat.mod_eq_of_lt (by omega)
  show IntKind.i64.wrap ((BitVec.ofInt 64 (a : Int) ||| BitVec.ofInt 64 (b : Int)).toNat : Int) = _
  rw [BitVec.toNat_or, e1 a ha, e1 b hb]
  have e2 : ∀ n : Nat, n < 2 ^ 62 → IntKind.i64.wrap (n : Int) = n := fun n hn => by
    simp [IntKind.wrap, IntKind.bits, IntKind.signed]; omega
  exact e2 _ (by omega)
/-- Some flags of a raw number. -/
theorem i64_and_some (n : Int) (m : Nat) (hm : m < 2 ^ 62) : ∃ a : Nat, a ≤ m ∧ a &&& m = a ∧ bits .and .i64 n (m : Int) = (a : Int) := by
  refine ⟨(BitVec.ofInt 64 n).toNat &&& m, Nat.and_le_right, by rw [Nat.and_assoc, Nat.and_self], ?_⟩
  have e1 : (BitVec.ofInt 64 (m : Int)).toNat = m := by
    rw [BitVec.ofInt_natCast, BitVec.toNat_ofNat]; exact Nat.mod_eq_of_lt (by omega)
  show IntKind.i64.wrap ((BitVec.ofInt 64 n &&& BitVec.ofInt 64 (m : Int)).toNat : Int) = _
  rw [BitVec.toNat_and, e1]
  have hle : (BitVec.ofInt 64 n).toNat &&& m ≤ m := Nat.and_le_right
  generalize (BitVec.ofInt 64 n).toNat &&& m = k at *
  simp [IntKind.wrap, IntKind.bits, IntKind.signed]; omega
theorem ed_bits : ∀ a : Nat, a < 256 → bit ((((a ||| 2) ||| 1) ||| 512 : Nat) : Int) 1 = true ∧ bit ((((a ||| 2) ||| 1) ||| 512 : Nat) : Int) 2 = true ∧ bit ((((a ||| 2) ||| 1) ||| 512 : Nat) : Int) 512 = true ∧ (((a ||| 2) ||| 1) ||| 512) < 1024 ∧ (a ||| 2) < 256 ∧ ((a ||| 2) ||| 1) < 256 := by decide +kernel
theorem ed_cells (l : Int) : (i64s newS.ss).set 2 (.int .i64 l) = i64s (edSet l) := by
  simp [i64s, newS, firstS, edSet]
def specialB (c : UInt8) : Bool := (((((((c.toNat : Int) == 3) || ((c.toNat : Int) == 28)) || ((c.toNat : Int) == 26)) || ((c.toNat : Int) == 17)) || ((c.toNat : Int) == 19)) || ((c.toNat : Int) == 22)) || ((c.toNat : Int) == 18)
theorem specialB_no {c : UInt8} (h : specialB c = false) : (c.toNat ≠ 3 ∧ c.toNat ≠ 28 ∧ c.toNat ≠ 26 ∧ c.toNat ≠ 17 ∧ c.toNat ≠ 19) ∧ c.toNat ≠ 22 ∧ c.toNat ≠ 18 := by
  unfold specialB at h
  simp at h
  omega
set_option maxHeartbeats 1000000 in
theorem special_any (c : UInt8) (w : World) : Calls Try.prog 12 #[.int .u8 c.toNat] w fun e w' => e = .returned (.bool (specialB c)) ∧ w = w' := by
  have H : Hid (specialB c = ((((((((c.toNat : Int) == 3) || ((c.toNat : Int) == 28)) || ((c.toNat : Int) == 26)) || ((c.toNat : Int) == 17)) || ((c.toNat : Int) == 19)) || ((c.toNat : Int) == 22)) || ((c.toNat : Int) == 18))) := rfl
  cases h3 : ((c.toNat : Int) == 3) <;> cases h28 : ((c.toNat : Int) == 28) <;> cases h26 : ((c.toNat : Int) == 26) <;> cases h17 : ((c.toNat : Int) == 17) <;> cases h19 : ((c.toNat : Int) == 19) <;> cases h22 : ((c.toNat : Int) == 22) <;> cases h18 : ((c.toNat : Int) == 18)
  all_goals first
    | (exfalso; simp at h3 h28 h26 h17 h19 h22 h18; omega)
    | (go_enter Try.func12, Try.ntmps12
       go_wp2
       go_ret
       exact ⟨ret_bool (by rw [H.out, h3, h28, h26, h17, h19, h22, h18]; rfl), rfl⟩)
theorem one_byte (s : ByteArray) (j : Nat) (h : j < s.size) : (s.extract j (j + 1)).data.toList = [s[j]] ∧ (s.extract j (j + 1)).size = 1 := by
  have hsz : s.data.toList.length = s.size := by rw [Array.length_toList]; rfl
  have e : (s.extract j (j + 1)).data.toList = [s[j]] := by
    rw [ByteArray.data_extract, Array.toList_extract, List.extract_eq_take_drop]
    rw [List.drop_eq_getElem_cons (by rw [hsz]; exact h)]
    simp
    rfl
  refine ⟨e, ?_⟩
  have : (s.extract j (j + 1)).data.toList.length = 1 := by rw [e]; rfl
  rw [Array.length_toList] at this
  exact this
set_option maxHeartbeats 20000000 in
set_option maxRecDepth 100000 in
theorem edited_walk (w : World) (s : ByteArray) (hs : s.size ≤ 140737488355328) (local_ : Int) :
    Calls Try.prog 3 #[.string s, .int .i64 local_] w fun e w' => e = .returned (.bool true) ∧ Below w.heap.size w w' := by
  have HB := begin_any w
  obtain ⟨a, ha1, ha2, m0⟩ := i64_and_some local_ 252 (by omega)
  obtain ⟨b1, b2, b5, bl, bl1, bl2⟩ := ed_bits a (by omega)
  have m1 := i64_or_nat a 2 (by omega) (by omega)
  have m2 := i64_or_nat (a ||| 2) 1 (by omega) (by omega)
  have m3 := i64_or_nat ((a ||| 2) ||| 1) 512 (by omega) (by omega)
  obtain ⟨l, hl⟩ : ∃ l : Int, ((((a ||| 2) ||| 1) ||| 512 : Nat) : Int) = l := ⟨_, rfl⟩
  have l0 : 0 ≤ l := by omega
  have l1 : l < 1024 := by omega
  rw [hl] at b1 b2 b5 m3
  obtain ⟨hed, hiv⟩ := Ed.begin l l0 l1 b1 b2 b5
  have HE0 : Hid (Ed l [] false [] (newS.change (edSet l)).look) := hed
  have HI0 : Hid (InvC (2049 * ((0 : Nat) : Int)) 2 (newS.change (edSet l)).look) := hiv
  have HW0 : Hid (Well (newS.change (edSet l)).look) := (from_look _).well (Well.new.change _)
  have HC : Hid (∀ b W x, AtT [] w x b newS W → Calls Try.prog 11 #[.pointer (some ⟨b, 0, none⟩), .agg (i64s (edSet l)).toArray] W fun e w' => e = .returned (.bool true) ∧ AtT [] w x b (newS.change (edSet l)).look w') := fun b W x hW => kchange_any [] w x b newS W 0 hW Inv.new (by omega) Well.new (edSet l) rfl
  have m0' : bits .and .i64 local_ 252 = (a : Int) := m0
  have m1' : bits .or .i64 (a : Int) 2 = ((a ||| 2 : Nat) : Int) := m1
  have m2' : bits .or .i64 ((a ||| 2 : Nat) : Int) 1 = (((a ||| 2) ||| 1 : Nat) : Int) := m2
  have m3' : bits .or .i64 (((a ||| 2) ||| 1 : Nat) : Int) 512 = l := m3
  clear hed hiv hl b1 b2 b5 bl bl1 bl2 ha1 ha2 l0 l1 m0 m1 m2 m3
  generalize (newS.change (edSet l)).look = σ0 at *
  generalize ((a ||| 2) ||| 1 : Nat) = a2 at *
  generalize (a ||| 2 : Nat) = a1 at *
  go_enter Try.func3, Try.ntmps3
  go_wp2_with (first
    | (go_at_call 9; refine HB.mono ?_; clear HB; rintro e W1 ⟨b, rfl, hW1⟩)
    | (go_at_call 10; refine (TGet [] w [] b newS _ hW1).mono ?_; rintro e W2 ⟨rfl, hW2⟩)
    | (refine wpList_store_whole rfl (.tmp 6) (.tmp 20) 26 rfl W2.heap.size rfl (i64s newS.ss) rfl 26 zero17 (Blk.new W2 _ _) rfl rfl (i64s_one _) ?_))
  intro W hbk hgW hsz
  obtain ⟨B, hB⟩ : ∃ B, W2.heap.size = B := ⟨_, rfl⟩
  have hW3 : AtT [] w [B] b newS W := by
    have := (hW2.boxed (.cells zero17.toArray 26)).grown hgW fun g e => by cases e; exact ⟨by simp, hW2.kp.size⟩
    rw [hB] at this; exact this
  have hBw : w.heap.size ≤ B := by rw [← hB]; exact hW2.kp.size
  rw [hB] at hbk ⊢
  have c2 := hbk.cell 2 rfl
  have f2 := hbk.frozen 2
  have HBk : Hid (Blk (W.setCell ⟨B, 2, none⟩ (.int .i64 l)) B 26 (i64s (edSet l))) := by
    have h5 := hbk.set 2 (.int .i64 l)
    rw [ed_cells] at h5
    exact h5
  have hW4 := hW3.poke (g := B) (by simp) hBw 2 (.int .i64 l)
  have hsl : (i64s (edSet l)).length = 17 := rfl
  obtain ⟨W3, hW3e⟩ : ∃ W3, W.setCell ⟨B, 2, none⟩ (.int .i64 l) = W3 := ⟨_, rfl⟩
  rw [hW3e] at HBk hW4
  clear hgW hsz hB hW2 hbk hW1 hW3
  go_wp2_with (refine wpList_load_part rfl (.tmp 6) 26 rfl B 0 rfl (i64s (edSet l)) _ (fun j v hv => by rw [Nat.zero_add]; exact HBk.out.cell j hv) Try.underlying26 rfl (by rw [hsl]; exact size_settings2) ?_)
  refine (HC.out b _ [B] hW4).mono ?_
  clear hW4 HC c2 f2 HBk hW3e hsl m0' m1' m2' m3'
  rintro e W5 ⟨rfl, hW5⟩
  have hW5 : AtT [] w [] b σ0 W5 := hW5.weaken fun g hg => by cases hg
  clear hBw
  go_wp2_with (refine wpList_box rfl (.tmp 32) 32 rfl [.slice none 0 0, .bool false, .bool false] rfl ?_)
  intro W6 L0 hid
  have hln : LnAt L0 none [] false false W6 := by obtain ⟨rfl, rfl⟩ := hid.out; exact ⟨⟨_, Blk.new W5 _ _, Sl.nil _ _ _⟩, fun g e => by cases e⟩
  have hW6 : AtT [] w (L0 :: (none : Option Nat).toList) b σ0 W6 := by obtain ⟨rfl, rfl⟩ := hid.out; exact hW5.boxed _
  have hL0 : w.heap.size ≤ L0 := by obtain ⟨rfl, rfl⟩ := hid.out; exact hW5.kp.size
  clear hid hW5
  go_wp2_with fail
  go_loopg [8, 9, 10, 11, 12, 13, 14] s.size (fun kk lv iv _ _ _ _ _ wr => ∃ (j L : Nat) (o : Option Nat) (p : List UInt8) (σ : St), j + kk = s.size ∧ lv = .pointer (some ⟨L, 0, none⟩) ∧ iv = .int .i64 j ∧ AtT [] w (L :: o.toList) b σ wr ∧ Hid (LnAt L o p false false wr) ∧ Hid (Ed l p false [] σ) ∧ Hid (InvC (2049 * (j : Int)) 2 σ) ∧ Hid (Well σ) ∧ p.length ≤ 200 ∧ w.heap.size ≤ L ∧ Hid (∀ g, o = some g → w.heap.size ≤ g))
  case atStart => exact ⟨0, L0, none, [], σ0, by omega, rfl, rfl, hW6, hln, HE0, HI0, HW0, by simp, hL0, fun g e => by cases e⟩
  case round =>
    clear hW6 hln HE0 HI0 HW0 hL0
    obtain ⟨j, L, o, p, σ, hj, rfl, rfl, hR, hln, hed, hiv, hwl, hp, hL, hog⟩ := hrel
    obtain ⟨v, hlb, hlsl⟩ := hln.out.ex
    obtain ⟨la, lcap, rfl, _, _⟩ := hlsl.shape
    have k0 := hlb.cell 0 rfl
    clear hlb hlsl
    by_cases hlt : j < s.size
    · have hlt' : (j : Int) < (s.size : Int) := by omega
      obtain ⟨e1, e2⟩ := one_byte s j hlt
      have hsp := fun W => special_any s[j] W
      obtain ⟨c, hc⟩ : ∃ c, s[j] = c := ⟨_, rfl⟩
      cases hS : specialB s[j] with
      | true =>
        rw [hS] at hsp
        clear e1 e2 hS hc
        have HI2 : Hid (InvC (2049 * ((j + 1 : Nat) : Int)) 2 σ) := hiv.out.mono (by omega) (by omega)
        go_wp2_with (go_at_call 12; refine (hsp _).mono ?_; clear hsp; rintro e w' ⟨rfl, hw⟩; have hw := hw.symm; subst hw)
        go_roundg (gk - 1)
        case measure => omega
        case rel => exact ⟨j + 1, L, o, p, σ, by omega, rfl, by go_num, hR, hln, hed, HI2, hwl, hp, hL, hog⟩
      | false =>
        obtain ⟨hc1, hc2⟩ := specialB_no hS
        rw [hS] at hsp
        by_cases hsk : 200 ≤ p.length ∧ s[j].toNat ≠ 10
        · have h200 : (200 : Int) ≤ (p.length : Int) := by omega
          have hn10 : ((s[j].toNat : Int) != 10) = true := by simp; omega
          have HI2 : Hid (InvC (2049 * ((j + 1 : Nat) : Int)) 2 σ) := hiv.out.mono (by omega) (by omega)
          clear e1 e2 hS hc hc1 hc2
          go_wp2_with (go_at_call 12; refine (hsp _).mono ?_; clear hsp; rintro e w' ⟨rfl, hw⟩; have hw := hw.symm; subst hw)
          go_roundg (gk - 1)
          case measure => omega
          case rel => exact ⟨j + 1, L, o, p, σ, by omega, rfl, by go_num, hR, hln, hed, HI2, hwl, hp, hL, hog⟩
        · have hpn : p.length < 200 ∨ (200 ≤ p.length ∧ s[j].toNat = 10) := by omega
          have HRc : Hid (∀ W x, AtT [] w x b σ W → Calls Try.prog 13 #[.pointer (some ⟨b, 0, none⟩), .int .i64 0, .string (s.extract j (j + 1))] W fun e w' => e = .returned (.int .i64 0) ∧ AtT [] w x b (σ.good s[j]).look w' ∧ Kq x W w') := fun W x hW => hW.calls fun S u h => by
            have := TReceive S u x b σ W 600000000000 h (Go.Clk.Inv.mk hiv.out (by omega) (by omega)) hwl.out 0 (s.extract j (j + 1)) (by rw [e2]; simp [maxLen]) (by rw [e2]; omega)
            rw [e1, show σ.receive 0 [s[j]] = ((σ.good s[j]).look, 0) from rfl] at this
            exact this
          have HTy : Hid (∀ W, LnAt L o p false false W → Calls Try.prog 14 #[.pointer (some ⟨L, 0, none⟩), .int .u8 s[j].toNat, .bool true, .bool true] W fun e w' => e = .returned (.tuple #[]) ∧ ∃ o', LnAt L o' (typed true true p s[j]).1 (typed true true p s[j]).2.1 (typed true true p s[j]).2.2 w' ∧ LnTo L o o' W w') := fun W hW => typed_any L o p W hW (by omega) s[j] true true
          have hwg : Well (σ.good s[j]).look := ((from_good σ s[j]).trans (from_look _)).well hwl.out
          have hwd : Well ((σ.good s[j]).look.drain 1099511627776).1 := (from_drain _ _).well hwg
          have hig := hed.out.inv_good s[j] (by omega) hc1 hc2 hiv.out
          have HAl : Hid (∀ W x, AtT [] w x b (σ.good s[j]).look W → ∃ ds, Calls Try.prog 15 #[.pointer (some ⟨b, 0, none⟩)] W fun e w' => e = .returned (.string ds) ∧ AtT [] w x b ((σ.good s[j]).look.drain 1099511627776).1 w' ∧ Kq x W w') := fun W x hW => ⟨_, hW.calls fun S u h => all_any S u x b _ W 600000000000 h (Go.Clk.Inv.mk hig (by omega) (by omega)) (by omega)⟩
          have hpl : (typed true true p s[j]).2.1 = false → (typed true true p s[j]).1.length ≤ 200 := by
            intro hq
            rcases hpn with hpn | ⟨_, hpn⟩
            · have := typed_len true true p s[j]; omega
            · unfold typed at hq; rw [if_neg (by omega), if_neg (by omega), if_neg (by omega), if_neg (by omega), if_pos (by omega)] at hq; cases hq
          cases hen : (typed true true p s[j]).2.1 with
          | false =>
            have hpn : p.length < 200 := by
              rcases hpn with h | ⟨_, h⟩
              · exact h
              · exfalso
                unfold typed at hen; rw [if_neg (by omega), if_neg (by omega), if_neg (by omega), if_neg (by omega), if_pos (by omega)] at hen; cases hen
            obtain ⟨hed2, hiv2⟩ := hed.out.typed_on s[j] (by omega) hc1 hc2 hen hiv.out
            have hpl2 := hpl hen
            have hfi : (typed true true p s[j]).2.2 = false := typed_file true true p s[j] hen
            rw [hen, hfi] at HTy
            have HE2 : Hid (Ed l (typed true true p s[j]).1 false [] ((σ.good s[j]).look.drain 1099511627776).1) := hed2
            have HI2 : Hid (InvC (2049 * ((j + 1 : Nat) : Int)) 2 ((σ.good s[j]).look.drain 1099511627776).1) := hiv2.mono (by omega) (by omega)
            have HW2 : Hid (Well ((σ.good s[j]).look.drain 1099511627776).1) := hwd
            clear hed2 hiv2 hwd hwg hig hpl hed hiv hwl hen hfi hS hc1 hc2 e1 e2 hc
            generalize ((σ.good s[j]).look.drain 1099511627776).1 = σ2 at *
            generalize (σ.good s[j]).look = σ1 at *
            generalize (typed true true p s[j]).1 = p2 at *
            have h200 : ¬ (200 : Int) ≤ (p.length : Int) := by omega
            clear hpn
            go_wp2_with (first
              | (go_at_call 12; refine (hsp _).mono ?_; clear hsp; rintro e w' ⟨rfl, hw⟩; have hw := hw.symm; subst hw)
              | (go_at_call 13; refine (HRc.out _ _ hR).mono ?_; clear HRc; rintro e V1 ⟨rfl, hV1, hk1⟩; have hn1 := hln.out.kq' hk1)
              | (go_at_call 14; refine (HTy.out _ hn1).mono ?_; clear HTy; rintro e V2 ⟨rfl, o2, hn2, ht2⟩; obtain ⟨hV2, ho2⟩ := hV1.line ht2 hL hog.out)
              | (go_at_call 15; obtain ⟨ds, hal⟩ := HAl.out _ _ hV2; refine hal.mono ?_; clear hal HAl; rintro e V3 ⟨rfl, hV3, hk3⟩; have hn3 := hn2.kq' hk3; obtain ⟨v3, hb3, _⟩ := hn3.ex; have k3 := hb3.cell 1 rfl; clear hb3))
            go_roundg (gk - 1)
            case measure => omega
            case rel => exact ⟨j + 1, L, o2, p2, σ2, by omega, rfl, by go_num, hV3, hn3, HE2, HI2, HW2, hpl2, hL, ho2⟩
          | true =>
            obtain ⟨hiv2, hr1, hr2, hed3, hiv3⟩ := hed.out.typed_end s[j] (by omega) hc1 hc2 hen hiv.out
            have HFe : Hid (∀ W x, AtT [] w x b ((σ.good s[j]).look.drain 1099511627776).1 W → Calls Try.prog 16 #[.pointer (some ⟨b, 0, none⟩), .int .i64 256] W fun e w' => e = .returned (.tuple #[.string (lineText (typed true true p s[j]).1 (typed true true p s[j]).2.2), .bool true]) ∧ AtT [] w x b (((σ.good s[j]).look.drain 1099511627776).1.read 256).1.take.1 w' ∧ Kq x W w') := fun W x hW => hW.calls fun S u h => by
              have := kfetch_any S u x b _ W 600000000000 h (Go.Clk.Inv.mk hiv2 (by omega) (by omega)) (by omega) hwd 256
              have hf : fetched ((σ.good s[j]).look.drain 1099511627776).1 256 = true := by unfold fetched; rw [hr1, hr2]; rfl
              rw [hf, hr2] at this
              exact this
            have hlen2 := typed_len true true p s[j]
            rw [hen] at HTy
            have HE2 : Hid (Ed l [] false [] (((σ.good s[j]).look.drain 1099511627776).1.read 256).1.take.1) := hed3
            have HI2 : Hid (InvC (2049 * ((j + 1 : Nat) : Int)) 2 (((σ.good s[j]).look.drain 1099511627776).1.read 256).1.take.1) := hiv3.mono (by omega) (by omega)
            have HW2 : Hid (Well (((σ.good s[j]).look.drain 1099511627776).1.read 256).1.take.1) := (from_take _).well ((from_read _ _).well hwd)
            clear hed3 hiv3 hiv2 hr1 hr2 hwd hwg hig hpl hed hiv hwl hen hS hc1 hc2 e1 e2 hc
            generalize (((σ.good s[j]).look.drain 1099511627776).1.read 256).1.take.1 = σ3 at *
            generalize ((σ.good s[j]).look.drain 1099511627776).1 = σ2 at *
            generalize (σ.good s[j]).look = σ1 at *
            generalize (typed true true p s[j]).2.2 = fi at *
            generalize (typed true true p s[j]).1 = p2 at *
            rcases hpn with hpn | ⟨hpn, h10⟩
            · have h200 : ¬ (200 : Int) ≤ (p.length : Int) := by omega
              go_wp2_with (first
                | (go_at_call 12; refine (hsp _).mono ?_; clear hsp; rintro e w' ⟨rfl, hw⟩; have hw := hw.symm; subst hw)
                | (go_at_call 13; refine (HRc.out _ _ hR).mono ?_; clear HRc; rintro e V1 ⟨rfl, hV1, hk1⟩; have hn1 := hln.out.kq' hk1)
                | (go_at_call 14; refine (HTy.out _ hn1).mono ?_; clear HTy; rintro e V2 ⟨rfl, o2, hn2, ht2⟩; obtain ⟨hV2, ho2⟩ := hV1.line ht2 hL hog.out)
                | (go_at_call 15; obtain ⟨ds, hal⟩ := HAl.out _ _ hV2; refine hal.mono ?_; clear hal HAl; rintro e V3 ⟨rfl, hV3, hk3⟩; have hn3 := hn2.kq' hk3; obtain ⟨v3, hb3, _⟩ := hn3.ex; have k3 := hb3.cell 1 rfl; clear hb3)
                | (go_at_call 16; refine (HFe.out _ _ hV3).mono ?_; clear HFe; rintro e V4 ⟨rfl, hV4, hk4⟩; have hn4 := hn3.kq' hk4)
                | (go_at_call 17; refine (text_any L o2 p2 true fi _ hn4 (by omega)).mono ?_; rintro e w' ⟨rfl, hw⟩; subst hw)
                | (refine wpList_box rfl (.tmp 89) 32 rfl [.slice none 0 0, .bool false, .bool false] rfl ?_))
              intro V5 L2 hid
              have hn5 : LnAt L2 none [] false false V5 := by obtain ⟨rfl, rfl⟩ := hid.out; exact ⟨⟨_, Blk.new V4 _ _, Sl.nil _ _ _⟩, fun g e => by cases e⟩
              have hV5 : AtT [] w (L2 :: (none : Option Nat).toList) b σ3 V5 := by obtain ⟨rfl, rfl⟩ := hid.out; exact (hV4.boxed _).weaken fun g hg => by simp at hg; simp [hg]
              have hL2 : w.heap.size ≤ L2 := by obtain ⟨rfl, rfl⟩ := hid.out; exact hV4.kp.size
              clear hid
              go_wp2_with fail
              go_roundg (gk - 1)
              case measure => omega
              case rel => exact ⟨j + 1, L2, none, [], σ3, by omega, rfl, by go_num, hV5, hn5, HE2, HI2, HW2, by simp, hL2, fun g e => by cases e⟩
            · have h200 : (200 : Int) ≤ (p.length : Int) := by omega
              have hn10 : ((s[j].toNat : Int) != 10) = false := by simp; omega
              clear h10
              go_wp2_with (first
                | (go_at_call 12; refine (hsp _).mono ?_; clear hsp; rintro e w' ⟨rfl, hw⟩; have hw := hw.symm; subst hw)
                | (go_at_call 13; refine (HRc.out _ _ hR).mono ?_; clear HRc; rintro e V1 ⟨rfl, hV1, hk1⟩; have hn1 := hln.out.kq' hk1)
                | (go_at_call 14; refine (HTy.out _ hn1).mono ?_; clear HTy; rintro e V2 ⟨rfl, o2, hn2, ht2⟩; obtain ⟨hV2, ho2⟩ := hV1.line ht2 hL hog.out)
                | (go_at_call 15; obtain ⟨ds, hal⟩ := HAl.out _ _ hV2; refine hal.mono ?_; clear hal HAl; rintro e V3 ⟨rfl, hV3, hk3⟩; have hn3 := hn2.kq' hk3; obtain ⟨v3, hb3, _⟩ := hn3.ex; have k3 := hb3.cell 1 rfl; clear hb3)
                | (go_at_call 16; refine (HFe.out _ _ hV3).mono ?_; clear HFe; rintro e V4 ⟨rfl, hV4, hk4⟩; have hn4 := hn3.kq' hk4)
                | (go_at_call 17; refine (text_any L o2 p2 true fi _ hn4 (by omega)).mono ?_; rintro e w' ⟨rfl, hw⟩; subst hw)
                | (refine wpList_box rfl (.tmp 89) 32 rfl [.slice none 0 0, .bool false, .bool false] rfl ?_))
              intro V5 L2 hid
              have hn5 : LnAt L2 none [] false false V5 := by obtain ⟨rfl, rfl⟩ := hid.out; exact ⟨⟨_, Blk.new V4 _ _, Sl.nil _ _ _⟩, fun g e => by cases e⟩
              have hV5 : AtT [] w (L2 :: (none : Option Nat).toList) b σ3 V5 := by obtain ⟨rfl, rfl⟩ := hid.out; exact (hV4.boxed _).weaken fun g hg => by simp at hg; simp [hg]
              have hL2 : w.heap.size ≤ L2 := by obtain ⟨rfl, rfl⟩ := hid.out; exact hV4.kp.size
              clear hid
              go_wp2_with fail
              go_roundg (gk - 1)
              case measure => omega
              case rel => exact ⟨j + 1, L2, none, [], σ3, by omega, rfl, by go_num, hV5, hn5, HE2, HI2, HW2, by simp, hL2, fun g e => by cases e⟩
    · obtain rfl : j = s.size := by omega
      obtain ⟨o1, c1, s1, q1, HS1⟩ := TStatus_l w b σ p.length false hed.out.inq.len hed.out.held
      clear hed hiv hwl
      go_wp2_with (first
        | (go_at_call 18; refine (HS1.out _ _ hR).mono ?_; clear HS1; rintro e V1 ⟨rfl, hV1, hk1⟩)
        | (refine wpList_store_whole rfl (.tmp 15) (.tmp 92) 42 rfl V1.heap.size rfl (stL p.length o1 c1 s1 false q1) rfl 42 zero6 (Blk.new V1 _ _) rfl rfl (stL_one _ _ _ _ _ _) ?_))
      intro V2 hb2 hg2 hz2
      obtain ⟨hV2, hk2⟩ := hV1.filled _ hg2
      have hn2 := (hln.out.kq' hk1).kq' hk2
      obtain ⟨v2, hb3, hs3⟩ := hn2.ex
      obtain ⟨la2, lcap2, rfl, _, _⟩ := hs3.shape
      have k3 := hb3.cell 0 rfl
      have k4 := hb2.cell 0 rfl
      have HKP : Hid (∀ k, Below w.heap.size w (V2.drewN k)) := fun k => below_of (hV2.drewN k)
      clear hb2 hb3 hs3 hg2 hz2 hV1 hk1 hk2 hV2 hn2
      go_wp2_with fail
      go_quiet (fail)
      go_wp2
      go_ret
      exact ⟨ret_bool (by simp), HKP.out _⟩
end Go.Proofs.Ytfnglkhhmplejaa
