/- Walks: the program: its settings are changed. -/
import Derived.Test.YtfnglkhhmplejaaGreatProg9
import Derived.Test.YtfnglkhhmplejaaGreatProg21
namespace Go.Proofs.YtfnglkhhmplejaaGreat
open Go Go.RowKit Go.Clk

theorem i64_xor_nat (a b : Nat) (ha : a < 8192) (hb : b < 8192) : bits .xor .i64 (a : Int) (b : Int) = ((a ^^^ b : Nat) : Int) := by
  have hx : a ^^^ b < 2 ^ 13 := Nat.xor_lt_two_pow (by omega) (by omega)
  have e1 : ∀ n : Nat, n < 8192 → (BitVec.ofInt 64 (n : Int)).toNat = n := fun n hn => by
    rw [BitVec.ofInt_natCast, BitVec.toNat_ofNat]; exact Nat.mod_eq_of_lt (by omega)
  show IntKind.i64.wrap ((BitVec.ofInt 64 (a : Int) ^^^ BitVec.ofInt 64 (b : Int)).toNat : Int) = _
  rw [BitVec.toNat_xor, e1 a ha, e1 b hb]
  exact wrap_small _ (by omega) (by omega)
theorem bit2_nat (a : Nat) : bit (a : Int) 2 = a.testBit 1 := by
  unfold bit
  rw [Nat.testBit_eq_decide_div_mod_eq]
  have e : ((a : Int) / 2 % 2) = ((a / 2 % 2 : Nat) : Int) := by omega
  rw [e]
  have h1 : a / 2 ^ 1 = a / 2 := by simp
  rw [h1, Bool.eq_iff_iff]
  simp
  omega
theorem xor_two (a b : Int) (a0 : 0 ≤ a) (a1 : a < 8192) (b0 : 0 ≤ b) (b1 : b < 8192) : hasB (bits .xor .i64 a b) 2 = (bit a 2 ^^ bit b 2) := by
  obtain ⟨A, rfl⟩ := Int.eq_ofNat_of_zero_le a0
  obtain ⟨B, rfl⟩ := Int.eq_ofNat_of_zero_le b0
  have hx : A ^^^ B < 2 ^ 13 := Nat.xor_lt_two_pow (by omega) (by omega)
  rw [i64_xor_nat A B (by omega) (by omega), has2 _ (by omega) (by omega), bit2_nat, Nat.testBit_xor, ← bit2_nat, ← bit2_nat]

theorem lit17 (s : List Int) (hs : s.length = 17) : i64s s = [.int .i64 (gt s 0), .int .i64 (gt s 1), .int .i64 (gt s 2), .int .i64 (gt s 3), .int .i64 (gt s 4), .int .i64 (gt s 5), .int .i64 (gt s 6), .int .i64 (gt s 7), .int .i64 (gt s 8), .int .i64 (gt s 9), .int .i64 (gt s 10), .int .i64 (gt s 11), .int .i64 (gt s 12), .int .i64 (gt s 13), .int .i64 (gt s 14), .int .i64 (gt s 15), .int .i64 (gt s 16)] := by
  match s, hs with
  | [a0, a1, a2, a3, a4, a5, a6, a7, a8, a9, a10, a11, a12, a13, a14, a15, a16], _ => rfl

theorem PV.s_all {S0 : List Nat} {w0 w : World} {x : List Nat} {b : Nat} {σ : St} {vi vu vo vs : Value} (h : PV S0 w0 x b σ vi vu vo vs w) (s : List Int) (hs : s.length = 17) : PV S0 w0 x b { σ with ss := s } vi vu vo vs (w.setCells b 0 (i64s s)) := by
  have h3 := h.2.sets (i64s s) 0
  have h4 : setAll (i64s σ.ss ++ ptl σ vi vu vo vs) 0 (i64s s) = i64s s ++ ptl σ vi vu vo vs := setAll_mid (i64s s) [] (i64s σ.ss) (ptl σ vi vu vo vs) (by rw [i64s_len, i64s_len, hs, h.1])
  rw [h4] at h3
  exact ⟨hs, h3⟩

/-- The settings are changed; those that come are clean already. -/
def chg (σ : St) (s : List Int) : St := { σ with ss := s, inq := if bit σ.l 2 = bit (gt s 2) 2 then σ.inq else St.forget σ.inq, quoted := bit (gt s 2) 2 && σ.quoted }

section
variable (S0 : List Nat) (w0 : World) (x : List Nat) (b : Nat) (σ : St) (w : World)

set_option maxHeartbeats 2000000 in
set_option maxRecDepth 100000 in
theorem change_any (h : AtP S0 w0 x b σ w) (hil : σ.inq.length ≤ 256) (l0 : 0 ≤ σ.l) (l1 : σ.l < 8192) (s : List Int) (hs : s.length = 17) (s0 : 0 ≤ gt s 2) (s1 : gt s 2 < 8192) :
    Calls Tryz.prog 50 #[.pointer (some ⟨b, 0, none⟩), .agg (i64s s).toArray] w fun e w' => e = .returned (.tuple #[]) ∧ AtP S0 w0 x b (chg σ s) w' := by
  obtain ⟨vi, vu, vo, vs, hV⟩ := h
  have hx2 := xor_two (gt s 2) σ.l s0 s1 l0 l1
  have ha2 := has2 (gt s 2) s0 s1
  have hlen : (i64s s).length = 17 := by rw [i64s_len, hs]
  have hi : (Tryz.prog.info? 29).map (·.size) = some (i64s s).length := by rw [hlen]; exact size_settings
  go_enter Tryz.func50, Tryz.ntmps50
  go_wp2_with (refine wpList_box rfl (.tmp 1) 29 rfl (i64s s) rfl ?_)
  intro W B hid
  have hB : PV S0 w0 (B :: x) b σ vi vu vo vs W := by obtain ⟨rfl, rfl⟩ := hid.out; exact hV.boxed _
  have hblk : Blk W B 29 (i64s s) := by obtain ⟨rfl, rfl⟩ := hid.out; exact Blk.new w _ _
  have hne : B ≠ b := hB.2.ne (by simp)
  have b2 : W.cell? ⟨B, 2, none⟩ = some (.int .i64 (gt s 2)) := hblk.cell 2 (by simp [i64s, gt, List.getD, List.getElem?_eq_getElem (show 2 < s.length by omega)])
  have k2 := hB.cl
  clear hid hV
  go_wp2_with fail
  go_cut [12] (fun s12 wx => s12 = .bool (bit (gt s 2) 2 ^^ bit σ.l 2) ∧ AtP S0 w0 (B :: x) b σ wx ∧ Blk wx B 29 (i64s s))
  case first =>
    have hm1 : AtP S0 w0 (B :: x) b σ W.drew := (hB.drew).r
    have hm2 : Blk W.drew B 29 (i64s s) := hblk
    go_region_with (go_at_call 52; refine (Has_any _ _ _).mono ?_; rintro e w' ⟨rfl, rfl⟩)
    all_goals (go_wp2_with fail; go_meet; exact ⟨rfl, hm1, hm2⟩)
  case rest =>
  clear hB hblk b2 k2 hx2
  obtain ⟨rfl, hR, hblk⟩ := hcut
  by_cases hsame : bit σ.l 2 = bit (gt s 2) 2
  · have hd : (bit (gt s 2) 2 ^^ bit σ.l 2) = false := by rw [hsame]; simp
    have HI : Hid (chg σ s = { σ with ss := s, quoted := bit (gt s 2) 2 && σ.quoted }) := by show chg σ s = _; unfold chg; rw [if_pos hsame]
    rw [hd]
    clear hd hsame
    obtain ⟨vi, vu, vo, vs, hD⟩ := hR
    have hDb := hblk
    have d2 := hDb.cell 2 (v := .int .i64 (gt s 2)) (by simp [i64s, gt, List.getD, List.getElem?_eq_getElem (show 2 < s.length by omega)])
    clear hblk
    cases hq : bit (gt s 2) 2
    · rw [hq] at ha2
      have k23 := hD.c_quo
      have f23 := hD.frozen 28
      have hO := hD.s_quo false
      have hOb := hDb.other ⟨b, 28, none⟩ (.bool false) hne
      clear hD hDb
      go_wp2_with (first | (go_at_call 52; refine (Has_any _ _ _).mono ?_; rintro e w' ⟨rfl, hw⟩; have hw := hw.symm; subst hw) | refine wpList_load_part rfl (.tmp 3) 29 rfl B 0 rfl (i64s s) _ ?hcpa Tryz.underlying29 rfl hi ?nextpa | refine wpList_store_part rfl (.tmp 27) (.tmp 25) 29 rfl b 0 rfl (i64s s) rfl 76 _ hO.2.blk ?hlpa hi (i64s_one _) ?_)
      case hcpa =>
        intro j v hv
        rw [Nat.zero_add]
        exact hOb.cell j hv
      case hlpa => have h17 : σ.ss.length = 17 := hO.1; first | (simp only [i64s_len]; omega) | (simp only [List.length_append, i64s_len]; omega)
      intro W2 hW2
      have hE := (hO.s_all s hs).r
      rw [← hW2.out] at hE
      clear hW2 hO hOb
      go_wp2
      go_end0
      have hE2 := hE.weaken (y := x) (fun g hg => by simp [hg])
      exact ⟨rfl, by rw [HI.out, hq]; exact hE2⟩
    · rw [hq] at ha2
      have hO := hD
      have hOb := hDb
      clear hD hDb
      go_wp2_with (first | (go_at_call 52; refine (Has_any _ _ _).mono ?_; rintro e w' ⟨rfl, hw⟩; have hw := hw.symm; subst hw) | refine wpList_load_part rfl (.tmp 3) 29 rfl B 0 rfl (i64s s) _ ?hcpb Tryz.underlying29 rfl hi ?nextpb | refine wpList_store_part rfl (.tmp 27) (.tmp 25) 29 rfl b 0 rfl (i64s s) rfl 76 _ hO.2.blk ?hlpb hi (i64s_one _) ?_)
      case hcpb =>
        intro j v hv
        rw [Nat.zero_add]
        exact hOb.cell j hv
      case hlpb => have h17 : σ.ss.length = 17 := hO.1; first | (simp only [i64s_len]; omega) | (simp only [List.length_append, i64s_len]; omega)
      intro W2 hW2
      have hE := (hO.s_all s hs).r
      rw [← hW2.out] at hE
      clear hW2 hO hOb
      go_wp2
      go_end0
      have hE2 := hE.weaken (y := x) (fun g hg => by simp [hg])
      exact ⟨rfl, by rw [HI.out, hq]; exact hE2⟩
  · have hd : (bit (gt s 2) 2 ^^ bit σ.l 2) = true := by revert hsame; cases bit (gt s 2) 2 <;> cases bit σ.l 2 <;> simp
    have HI : Hid (chg σ s = { σ with ss := s, inq := St.forget σ.inq, quoted := bit (gt s 2) 2 && σ.quoted }) := by show chg σ s = _; unfold chg; rw [if_neg hsame]
    rw [hd]
    clear hd hsame
    obtain ⟨S, hSR, hS1, hS2, hS3, hback⟩ := hR.rebase
    have hBS : B ∉ S := hS2 B (by simp)
    go_wp2_with fail
    refine (Forget_any S _ (B :: x) b σ _ hSR hil).mono ?_
    rintro r V ⟨rfl, hE⟩
    have hDb := hE.kp.blk hblk hBS
    obtain ⟨vi, vu, vo, vs, hD⟩ := hback _ _ hE
    clear hback hE hSR hS1 hS2 hS3 hBS hR hblk
    have d2 := hDb.cell 2 (v := .int .i64 (gt s 2)) (by simp [i64s, gt, List.getD, List.getElem?_eq_getElem (show 2 < s.length by omega)])
    cases hq : bit (gt s 2) 2
    · rw [hq] at ha2
      have k23 := hD.c_quo
      have f23 := hD.frozen 28
      have hO := hD.s_quo false
      have hOb := hDb.other ⟨b, 28, none⟩ (.bool false) hne
      clear hD hDb
      go_wp2_with (first | (go_at_call 52; refine (Has_any _ _ _).mono ?_; rintro e w' ⟨rfl, hw⟩; have hw := hw.symm; subst hw) | refine wpList_load_part rfl (.tmp 3) 29 rfl B 0 rfl (i64s s) _ ?hcqa Tryz.underlying29 rfl hi ?nextqa | refine wpList_store_part rfl (.tmp 27) (.tmp 25) 29 rfl b 0 rfl (i64s s) rfl 76 _ hO.2.blk ?hlqa hi (i64s_one _) ?_)
      case hcqa =>
        intro j v hv
        rw [Nat.zero_add]
        exact hOb.cell j hv
      case hlqa => have h17 : σ.ss.length = 17 := hO.1; first | (simp only [i64s_len]; omega) | (simp only [List.length_append, i64s_len]; omega)
      intro W2 hW2
      have hE := (hO.s_all s hs).r
      rw [← hW2.out] at hE
      clear hW2 hO hOb
      go_wp2
      go_end0
      have hE2 := hE.weaken (y := x) (fun g hg => by simp [hg])
      exact ⟨rfl, by rw [HI.out, hq]; exact hE2⟩
    · rw [hq] at ha2
      have hO := hD
      have hOb := hDb
      clear hD hDb
      go_wp2_with (first | (go_at_call 52; refine (Has_any _ _ _).mono ?_; rintro e w' ⟨rfl, hw⟩; have hw := hw.symm; subst hw) | refine wpList_load_part rfl (.tmp 3) 29 rfl B 0 rfl (i64s s) _ ?hcqb Tryz.underlying29 rfl hi ?nextqb | refine wpList_store_part rfl (.tmp 27) (.tmp 25) 29 rfl b 0 rfl (i64s s) rfl 76 _ hO.2.blk ?hlqb hi (i64s_one _) ?_)
      case hcqb =>
        intro j v hv
        rw [Nat.zero_add]
        exact hOb.cell j hv
      case hlqb => have h17 : σ.ss.length = 17 := hO.1; first | (simp only [i64s_len]; omega) | (simp only [List.length_append, i64s_len]; omega)
      intro W2 hW2
      have hE := (hO.s_all s hs).r
      rw [← hW2.out] at hE
      clear hW2 hO hOb
      go_wp2
      go_end0
      have hE2 := hE.weaken (y := x) (fun g hg => by simp [hg])
      exact ⟨rfl, by rw [HI.out, hq]; exact hE2⟩
end
end Go.Proofs.YtfnglkhhmplejaaGreat
