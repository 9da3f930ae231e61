/- Walks: the program: Set. -/
import Derived.Test.YtfnglkhhmplejaaGreatProg10
import Derived.Test.YtfnglkhhmplejaaGreatProg12
import Derived.Test.YtfnglkhhmplejaaGreatProg28
namespace Go.Proofs.YtfnglkhhmplejaaGreat
open Go Go.RowKit Go.Clk

section
variable (S0 : List Nat) (w0 : World) (x : List Nat) (b : Nat) (σ : St) (w : World) (K : Int)

theorem gt_norm (s : List Int) (k : Nat) (hk : k < 17) : gt (normS s) k = gt s k % lim k := by
  rw [← partS_all s s, partS_get _ _ _ _ hk, if_pos hk]
theorem chg_norm (s : List Int) : chg σ (normS s) = σ.change s := by
  unfold chg St.change
  rw [gt_norm s 2 (by omega)]
  rfl
theorem AtP.same {S0 : List Nat} {w0 w w1 : World} {x : List Nat} {b : Nat} {σ : St} (h : AtP S0 w0 x b σ w) (hg : w.grownBy w1 none) : AtP S0 w0 x b σ w1 := by obtain ⟨vi, vu, vo, vs, hV⟩ := h; exact (hV.same hg).r
theorem size_settings2 : (Tryz.prog.info? 29).map (·.size) = some 17 := by kernel_rfl

set_option maxHeartbeats 2000000 in
set_option maxRecDepth 100000 in
/-- What is done with new settings: they are known, put in force, and looked after. -/
theorem PSet_any (h : AtP S0 w0 x b σ w) (ok : Inv K σ) (hK : K ≤ 1099511627776) (hw : Well σ) (s : List Int) (hs : s.length = 17) (k : Int) :
    Calls Tryz.prog 30 #[.pointer (some ⟨b, 0, none⟩), .agg (i64s s).toArray, .int .i64 k] w fun e w' => e = .returned (.int .i64 (σ.pset s k).2) ∧ AtP S0 w0 x b (σ.pset s k).1 w' := by
  have l0 := ok.ok.l0; have l1 := ok.ok.l1
  have e0 : 0 ≤ gt (normS s) 2 := by rw [gt_norm s 2 (by omega)]; exact Int.emod_nonneg _ (by decide)
  have e1 : gt (normS s) 2 < 8192 := by rw [gt_norm s 2 (by omega)]; have := Int.emod_lt_of_pos (gt s 2) (show (0 : Int) < 1024 by omega); show gt s 2 % 1024 < 8192; omega
  have HCL : Hid (∀ (τ : St) (W : World), Inv K τ → Well τ → AtP S0 w0 x b τ W → Calls Tryz.prog 50 #[.pointer (some ⟨b, 0, none⟩), .agg (i64s (normS s)).toArray] W fun e w' => e = .returned (.tuple #[]) ∧ AtP S0 w0 x b (τ.change s) w') := by
    intro τ W okτ _ hW
    have := change_any S0 w0 x b τ W hW okτ.inq okτ.ok.l0 okτ.ok.l1 (normS s) (by simp [normS]) e0 e1
    rw [chg_norm] at this
    exact this
  have HLK : Hid (∀ (τ : St) (W : World), Inv K τ → Well τ → AtP S0 w0 x b (τ.change s) W → Calls Tryz.prog 35 #[.pointer (some ⟨b, 0, none⟩)] W fun e w' => e = .returned (.tuple #[]) ∧ AtP S0 w0 x b (τ.change s).plook w') :=
    fun τ W okτ hwτ hW => look_any S0 w0 x b (τ.change s) W K hW (okτ.change s) hK (hwτ.change s)
  have HI : Hid (Inv K σ) := ok
  have HW : Hid (Well σ) := hw
  clear ok hw l0 l1 e0 e1
  obtain ⟨vi, vu, vo, vs, hV⟩ := h
  go_enter Tryz.func30, Tryz.ntmps30
  go_wp2_with (refine wpList_box rfl (.tmp 1) 29 rfl (i64s s) rfl ?_)
  intro W B hid
  have hB : PV S0 w0 (B :: x) b σ vi vu vo vs W := by obtain ⟨rfl, rfl⟩ := hid.out; exact hV.boxed _
  have hblk : Blk W B 29 (i64s s) := by obtain ⟨rfl, rfl⟩ := hid.out; exact Blk.new w _ _
  clear hid hV
  obtain ⟨oo, hso, _, _, _⟩ := hB.lens_out
  obtain ⟨ao, co, rfl, _, _⟩ := hso.shape
  have ko := hB.c_out
  have hR : AtP S0 w0 x b σ W := (hB.weaken fun g hg => by simp [hg]).r
  have HB : Hid (Blk W B 29 (i64s s)) := hblk
  have hsl : (i64s s).length = 17 := by rw [i64s_len, hs]
  clear hso hblk
  have hlen := Len_any b W ao σ.out.length co ko
  by_cases hk : k < 0 ∨ 2 < k
  · have HE : Hid (σ.pset s k = (σ, 1)) := by show σ.pset s k = _; unfold St.pset; rw [if_pos hk]
    have k0 : (k != 0) = true := by simp; omega
    have k1 : (k != 1) = true := by simp; omega
    have k2 : (k != 2) = true := by simp; omega
    clear HCL HLK hlen
    go_wp2_with fail
    go_ret
    rw [HE.out]
    exact ⟨rfl, hR⟩
  · have HSame : Hid (∀ W1, W.grownBy W1 none → AtP S0 w0 x b σ W1) := fun W1 hg => ((hB.weaken (y := x) fun g hg => by simp [hg]).same hg).r
    by_cases k0 : k = 0
    · subst k0
      have HE : Hid (σ.pset s 0 = ((σ.change s).plook, 0)) := by show σ.pset s 0 = _; unfold St.pset; rw [if_neg (by omega), if_neg (by omega), if_neg (by omega)]
      go_wp2_with (first
                | (refine wpList_load_part rfl (.tmp 4) 29 rfl B 0 rfl (i64s s) _ (fun j v hv => by rw [Nat.zero_add]; exact HB.out.cell j hv) Tryz.underlying29 rfl (by rw [hsl]; exact size_settings2) ?_)
                | (go_at_call 37; refine hlen.mono ?_; rintro e w' ⟨rfl, hw⟩; subst hw)
                | (go_at_call 51; refine (known_any _ s hs).mono ?_; rintro e W1 ⟨rfl, hG1⟩; have hR1 := HSame.out W1 hG1)
                | (go_at_call 50; refine (HCL.out _ _ HI.out HW.out hR1).mono ?_; rintro e W2 ⟨rfl, hR2⟩)
                | (go_at_call 35; refine (HLK.out _ _ HI.out HW.out hR2).mono ?_; rintro e W3 ⟨rfl, hR3⟩))
      go_ret
      rw [HE.out]
      exact ⟨rfl, hR3⟩
    · have hk12 : k = 1 ∨ k = 2 := by omega
      by_cases ho : 0 < σ.out.length
      · have HE : Hid (σ.pset s k = (σ, 3)) := by
          show σ.pset s k = _; unfold St.pset; rw [if_neg hk, if_pos ⟨by omega, fun e => by rw [e] at ho; simp at ho⟩]
        have ho' : 0 < (σ.out.length : Int) := by omega
        have ho2 : decide (0 < (σ.out.length : Int)) = true := decide_eq_true ho'
        clear HCL HLK HSame
        rcases hk12 with rfl | rfl
        · go_wp2_with (go_at_call 37; refine hlen.mono ?_; rintro e w' ⟨rfl, hw⟩; subst hw)
          go_ret
          rw [HE.out]
          exact ⟨rfl, hR⟩
        · go_wp2_with (go_at_call 37; refine hlen.mono ?_; rintro e w' ⟨rfl, hw⟩; subst hw)
          go_ret
          rw [HE.out]
          exact ⟨rfl, hR⟩
      · have ho0 : σ.out.length = 0 := by omega
        rw [ho0] at hlen
        have HO : Hid (σ.out = []) := List.eq_nil_of_length_eq_zero ho0
        rcases hk12 with rfl | rfl
        · have HE : Hid (σ.pset s 1 = ((σ.change s).plook, 0)) := by show σ.pset s 1 = _; unfold St.pset; rw [if_neg (by omega), if_neg (fun h => h.2 HO.out), if_neg (by omega)]
          clear HO ho0 ho
          go_wp2_with (first
                | (refine wpList_load_part rfl (.tmp 4) 29 rfl B 0 rfl (i64s s) _ (fun j v hv => by rw [Nat.zero_add]; exact HB.out.cell j hv) Tryz.underlying29 rfl (by rw [hsl]; exact size_settings2) ?_)
                | (go_at_call 37; refine hlen.mono ?_; rintro e w' ⟨rfl, hw⟩; subst hw)
                | (go_at_call 51; refine (known_any _ s hs).mono ?_; rintro e W1 ⟨rfl, hG1⟩; have hR1 := HSame.out W1 hG1)
                | (go_at_call 50; refine (HCL.out _ _ HI.out HW.out hR1).mono ?_; rintro e W2 ⟨rfl, hR2⟩)
                | (go_at_call 35; refine (HLK.out _ _ HI.out HW.out hR2).mono ?_; rintro e W3 ⟨rfl, hR3⟩))
          go_ret
          rw [HE.out]
          exact ⟨rfl, hR3⟩
        · have HE : Hid (σ.pset s 2 = ((({ σ with inq := [] } : St).change s).plook, 0)) := by show σ.pset s 2 = _; unfold St.pset; rw [if_neg (by omega), if_neg (fun h => h.2 HO.out), if_pos rfl]
          have HI2 : Hid (Inv K { σ with inq := [] }) := HI.out.inq_ [] (by simp) (by simp)
          have HW2 : Hid (Well { σ with inq := [] }) := fun e he => by cases he
          obtain ⟨S, hSR, hS1, hS2, hS3, hback⟩ := hB.r.rebase
          have hBS : B ∉ S := hS2 B (by simp)
          have hcl := qClear_any S W (B :: x) b σ W hSR
          clear HO ho0 ho hSR hS1 hS2 hS3 HSame hR
          go_wp2_with (first
                | (go_at_call 37; refine hlen.mono ?_; rintro e w' ⟨rfl, hw⟩; subst hw)
                | (go_at_call 49; refine hcl.mono ?_; rintro e W0 ⟨rfl, hR0⟩; have HB2 : Hid (Blk W0 B 29 (i64s s)) := hR0.kp.blk HB.out hBS; have hR0b := (hback _ _ hR0).weaken (y := x) fun g hg => by simp [hg])
                | (refine wpList_load_part rfl (.tmp 4) 29 rfl B 0 rfl (i64s s) _ (fun j v hv => by rw [Nat.zero_add]; exact HB2.out.cell j hv) Tryz.underlying29 rfl (by rw [hsl]; exact size_settings2) ?_)
                | (go_at_call 51; refine (known_any _ s hs).mono ?_; rintro e W1 ⟨rfl, hG1⟩; have hR1 := hR0b.same hG1)
                | (go_at_call 50; refine (HCL.out _ _ HI2.out HW2.out hR1).mono ?_; rintro e W2 ⟨rfl, hR2⟩)
                | (go_at_call 35; refine (HLK.out _ _ HI2.out HW2.out hR2).mono ?_; rintro e W3 ⟨rfl, hR3⟩))
          go_ret
          rw [HE.out]
          exact ⟨rfl, hR3⟩
end
end Go.Proofs.YtfnglkhhmplejaaGreat
