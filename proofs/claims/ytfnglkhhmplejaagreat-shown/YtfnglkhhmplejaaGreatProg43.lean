/- Walks: the program: what comes, one after the other: Receive. -/
import Derived.Test.YtfnglkhhmplejaaGreatProg42
namespace Go.Proofs.YtfnglkhhmplejaaGreat
open Go Go.RowKit Go.Clk Go.Shelf
section
variable (S0 : List Nat) (w0 : World) (x : List Nat) (b : Nat) (σ : St) (w : World) (K : Int)

theorem pcomes_snoc (F : St → UInt8 → St) (l : List UInt8) (c : UInt8) : ∀ σ : St, St.pcomes F σ (l ++ [c]) = (F (St.pcomes F σ l) c).plook := by
  induction l with
  | nil => intro σ; rfl
  | cons d r ih => intro σ; exact ih _
theorem pcomes_from (F : St → UInt8 → St) (hFr : ∀ τ c, From τ (F τ c)) (l : List UInt8) : ∀ σ : St, Well σ → Well (St.pcomes F σ l) := by
  induction l with
  | nil => intro σ h; exact h
  | cons d r ih => intro σ h; exact ih _ ((from_plook _).well ((hFr σ d).well h))
theorem pcomes_inv (F : St → UInt8 → St) (hI : ∀ {M : Int} {τ : St} (c : UInt8), Inv M τ → Inv (M + 2048) (F τ c)) (l : List UInt8) : ∀ {M : Int} {σ : St}, Inv M σ → Inv (M + 2049 * l.length) (St.pcomes F σ l) := by
  induction l with
  | nil => intro M σ h; simpa [St.pcomes] using h
  | cons d r ih =>
    intro M σ h
    refine (ih (hI d h).plook).mono ?_
    simp only [List.length_cons]; omega

set_option maxHeartbeats 2000000 in
set_option maxRecDepth 100000 in
/-- What comes, byte by byte, as long as it stands bounded between. -/
theorem eachCame_far (f : Nat) (F : St → UInt8 → St) (hen : Enters Tryz.prog f)
    (hF : ∀ (τ : St) (W : World) (M : Int) (c : UInt8), AtP S0 w0 x b τ W → Inv M τ → M + 2048 ≤ 1099511627776 → Calls Tryz.prog f #[.pointer (some ⟨b, 0, none⟩), .int .u8 c.toNat] W fun e w' => e = .returned (.tuple #[]) ∧ AtP S0 w0 x b (F τ c) w')
    (hI : ∀ {M : Int} {τ : St} (c : UInt8), Inv M τ → Inv (M + 2048) (F τ c)) (hFr : ∀ τ c, From τ (F τ c))
    (h : AtP S0 w0 x b σ w) (hw : Well σ) (s : ByteArray) (hs : s.size ≤ maxLen) (hP : ∀ j, j ≤ s.size → Inv K (St.pcomes F σ (s.data.toList.take j))) (hK : K + 2049 ≤ 1099511627776) :
    Calls Tryz.prog 31 #[.pointer (some ⟨b, 0, none⟩), .string s, .func (.func f) #[] #[]] w fun e w' => e = .returned (.tuple #[]) ∧ AtP S0 w0 x b (St.pcomes F σ s.data.toList) w' := by
  unfold maxLen at hs
  have hsz : s.data.toList.length = s.size := by rw [Array.length_toList]; rfl
  have hE : ∀ args w, (callFunc f args).run Tryz.prog w = .ok (.enter f args) w := hen
  have HF : Hid (∀ (τ : St) (W : World) (M : Int) (c : UInt8), AtP S0 w0 x b τ W → Inv M τ → M + 2048 ≤ 1099511627776 → Calls Tryz.prog f #[.pointer (some ⟨b, 0, none⟩), .int .u8 c.toNat] W fun e w' => e = .returned (.tuple #[]) ∧ AtP S0 w0 x b (F τ c) w') := hF
  have HP : Hid (∀ j, j ≤ s.size → Inv K (St.pcomes F σ (s.data.toList.take j))) := hP
  have HSZ : Hid (s.data.toList.length = s.size) := hsz
  clear hF hen hsz hP
  go_enter Tryz.func31, Tryz.ntmps31
  go_wp2_with fail
  go_loopg [6, 9] s.size (fun k _ iv wr => ∃ (j : Nat) (τ : St), j + k = s.size ∧ iv = .int .i64 j ∧ AtP S0 w0 x b τ wr ∧ Hid (St.pcomes F σ (s.data.toList.take j) = τ))
  case atStart => exact ⟨0, σ, by omega, rfl, h, rfl⟩
  case round =>
    obtain ⟨j, τ, hj, rfl, hR, hcm⟩ := hrel
    clear h
    by_cases hlt : j < s.size
    · have HD : Hid (St.pcomes F σ (s.data.toList.take (j + 1)) = (F τ s[j]).plook) := by
        show St.pcomes F σ _ = _
        rw [List.take_add_one, List.getElem?_eq_getElem (by rw [HSZ.out]; exact hlt)]
        show St.pcomes F σ (_ ++ [_]) = _
        rw [pcomes_snoc, hcm.out]; rfl
      have okτ := HP.out j (by omega)
      have hwτ := pcomes_from F hFr (s.data.toList.take j) σ hw
      rw [hcm.out] at okτ hwτ
      have hcall := HF.out τ wr K s[j] hR okτ (by omega)
      have ok2 := hI s[j] okτ
      have hw2 := (hFr τ s[j]).well hwτ
      have HL : Hid (∀ W, AtP S0 w0 x b (F τ s[j]) W → Calls Tryz.prog 35 #[.pointer (some ⟨b, 0, none⟩)] W fun e w' => e = .returned (.tuple #[]) ∧ AtP S0 w0 x b (F τ s[j]).plook w') := fun W hW => look_any S0 w0 x b _ W _ hW ok2 (by omega) hw2
      clear okτ hwτ hcm HF HP ok2 hw2 hR hw
      go_wp2_with fail
      refine hcall.mono ?_
      rintro e W1 ⟨rfl, hW1⟩
      go_wp2_with (go_at_call 35; refine (HL.out _ hW1).mono ?_; rintro e W2 ⟨rfl, hW2⟩)
      go_roundg (gk - 1)
      case measure => omega
      case rel => exact ⟨j + 1, _, by omega, by go_num, hW2, HD⟩
    · obtain rfl : j = s.size := by omega
      have HC : Hid (St.pcomes F σ s.data.toList = τ) := by
        show St.pcomes F σ s.data.toList = _
        have := hcm.out
        rw [List.take_of_length_le (by rw [HSZ.out]; exact Nat.le_refl _)] at this; exact this
      clear hcm HP
      go_wp2
      go_end0
      exact ⟨rfl, by rw [HC.out]; exact hR⟩
theorem eachCame_any (f : Nat) (F : St → UInt8 → St) (hen : Enters Tryz.prog f)
    (hF : ∀ (τ : St) (W : World) (M : Int) (c : UInt8), AtP S0 w0 x b τ W → Inv M τ → M + 2048 ≤ 1099511627776 → Calls Tryz.prog f #[.pointer (some ⟨b, 0, none⟩), .int .u8 c.toNat] W fun e w' => e = .returned (.tuple #[]) ∧ AtP S0 w0 x b (F τ c) w')
    (hI : ∀ {M : Int} {τ : St} (c : UInt8), Inv M τ → Inv (M + 2048) (F τ c)) (hFr : ∀ τ c, From τ (F τ c))
    (h : AtP S0 w0 x b σ w) (ok : Inv K σ) (hw : Well σ) (s : ByteArray) (hs : s.size ≤ maxLen) (hK : K + 2049 * (s.size + 1) ≤ 1099511627776) :
    Calls Tryz.prog 31 #[.pointer (some ⟨b, 0, none⟩), .string s, .func (.func f) #[] #[]] w fun e w' => e = .returned (.tuple #[]) ∧ AtP S0 w0 x b (St.pcomes F σ s.data.toList) w' :=
  eachCame_far S0 w0 x b σ w (K + 2049 * s.size) f F hen hF hI hFr h hw s hs (fun j hj => (pcomes_inv F hI _ ok).mono (by simp only [List.length_take]; omega)) (by omega)

set_option maxHeartbeats 1000000 in
set_option maxRecDepth 100000 in
theorem PReceive_any (h : AtP S0 w0 x b σ w) (ok : Inv K σ) (hw : Well σ) (k : Int) (s : ByteArray) (hs : s.size ≤ maxLen) (hK : K + 2049 * (s.size + 1) ≤ 1099511627776) :
    Calls Tryz.prog 13 #[.pointer (some ⟨b, 0, none⟩), .int .i64 k, .string s] w fun e w' => e = .returned (.int .i64 (σ.preceive k s.data.toList).2) ∧ AtP S0 w0 x b (σ.preceive k s.data.toList).1 w' := by
  have HR : Hid (∀ k, σ.preceive k s.data.toList = if k < 0 ∨ 2 < k then (σ, 1) else if k = 2 then (σ.broken.plook, 0) else if k = 1 then (St.pcomes St.wrong σ s.data.toList, 0) else (St.pcomes St.good σ s.data.toList, 0)) := fun _ => rfl
  by_cases hk : k < 0 ∨ 2 < k
  · have e1 : Hid (σ.preceive k s.data.toList = (σ, 1)) := by show σ.preceive k s.data.toList = _; rw [HR.out, if_pos hk]
    have k0 : (k == 0) = false := by simp; omega
    have k1 : (k == 1) = false := by simp; omega
    have k2 : (k == 2) = false := by simp; omega
    clear HR
    go_enter Tryz.func13, Tryz.ntmps13
    go_wp2
    go_ret
    rw [e1.out]
    exact ⟨rfl, h⟩
  · have hk3 : k = 0 ∨ k = 1 ∨ k = 2 := by omega
    rcases hk3 with rfl | rfl | rfl
    · have e1 : Hid (σ.preceive 0 s.data.toList = (St.pcomes St.good σ s.data.toList, 0)) := by show σ.preceive 0 s.data.toList = _; rw [HR.out, if_neg (by omega), if_neg (by omega), if_neg (by omega)]
      have hec := eachCame_any S0 w0 x b σ w K 32 St.good (enters_of Tryz.func32 (by kernel_rfl) rfl) (fun τ W M c hW okτ hM => goodCame_any S0 w0 x b τ W M hW okτ hM c) (fun c hi => hi.good c) from_good h ok hw s hs hK
      clear HR hk
      go_enter Tryz.func13, Tryz.ntmps13
      go_wp2_with (go_at_call 31; refine hec.mono ?_; rintro e W2 ⟨rfl, hW2⟩)
      go_ret
      rw [e1.out]
      exact ⟨rfl, hW2⟩
    · have e1 : Hid (σ.preceive 1 s.data.toList = (St.pcomes St.wrong σ s.data.toList, 0)) := by show σ.preceive 1 s.data.toList = _; rw [HR.out, if_neg (by omega), if_neg (by omega), if_pos rfl]
      have hec := eachCame_any S0 w0 x b σ w K 33 St.wrong (enters_of Tryz.func33 (by kernel_rfl) rfl) (fun τ W M c hW okτ hM => wrongCame_any S0 w0 x b τ W M hW okτ (by omega) c) (fun c hi => hi.wrong c) from_wrong h ok hw s hs hK
      clear HR hk
      go_enter Tryz.func13, Tryz.ntmps13
      go_wp2_with (go_at_call 31; refine hec.mono ?_; rintro e W2 ⟨rfl, hW2⟩)
      go_ret
      rw [e1.out]
      exact ⟨rfl, hW2⟩
    · have e1 : Hid (σ.preceive 2 s.data.toList = (σ.broken.plook, 0)) := by show σ.preceive 2 s.data.toList = _; rw [HR.out, if_neg (by omega), if_pos rfl]
      have hbr := breakCame_any S0 w0 x b σ w K h ok (by omega)
      have ok2 := ok.broken
      have hw2 := (from_broken σ).well hw
      clear HR hk
      go_enter Tryz.func13, Tryz.ntmps13
      go_wp2_with (first | (go_at_call 34; refine hbr.mono ?_; rintro e W1 ⟨rfl, hW1⟩) | (go_at_call 35; refine (look_any S0 w0 x b _ _ _ hW1 ok2 (by omega) hw2).mono ?_; rintro e W2 ⟨rfl, hW2⟩))
      go_ret
      rw [e1.out]
      exact ⟨rfl, hW2⟩
set_option maxHeartbeats 1000000 in
set_option maxRecDepth 100000 in
theorem PReceive_far (h : AtP S0 w0 x b σ w) (hw : Well σ) (s : ByteArray) (hs : s.size ≤ maxLen) (hP : ∀ j, j ≤ s.size → Inv K (St.pcomes St.good σ (s.data.toList.take j))) (hK : K + 2049 ≤ 1099511627776) :
    Calls Tryz.prog 13 #[.pointer (some ⟨b, 0, none⟩), .int .i64 0, .string s] w fun e w' => e = .returned (.int .i64 0) ∧ AtP S0 w0 x b (St.pcomes St.good σ s.data.toList) w' := by
  have hec := eachCame_far S0 w0 x b σ w K 32 St.good (enters_of Tryz.func32 (by kernel_rfl) rfl) (fun τ W M c hW okτ hM => goodCame_any S0 w0 x b τ W M hW okτ hM c) (fun c hi => hi.good c) from_good h hw s hs hP hK
  clear hP
  go_enter Tryz.func13, Tryz.ntmps13
  go_wp2_with (go_at_call 31; refine hec.mono ?_; rintro e W2 ⟨rfl, hW2⟩)
  go_ret
  exact ⟨rfl, hW2⟩
end
end Go.Proofs.YtfnglkhhmplejaaGreat
