/- Walks: the program: what comes, one after the other: Receive. -/
import Derived.Test.YtfnglkhhmplejaaGreatProg42
import Derived.Test.YtfnglkhhmplejaaGreatP28
import Derived.Test.YtfnglkhhmplejaaGreatP12
import Derived.Test.YtfnglkhhmplejaaGreatProg8
namespace Go.Proofs.YtfnglkhhmplejaaGreat
open Go Go.RowKit Go.Clk Go.Shelf
section
variable (S0 : List Nat) (w0 : World) (x : List Nat) (b : Nat) (σ : St) (w : World) (K : Int)

theorem pcomes_snoc (F : St → UInt8 → St) (l : List UInt8) (c : UInt8) : ∀ σ : St, St.pcomes F σ (l ++ [c]) = (F (St.pcomes F σ l) c).plook := by
  induction l with
  | nil => intro σ; rfl
  | cons d r ih => intro σ; exact ih _
theorem pcomes_from (F : St → UInt8 → St) (hFr : ∀ τ c, From τ (F τ c)) (l : List UInt8) : ∀ σ : St, Well σ → Well (St.pcomes F σ l) := by
  induction l with
  | nil => intro σ h; exact h
  | cons d r ih => intro σ h; exact ih _ ((from_plook _).well ((hFr σ d).well h))
theorem pcomes_inv (F : St → UInt8 → St) (hI : ∀ {M : Int} {τ : St} (c : UInt8), Inv M τ → Inv (M + 2048) (F τ c)) (l : List UInt8) : ∀ {M : Int} {σ : St}, Inv M σ → Inv (M + 2049 * l.length) (St.pcomes F σ l) := by
  induction l with
  | nil => intro M σ h; simpa [St.pcomes] using h
  | cons d r ih =>
    intro M σ h
    refine (ih (hI d h).plook).mono ?_
    simp only [List.length_cons]; omega

set_option maxHeartbeats 2000000 in
set_option maxRecDepth 100000 in
/-- What comes, byte by byte, as long as it stands bounded between. -/
theorem eachCame_far (f : Nat) (F : St → UInt8 → St) (hen : Enters Tryz.prog f)
    (hF : ∀ (τ : St) (W : World) (M : Int) (c : UInt8), AtP S0 w0 x b τ W → Inv M τ → M + 2048 ≤ 1099511627776 → Calls Tryz.prog f #[.pointer (some ⟨b, 0, none⟩), .int .u8 c.toNat] W fun e w' => e = .returned (.tuple #[]) ∧ AtP S0 w0 x b (F τ c) w')
    (hI : ∀ {M : Int} {τ : St} (c : UInt8), Inv M τ → Inv (M + 2048) (F τ c)) (hFr : ∀ τ c, From τ (F τ c))
    (h : AtP S0 w0 x b σ w) (hw : Well σ) (s : ByteArray) (hs : s.size ≤ maxLen) (hP : ∀ j, j ≤ s.size → Inv K (St.pcomes F σ (s.data.toList.take j))) (hK : K + 2049 ≤ 1099511627776) :
    Calls Tryz.prog 31 #[.pointer (some ⟨b, 0, none⟩), .string s, .func (.func f) #[] #[]] w fun e w' => e = .returned (.tuple #[]) ∧ AtP S0 w0 x b (St.pcomes F σ s.data.toList) w' := by
  unfold maxLen at hs
  have hsz : s.data.toList.length = s.size := by rw [Array.length_toList]; rfl
  have hE : ∀ args w, (callFunc f args).run Tryz.prog w = .ok (.enter f args) w := hen
  have HF : Hid (∀ (τ : St) (W : World) (M : Int) (c : UInt8), AtP S0 w0 x b τ W → Inv M τ → M + 2048 ≤ 1099511627776 → Calls Tryz.prog f #[.pointer (some ⟨b, 0, none⟩), .int .u8 c.toNat] W fun e w' => e = .returned (.tuple #[]) ∧ AtP S0 w0 x b (F τ c) w') := hF
  have HP : Hid (∀ j, j ≤ s.size → Inv K (St.pcomes F σ (s.data.toList.take j))) := hP
  have HSZ : Hid (s.data.toList.length = s.size) := hsz
  clear hF hen hsz hP
  go_enter Tryz.func31, Tryz.ntmps31
  go_wp2_with fail
  go_loopg [6, 9] s.size (fun k _ iv wr => ∃ (j : Nat) (τ : St), j + k = s.size ∧ iv = .int .i64 j ∧ AtP S0 w0 x b τ wr ∧ Hid (St.pcomes F σ (s.data.toList.take j) = τ))
  case atStart => exact ⟨0, σ, by omega, rfl, h, rfl⟩
  case round =>
    obtain ⟨j, τ, hj, rfl, hR, hcm⟩ := hrel
    clear h
    by_cases hlt : j < s.size
    · have HD : Hid (St.pcomes F σ (s.data.toList.take (j + 1)) = (F τ s[j]).plook) := by
        show St.pcomes F σ _ = _
        rw [List.take_add_one, List.getElem?_eq_getElem (by rw [HSZ.out]; exact hlt)]
        show St.pcomes F σ (_ ++ [_]) = _
        rw [pcomes_snoc, hcm.out]; rfl
      have okτ := HP.out j (by omega)
      have hwτ := pcomes_from F hFr (s.data.toList.take j) σ hw
      rw [hcm.out] at okτ hwτ
      have hcall := HF.out τ wr K s[j] hR okτ (by omega)
      have ok2 := hI s[j] okτ
      have hw2 := (hFr τ s[j]).well hwτ
      have HL : Hid (∀ W, AtP S0 w0 x b (F τ s[j]) W → Calls Tryz.prog 35 #[.pointer (some ⟨b, 0, none⟩)] W fun e w' => e = .returned (.tuple #[]) ∧ AtP S0 w0 x b (F τ s[j]).plook w') := fun W hW => look_any S0 w0 x b _ W _ hW ok2 (by omega) hw2
      clear okτ hwτ hcm HF HP ok2 hw2 hR hw
      go_wp2_with fail
      refine hcall.mono ?_
      rintro e W1 ⟨rfl, hW1⟩
      go_wp2_with (go_at_call 35; refine (HL.out _ hW1).mono ?_; rintro e W2 ⟨rfl, hW2⟩)
      go_roundg (gk - 1)
      case measure => omega
      case rel => exact ⟨j + 1, _, by omega, by go_num, hW2, HD⟩
    · obtain rfl : j = s.size := by omega
      have HC : Hid (St.pcomes F σ s.data.toList = τ) := by
        show St.pcomes F σ s.data.toList = _
        have := hcm.out
        rw [List.take_of_length_le (by rw [HSZ.out]; exact Nat.le_refl _)] at this; exact this
      clear hcm HP
      go_wp2
      go_end0
      exact ⟨rfl, by rw [HC.out]; exact hR⟩
theorem eachCame_any (f : Nat) (F : St → UInt8 → St) (hen : Enters Tryz.prog f)
    (hF : ∀ (τ : St) (W : World) (M : Int) (c : UInt8), AtP S0 w0 x b τ W → Inv M τ → M + 2048 ≤ 1099511627776 → Calls Tryz.prog f #[.pointer (some ⟨b, 0, none⟩), .int .u8 c.toNat] W fun e w' => e = .returned (.tuple #[]) ∧ AtP S0 w0 x b (F τ c) w')
    (hI : ∀ {M : Int} {τ : St} (c : UInt8), Inv M τ → Inv (M + 2048) (F τ c)) (hFr : ∀ τ c, From τ (F τ c))
    (h : AtP S0 w0 x b σ w) (ok : Inv K σ) (hw : Well σ) (s : ByteArray) (hs : s.size ≤ maxLen) (hK : K + 2049 * (s.size + 1) ≤ 1099511627776) :
    Calls Tryz.prog 31 #[.pointer (some ⟨b, 0, none⟩), .string s, .func (.func f) #[] #[]] w fun e w' => e = .returned (.tuple #[]) ∧ AtP S0 w0 x b (St.pcomes F σ s.data.toList) w' :=
  eachCame_far S0 w0 x b σ w (K + 2049 * s.size) f F hen hF hI hFr h hw s hs (fun j hj => (pcomes_inv F hI _ ok).mono (by simp only [List.length_take]; omega)) (by omega)

set_option maxHeartbeats 1000000 in
set_option maxRecDepth 100000 in
theorem PReceive_any (h : AtP S0 w0 x b σ w) (ok : Inv K σ) (hw : Well σ) (k : Int) (s : ByteArray) (hs : s.size ≤ maxLen) (hK : K + 2049 * (s.size + 1) ≤ 1099511627776) :
    Calls Tryz.prog 13 #[.pointer (some ⟨b, 0, none⟩), .int .i64 k, .string s] w fun e w' => e = .returned (.int .i64 (σ.preceive k s.data.toList).2) ∧ AtP S0 w0 x b (σ.preceive k s.data.toList).1 w' := by
  have HR : Hid (∀ k, σ.preceive k s.data.toList = if k < 0 ∨ 2 < k then (σ, 1) else if k = 2 then (σ.broken.plook, 0) else if k = 1 then (St.pcomes St.wrong σ s.data.toList, 0) else (St.pcomes St.good σ s.data.toList, 0)) := fun _ => rfl
  by_cases hk : k < 0 ∨ 2 < k
  · have e1 : Hid (σ.preceive k s.data.toList = (σ, 1)) := by show σ.preceive k s.data.toList = _; rw [HR.out, if_pos hk]
    have k0 : (k == 0) = false := by simp; omega
    have k1 : (k == 1) = false := by simp; omega
    have k2 : (k == 2) = false := by simp; omega
    clear HR
    go_enter Tryz.func13, Tryz.ntmps13
    go_wp2
    go_ret
    rw [e1.out]
    exact ⟨rfl, h⟩
  · have hk3 : k = 0 ∨ k = 1 ∨ k = 2 := by omega
    rcases hk3 with rfl | rfl | rfl
    · have e1 : Hid (σ.preceive 0 s.data.toList = (St.pcomes St.good σ s.data.toList, 0)) := by show σ.preceive 0 s.data.toList = _; rw [HR.out, if_neg (by omega), if_neg (by omega), if_neg (by omega)]
      have hec := eachCame_any S0 w0 x b σ w K 32 St.good (enters_of Tryz.func32 (by kernel_rfl) rfl) (fun τ W M c hW okτ hM => goodCame_any S0 w0 x b τ W M hW okτ hM c) (fun c hi => hi.good c) from_good h ok hw s hs hK
      clear HR hk
      go_enter Tryz.func13, Tryz.ntmps13
      go_wp2_with (go_at_call 31; refine hec.mono ?_; rintro e W2 ⟨rfl, hW2⟩)
      go_ret
      rw [e1.out]
      exact ⟨rfl, hW2⟩
    · have e1 : Hid (σ.preceive 1 s.data.toList = (St.pcomes St.wrong σ s.data.toList, 0)) := by show σ.preceive 1 s.data.toList = _; rw [HR.out, if_neg (by omega), if_neg (by omega), if_pos rfl]
      have hec := eachCame_any S0 w0 x b σ w K 33 St.wrong (enters_of Tryz.func33 (by kernel_rfl) rfl) (fun τ W M c hW okτ hM => wrongCame_any S0 w0 x b τ W M hW okτ (by omega) c) (fun c hi => hi.wrong c) from_wrong h ok hw s hs hK
      clear HR hk
      go_enter Tryz.func13, Tryz.ntmps13
      go_wp2_with (go_at_call 31; refine hec.mono ?_; rintro e W2 ⟨rfl, hW2⟩)
      go_ret
      rw [e1.out]
      exact ⟨rfl, hW2⟩
    · have e1 : Hid (σ.preceive 2 s.data.toList = (σ.broken.plook, 0)) := by show σ.preceive 2 s.data.toList = _; rw [HR.out, if_neg (by omega), if_pos rfl]
      have hbr := breakCame_any S0 w0 x b σ w K h ok (by omega)
      have ok2 := ok.broken
      have hw2 := (from_broken σ).well hw
      clear HR hk
      go_enter Tryz.func13, Tryz.ntmps13
      go_wp2_with (first | (go_at_call 34; refine hbr.mono ?_; rintro e W1 ⟨rfl, hW1⟩) | (go_at_call 35; refine (look_any S0 w0 x b _ _ _ hW1 ok2 (by omega) hw2).mono ?_; rintro e W2 ⟨rfl, hW2⟩))
      go_ret
      rw [e1.out]
      exact ⟨rfl, hW2⟩
set_option maxHeartbeats 1000000 in
set_option maxRecDepth 100000 in
theorem PReceive_far (h : AtP S0 w0 x b σ w) (hw : Well σ) (s : ByteArray) (hs : s.size ≤ maxLen) (hP : ∀ j, j ≤ s.size → Inv K (St.pcomes St.good σ (s.data.toList.take j))) (hK : K + 2049 ≤ 1099511627776) :
    Calls Tryz.prog 13 #[.pointer (some ⟨b, 0, none⟩), .int .i64 0, .string s] w fun e w' => e = .returned (.int .i64 0) ∧ AtP S0 w0 x b (St.pcomes St.good σ s.data.toList) w' := by
  have hec := eachCame_far S0 w0 x b σ w K 32 St.good (enters_of Tryz.func32 (by kernel_rfl) rfl) (fun τ W M c hW okτ hM => goodCame_any S0 w0 x b τ W M hW okτ hM c) (fun c hi => hi.good c) from_good h hw s hs hP hK
  clear hP
  go_enter Tryz.func13, Tryz.ntmps13
  go_wp2_with (go_at_call 31; refine hec.mono ?_; rintro e W2 ⟨rfl, hW2⟩)
  go_ret
  exact ⟨rfl, hW2⟩
end
end Go.Proofs.YtfnglkhhmplejaaGreat
namespace Go.Proofs.YtfnglkhhmplejaaGreat
open Go Go.RowKit Go.Clk
/-- The terminal at b stands as the document's σ. -/
def AtT (S0 : List Nat) (w0 : World) (x : List Nat) (b : Nat) (σ : St) (w : World) : Prop := ∃ ρ, Sim ρ σ ∧ AtP S0 w0 x b ρ w
section
variable {S0 : List Nat} {w0 w : World} {x : List Nat} {b : Nat} {σ : St}
theorem AtT.same {w1 : World} (h : AtT S0 w0 x b σ w) (hg : w.grownBy w1 none) : AtT S0 w0 x b σ w1 := by obtain ⟨ρ, hs, h⟩ := h; exact ⟨ρ, hs, h.same hg⟩
theorem AtT.drew (h : AtT S0 w0 x b σ w) : AtT S0 w0 x b σ w.drew := by obtain ⟨ρ, hs, h⟩ := h; exact ⟨ρ, hs, h.drew⟩
theorem AtT.weaken {y : List Nat} (h : AtT S0 w0 x b σ w) (hy : ∀ g, g ∈ y → g ∈ x) : AtT S0 w0 y b σ w := by obtain ⟨ρ, hs, h⟩ := h; exact ⟨ρ, hs, h.weaken hy⟩
theorem AtT.boxed (h : AtT S0 w0 x b σ w) (o : Obj) : AtT S0 w0 (w.heap.size :: x) b σ (w.alloc o) := by obtain ⟨ρ, hs, h⟩ := h; exact ⟨ρ, hs, h.boxed o⟩
theorem AtT.kp (h : AtT S0 w0 x b σ w) : Kp S0 w0 w := by obtain ⟨ρ, hs, h⟩ := h; exact h.kp
theorem AtT.lt (h : AtT S0 w0 x b σ w) : b < w.heap.size := by obtain ⟨ρ, hs, ⟨vi, vu, vo, vs, h⟩⟩ := h; exact h.lt
theorem AtT.below (h : AtT S0 w0 x b σ w) {g : Nat} (hg : g ∈ x) : g < w.heap.size := by obtain ⟨ρ, hs, ⟨vi, vu, vo, vs, h⟩⟩ := h; exact h.2.below hg
theorem AtT.ne (h : AtT S0 w0 x b σ w) {g : Nat} (hg : g ∈ x) : g ≠ b := by obtain ⟨ρ, hs, ⟨vi, vu, vo, vs, h⟩⟩ := h; exact h.2.ne hg
theorem AtT.rebase (h : AtT S0 w0 x b σ w) : ∃ S, AtT S w x b σ w ∧ (∀ k, k ∈ S → k < w.heap.size) ∧ (∀ g, g ∈ x → g ∉ S) ∧ (∀ k, k ∈ S → k ∈ S0 ∨ w0.heap.size ≤ k) ∧ ∀ σ' w', AtT S w x b σ' w' → AtT S0 w0 x b σ' w' := by
  obtain ⟨ρ, hs, h⟩ := h
  obtain ⟨S, h1, h2, h3, h4, h5⟩ := h.rebase
  exact ⟨S, ⟨ρ, hs, h1⟩, h2, h3, h4, fun σ' w' ⟨ρ', hs', h'⟩ => ⟨ρ', hs', h5 _ _ h'⟩⟩
theorem AtT.poke (h : AtT S0 w0 x b σ w) {g : Nat} (hg : g ∈ x) (h0 : w0.heap.size ≤ g) (k : Nat) (v : Value) : AtT S0 w0 x b σ (w.setCell ⟨g, k, none⟩ v) := by
  obtain ⟨ρ, hs, ⟨vi, vu, vo, vs, h⟩⟩ := h; exact ⟨ρ, hs, (h.poke hg h0 k v).r⟩
/-- A block that it keeps clear of turns. -/
theorem AtT.grown {w1 : World} {o : Option Nat} (h : AtT S0 w0 x b σ w) (hg : w.grownBy w1 o) (hx : ∀ g, o = some g → g ∈ x ∧ w0.heap.size ≤ g) : AtT S0 w0 x b σ w1 := by
  obtain ⟨ρ, hs, ⟨vi, vu, vo, vs, h⟩⟩ := h; exact ⟨ρ, hs, vi, vu, vo, vs, h.1, h.2.grown hg hx⟩
theorem well_sim {ρ σ : St} (h : Sim ρ σ) (hw : Well σ) : Well ρ := by
  obtain ⟨c1, c2, _⟩ := h.core
  intro e he
  rw [c2] at he
  have : ρ.L 2 = σ.L 2 := by unfold St.L St.l; rw [c1]
  rw [this]; exact hw e he
end
section
variable (S0 : List Nat) (w0 : World) (x : List Nat) (b : Nat) (σ : St) (w : World) (K : Int)
theorem TNew : Calls Tryz.prog 26 #[] w fun e w' => ∃ b, e = .returned (.pointer (some ⟨b, 0, none⟩)) ∧ AtT [] w [] b newS w' :=
  (New_any w).mono fun _ _ ⟨b, h1, h2⟩ => ⟨b, h1, newS, Sim.new, h2⟩
theorem TGet (h : AtT S0 w0 x b σ w) : Calls Tryz.prog 11 #[.pointer (some ⟨b, 0, none⟩)] w fun e w' => e = .returned (.agg (i64s σ.ss).toArray) ∧ AtT S0 w0 x b σ w' := by
  obtain ⟨ρ, hs, h⟩ := h
  have := Get_any S0 w0 x b ρ w h
  rw [hs.core.1] at this
  exact this.mono fun e w' ⟨h1, h2⟩ => ⟨h1, ρ, hs, h2⟩
theorem TStatus (h : AtT S0 w0 x b σ w) : Calls Tryz.prog 20 #[.pointer (some ⟨b, 0, none⟩)] w fun e w' => e = .returned (statusV σ) ∧ AtT S0 w0 x b σ w' := by
  obtain ⟨ρ, hs, h⟩ := h
  have := PStatus_any S0 w0 x b ρ w h
  have e1 : statusV ρ = statusV σ := by
    obtain ⟨c1, c2, c3, c4, c5, c6, c7, c8, c9⟩ := hs.core
    unfold statusV; rw [c2, c3, c5, c6, c7, c8]
  rw [e1] at this
  exact this.mono fun e w' ⟨h1, h2⟩ => ⟨h1, ρ, hs, h2⟩
theorem TSignals (h : AtT S0 w0 x b σ w) : Calls Tryz.prog 130 #[.pointer (some ⟨b, 0, none⟩)] w fun e w' => ∃ v o, e = .returned v ∧ Sl w' 3 1 v σ.noted.length (i64s σ.noted) o ∧ (∀ g, o = some g → g ≠ b ∧ g ∉ x ∧ (g ∈ S0 ∨ w0.heap.size ≤ g)) ∧ AtT S0 w0 (o.toList ++ x) b σ.signals.1 w' := by
  obtain ⟨ρ, hs, h⟩ := h
  have := PSignals_any S0 w0 x b ρ w h
  rw [hs.core.2.2.2.2.2.2.2.2] at this
  exact this.mono fun e w' ⟨v, o, h1, h2, h3, h4⟩ => ⟨v, o, h1, h2, h3, _, (signals_comm2.sim hs).1, h4⟩
theorem TWrite (h : AtT S0 w0 x b σ w) (ok : Inv K σ) (hK : K ≤ 1099511627776) (s : ByteArray) (hs : s.size ≤ maxLen) :
    Calls Tryz.prog 40 #[.pointer (some ⟨b, 0, none⟩), .string s] w fun e w' => e = .returned (.int .i64 ((σ.write s.data.toList).2 : Nat)) ∧ AtT S0 w0 x b (σ.write s.data.toList).1 w' := by
  obtain ⟨ρ, hsm, h⟩ := h
  have okρ := hsm.inv ok
  have := PWrite_any S0 w0 x b ρ w _ h okρ.ok (by omega) okρ.out s hs
  have h2 := (write_comm2 s.data.toList).sim hsm
  rw [h2.2] at this
  exact this.mono fun e w' ⟨h1, h3⟩ => ⟨h1, _, h2.1, h3⟩
theorem TDrain_no (h : AtT S0 w0 x b σ w) (n : Int) (hn : n < 0) :
    Calls Tryz.prog 27 #[.pointer (some ⟨b, 0, none⟩), .int .i64 n] w fun e w' => e = .returned (.tuple #[.string (str []), .int .i64 2]) ∧ AtT S0 w0 x b σ w' := by
  obtain ⟨ρ, hsm, h⟩ := h
  exact (PDrain_no S0 w0 x b ρ w h n hn).mono fun e w' ⟨h1, h3⟩ => ⟨h1, _, hsm, h3⟩
theorem TDrain (h : AtT S0 w0 x b σ w) (ok : Inv K σ) (hK : K ≤ 1099511627776) (n : Int) (hn : 0 ≤ n) (hn' : n ≤ 9223372036854775807) :
    Calls Tryz.prog 27 #[.pointer (some ⟨b, 0, none⟩), .int .i64 n] w fun e w' => e = .returned (.tuple #[.string (str (σ.drain n.toNat).2), .int .i64 0]) ∧ AtT S0 w0 x b (σ.drain n.toNat).1 w' := by
  obtain ⟨ρ, hsm, h⟩ := h
  have okρ := hsm.inv ok
  have := PDrain_any S0 w0 x b ρ w h n hn hn' (by have := okρ.urg; omega) okρ.out
  have h2 := (drain_comm2 n.toNat).sim hsm
  rw [h2.2] at this
  exact this.mono fun e w' ⟨h1, h3⟩ => ⟨h1, _, h2.1, h3⟩
theorem TReceive (h : AtT S0 w0 x b σ w) (ok : Inv K σ) (hw : Well σ) (k : Int) (s : ByteArray) (hs : s.size ≤ maxLen) (hK : K + 2049 * (s.size + 1) ≤ 1099511627776) :
    Calls Tryz.prog 13 #[.pointer (some ⟨b, 0, none⟩), .int .i64 k, .string s] w fun e w' => e = .returned (.int .i64 (σ.receive k s.data.toList).2) ∧ AtT S0 w0 x b (σ.receive k s.data.toList).1 w' := by
  obtain ⟨ρ, hsm, h⟩ := h
  have := PReceive_any S0 w0 x b ρ w K h (hsm.inv ok) (well_sim hsm hw) k s hs hK
  have h2 := hsm.receive ok k s.data.toList
  rw [h2.2] at this
  exact this.mono fun e w' ⟨h1, h3⟩ => ⟨h1, _, h2.1, h3⟩
theorem TRead (h : AtT S0 w0 x b σ w) (ok : Inv K σ) (hK : K ≤ 1099511627776) (hw : Well σ) (n : Int) :
    Calls Tryz.prog 28 #[.pointer (some ⟨b, 0, none⟩), .int .i64 n] w fun e w' => e = .returned (.int .i64 (σ.read n).2) ∧ AtT S0 w0 x b (σ.read n).1 w' := by
  obtain ⟨ρ, hsm, h⟩ := h
  have := PRead_any S0 w0 x b ρ w K h (hsm.inv ok) hK (well_sim hsm hw) n
  have h2 := hsm.read ok n
  rw [h2.2] at this
  exact this.mono fun e w' ⟨h1, h3⟩ => ⟨h1, _, h2.1, h3⟩
theorem TTake (h : AtT S0 w0 x b σ w) (ok : Inv K σ) :
    Calls Tryz.prog 29 #[.pointer (some ⟨b, 0, none⟩)] w fun e w' => e = .returned (.tuple #[.string (str σ.take.2.1), .bool σ.take.2.2.1, .int .i64 σ.take.2.2.2]) ∧ AtT S0 w0 x b σ.take.1 w' := by
  obtain ⟨ρ, hsm, h⟩ := h
  have := PTake_any S0 w0 x b ρ w h
  have h2 := hsm.take ok
  rw [h2.2] at this
  exact this.mono fun e w' ⟨h1, h3⟩ => ⟨h1, _, h2.1, h3⟩
theorem TTick (h : AtT S0 w0 x b σ w) (ok : Inv K σ) (hK : K + 1 ≤ 1099511627776) (hw : Well σ) :
    Calls Tryz.prog 65 #[.pointer (some ⟨b, 0, none⟩)] w fun e w' => e = .returned (.tuple #[]) ∧ AtT S0 w0 x b σ.tick w' := by
  obtain ⟨ρ, hsm, h⟩ := h
  exact (PTick_any S0 w0 x b ρ w K h (hsm.inv ok) hK (well_sim hsm hw)).mono fun e w' ⟨h1, h3⟩ => ⟨h1, _, hsm.tick ok, h3⟩
theorem TSet (h : AtT S0 w0 x b σ w) (ok : Inv K σ) (hK : K ≤ 1099511627776) (hw : Well σ) (s : List Int) (hs : s.length = 17) (k : Int) :
    Calls Tryz.prog 30 #[.pointer (some ⟨b, 0, none⟩), .agg (i64s s).toArray, .int .i64 k] w fun e w' => e = .returned (.int .i64 (σ.set s k).2) ∧ AtT S0 w0 x b (σ.set s k).1 w' := by
  obtain ⟨ρ, hsm, h⟩ := h
  have := PSet_any S0 w0 x b ρ w K h (hsm.inv ok) hK (well_sim hsm hw) s hs k
  have h2 := hsm.set ok s k
  rw [h2.2] at this
  exact this.mono fun e w' ⟨h1, h3⟩ => ⟨h1, _, h2.1, h3⟩
/-- What comes without a bound, as long as the terminal stands bounded between. -/
theorem TReceive_far (h : AtT S0 w0 x b σ w) (ok : Inv K σ) (hw : Well σ) (s : ByteArray) (hs : s.size ≤ maxLen) (hP : ∀ j, j ≤ s.size → Inv K (σ.receive 0 (s.data.toList.take j)).1) (hK : K + 2049 ≤ 1099511627776) :
    Calls Tryz.prog 13 #[.pointer (some ⟨b, 0, none⟩), .int .i64 0, .string s] w fun e w' => e = .returned (.int .i64 0) ∧ AtT S0 w0 x b (σ.receive 0 s.data.toList).1 w' := by
  obtain ⟨ρ, hsm, h⟩ := h
  have e0 : ∀ l, ρ.preceive 0 l = (St.pcomes St.good ρ l, 0) := fun l => by unfold St.preceive; rw [if_neg (by omega), if_neg (by omega), if_neg (by omega)]
  have := PReceive_far S0 w0 x b ρ w K h (well_sim hsm hw) s hs (fun j hj => by
    have h2 := (hsm.receive ok 0 (s.data.toList.take j)).1
    rw [e0] at h2
    exact h2.inv (hP j hj)) hK
  have h2 := (hsm.receive ok 0 s.data.toList).1
  rw [e0] at h2
  exact this.mono fun e w' ⟨h1, h3⟩ => ⟨h1, _, h2, h3⟩
set_option maxHeartbeats 1000000 in
set_option maxRecDepth 100000 in
theorem PFlush_any (h : AtP S0 w0 x b σ w) (ok : Inv K σ) (hK : K + 2048 ≤ 1099511627776) (hw : Well σ) (k : Int) :
    Calls Tryz.prog 67 #[.pointer (some ⟨b, 0, none⟩), .int .i64 k] w fun e w' => e = .returned (.int .i64 (σ.pflush k).2) ∧ AtP S0 w0 x b (σ.pflush k).1 w' := by
  by_cases hk : k < 1 ∨ 3 < k
  · have e1 : Hid (σ.pflush k = (σ, 1)) := by show σ.pflush k = _; unfold St.pflush; rw [if_pos hk]
    have k0 : (k == 1) = false := by simp; omega
    have k1 : (k == 2) = false := by simp; omega
    have k2 : (k == 3) = false := by simp; omega
    go_enter Tryz.func67, Tryz.ntmps67
    go_wp2
    go_ret
    rw [e1.out]
    exact ⟨rfl, h⟩
  · have hcut : ∀ (i : List Ent) (o : List UInt8), (i = σ.inq ∨ i = []) → (o = σ.out ∨ o = []) → Inv (K + 2048) { σ with inq := i, out := o } := by
      intro i o hi ho
      have q1 := ok.c1; have q2 := ok.out; have q3 := ok.inq; have q4 := ok.urg; have q5 := ok.noted; have q6 := ok.w1; have q7 := ok.cells
      refine ⟨ok.s, ok.c0, ?_, ?_, ?_, ?_, by dsimp only; omega, by dsimp only; omega, ok.data, ok.n0, ok.n1, ok.w0, by dsimp only; omega⟩
      · dsimp only; omega
      · rcases ho with rfl | rfl <;> simp [q2]
      · rcases hi with rfl | rfl <;> simp [q3]
      · rcases hi with rfl | rfl
        · exact q7
        · simp
    have hwl : ∀ (i : List Ent) (o : List UInt8), (i = σ.inq ∨ i = []) → Well { σ with inq := i, out := o } := by
      intro i o hi e he
      rcases hi with rfl | rfl
      · exact hw e he
      · cases he
    have hk3 : k = 1 ∨ k = 2 ∨ k = 3 := by omega
    rcases hk3 with rfl | rfl | rfl
    · have e1 : Hid (σ.pflush 1 = (({ σ with inq := [] } : St).plook, 0)) := by show σ.pflush 1 = _; unfold St.pflush; rw [if_neg (by omega), if_neg (by omega), if_pos rfl]
      have o1 : Inv (K + 2048) { σ with inq := [] } := hcut [] σ.out (.inr rfl) (.inl rfl)
      have o2 : Well { σ with inq := [] } := hwl [] σ.out (.inr rfl)
      clear hcut hwl hk
      go_enter Tryz.func67, Tryz.ntmps67
      go_wp2_with (first
        | (go_at_call 49; refine (qClear_any S0 w0 x b _ _ h).mono ?_; rintro e W1 ⟨rfl, hW1⟩)
        | (go_at_call 35; refine (look_any S0 w0 x b _ _ _ hW1 o1 (by omega) o2).mono ?_; rintro e W2 ⟨rfl, hW2⟩))
      go_ret
      rw [e1.out]
      exact ⟨rfl, hW2⟩
    · have e1 : Hid (σ.pflush 2 = (({ σ with out := [] } : St).plook, 0)) := by show σ.pflush 2 = _; unfold St.pflush; rw [if_neg (by omega), if_pos rfl, if_neg (by omega)]
      have o1 : Inv (K + 2048) { σ with out := [] } := hcut σ.inq [] (.inl rfl) (.inr rfl)
      have o2 : Well { σ with out := [] } := hwl σ.inq [] (.inl rfl)
      clear hcut hwl hk
      go_enter Tryz.func67, Tryz.ntmps67
      go_wp2_with (first
        | (go_at_call 96; refine (oClear_any S0 w0 x b _ _ h).mono ?_; rintro e W1 ⟨rfl, hW1⟩)
        | (go_at_call 35; refine (look_any S0 w0 x b _ _ _ hW1 o1 (by omega) o2).mono ?_; rintro e W2 ⟨rfl, hW2⟩))
      go_ret
      rw [e1.out]
      exact ⟨rfl, hW2⟩
    · have e1 : Hid (σ.pflush 3 = (({ σ with inq := [], out := [] } : St).plook, 0)) := by show σ.pflush 3 = _; unfold St.pflush; rw [if_neg (by omega), if_neg (by omega), if_neg (by omega)]
      have o1 : Inv (K + 2048) { σ with inq := [], out := [] } := hcut [] [] (.inr rfl) (.inr rfl)
      have o2 : Well { σ with inq := [], out := [] } := hwl [] [] (.inr rfl)
      clear hcut hwl hk
      go_enter Tryz.func67, Tryz.ntmps67
      go_wp2_with (first
        | (go_at_call 81; refine (emptyBoth_any S0 w0 x b _ _ h).mono ?_; rintro e W1 ⟨rfl, hW1⟩)
        | (go_at_call 35; refine (look_any S0 w0 x b _ _ _ hW1 o1 (by omega) o2).mono ?_; rintro e W2 ⟨rfl, hW2⟩))
      go_ret
      rw [e1.out]
      exact ⟨rfl, hW2⟩
theorem TFlush (h : AtT S0 w0 x b σ w) (ok : Inv K σ) (hK : K + 2048 ≤ 1099511627776) (hw : Well σ) (k : Int) :
    Calls Tryz.prog 67 #[.pointer (some ⟨b, 0, none⟩), .int .i64 k] w fun e w' => e = .returned (.int .i64 (σ.flush k).2) ∧ AtT S0 w0 x b (σ.flush k).1 w' := by
  obtain ⟨ρ, hsm, h⟩ := h
  have := PFlush_any S0 w0 x b ρ w K h (hsm.inv ok) hK (well_sim hsm hw) k
  have h2 := hsm.flush ok k
  rw [h2.2] at this
  exact this.mono fun e w' ⟨h1, h3⟩ => ⟨h1, _, h2.1, h3⟩
set_option maxHeartbeats 1000000 in
set_option maxRecDepth 100000 in
theorem PFlow_any (h : AtP S0 w0 x b σ w) (ok : Inv K σ) (hK : K ≤ 1099511627776) (k : Int) :
    Calls Tryz.prog 69 #[.pointer (some ⟨b, 0, none⟩), .int .i64 k] w fun e w' => e = .returned (.int .i64 (σ.flow k).2) ∧ AtP S0 w0 x b (σ.flow k).1 w' := by
  by_cases h1 : k = 1
  · subst h1
    have e1 : Hid (σ.flow 1 = ({ σ with stopped := true }, 0)) := rfl
    go_enter Tryz.func69, Tryz.ntmps69
    go_wp2_with (go_at_call 97; refine (SetStopped_any S0 w0 x b σ _ h true).mono ?_; rintro e W1 ⟨rfl, hW1⟩)
    go_ret
    rw [e1.out]
    exact ⟨rfl, hW1⟩
  by_cases h2 : k = 2
  · subst h2
    have e1 : Hid (σ.flow 2 = ({ σ with stopped := false }, 0)) := rfl
    go_enter Tryz.func69, Tryz.ntmps69
    go_wp2_with (go_at_call 97; refine (SetStopped_any S0 w0 x b σ _ h false).mono ?_; rintro e W1 ⟨rfl, hW1⟩)
    go_ret
    rw [e1.out]
    exact ⟨rfl, hW1⟩
  by_cases h3 : k = 3
  · subst h3
    have e1 : Hid (σ.flow 3 = (σ.urge 9, 0)) := rfl
    go_enter Tryz.func69, Tryz.ntmps69
    go_wp2_with (go_at_call 86; refine (purge_any S0 w0 x b σ _ K h ok hK 9 (by omega) _ rfl).mono ?_; rintro e W1 ⟨rfl, hW1⟩)
    go_ret
    rw [e1.out]
    exact ⟨rfl, hW1⟩
  by_cases h4 : k = 4
  · subst h4
    have e1 : Hid (σ.flow 4 = (σ.urge 8, 0)) := rfl
    go_enter Tryz.func69, Tryz.ntmps69
    go_wp2_with (go_at_call 86; refine (purge_any S0 w0 x b σ _ K h ok hK 8 (by omega) _ rfl).mono ?_; rintro e W1 ⟨rfl, hW1⟩)
    go_ret
    rw [e1.out]
    exact ⟨rfl, hW1⟩
  · have e1 : Hid (σ.flow k = (σ, 1)) := by show σ.flow k = _; unfold St.flow; rw [if_neg h1, if_neg h2, if_neg h3, if_neg h4]
    have k1 : (k == 1) = false := by simp; omega
    have k2 : (k == 2) = false := by simp; omega
    have k3 : (k == 3) = false := by simp; omega
    have k4 : (k == 4) = false := by simp; omega
    go_enter Tryz.func69, Tryz.ntmps69
    go_wp2
    go_ret
    rw [e1.out]
    exact ⟨rfl, h⟩
theorem TFlow (h : AtT S0 w0 x b σ w) (ok : Inv K σ) (hK : K ≤ 1099511627776) (k : Int) :
    Calls Tryz.prog 69 #[.pointer (some ⟨b, 0, none⟩), .int .i64 k] w fun e w' => e = .returned (.int .i64 (σ.flow k).2) ∧ AtT S0 w0 x b (σ.flow k).1 w' := by
  obtain ⟨ρ, hsm, h⟩ := h
  have := PFlow_any S0 w0 x b ρ w K h (hsm.inv ok) hK k
  have h2 := (flow_comm2 k).sim hsm
  rw [h2.2] at this
  exact this.mono fun e w' ⟨h1, h3⟩ => ⟨h1, _, h2.1, h3⟩
end
end Go.Proofs.YtfnglkhhmplejaaGreat
