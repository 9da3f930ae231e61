/- Walks: the program: a byte is echoed. -/
import Derived.Test.YtfnglkhhmplejaaGreatProg6
import Derived.Test.YtfnglkhhmplejaaGreatBase2
namespace Go.Proofs.YtfnglkhhmplejaaGreat
open Go Go.RowKit Go.Clk

section
variable (S0 : List Nat) (w0 : World) (x : List Nat) (b : Nat) (σ : St) (w : World) (K : Int)

/-- Bytes that lie in a new block are put out together. -/
theorem putOut_new (h : AtP S0 w0 x b σ w) (ok : Inv K σ) (hK : K ≤ 1099511627776) (l : List UInt8) (hn : l.length ≤ 10000) (cs : Array Value) (hcs : cs = (bys l).toArray) (n : Nat) (hl : n = l.length) :
    Calls Tryz.prog 60 #[.pointer (some ⟨b, 0, none⟩), .slice (some ⟨w.heap.size, 0, none⟩) n n] (w.alloc (.cells cs 5)) fun e w' => e = .returned (.bool (σ.put l).2) ∧ AtP S0 w0 x b (σ.put l).1 w' := by
  subst hcs hl
  refine (putOut_any S0 w0 (w.heap.size :: x) b σ _ _ (h.boxed _) ok.ok (by omega) ok.out _ l (some w.heap.size) (Sl.made w (bys l) l.length 5 1 (bys_len l) (by unfold maxLen; omega)) hn).mono ?_
  rintro e w' ⟨rfl, h'⟩
  exact ⟨rfl, h'.weaken fun g hg => by simp [hg]⟩
set_option maxHeartbeats 1000000 in
set_option maxRecDepth 100000 in
theorem Column_any (n : Int) (hc : w.cell? ⟨b, 20, none⟩ = some (.int .i64 n)) :
    Calls Tryz.prog 38 #[.pointer (some ⟨b, 18, none⟩)] w fun e w' => e = .returned (.int .i64 n) ∧ w' = w := by
  go_enter Tryz.func38, Tryz.ntmps38
  go_wp2
  go_ret
  exact ⟨rfl, rfl⟩
set_option maxHeartbeats 1000000 in
set_option maxRecDepth 100000 in
theorem echoes_any (hc : w.cell? ⟨b, 2, none⟩ = some (.int .i64 σ.l)) (l0 : 0 ≤ σ.l) (l1 : σ.l < 8192) (c : UInt8) :
    Calls Tryz.prog 133 #[.pointer (some ⟨b, 0, none⟩), .int .u8 c.toNat] w fun e w' => e = .returned (.bool (σ.echoes c)) ∧ w' = w := by
  have a4 := has4 σ.l l0 l1
  have a34 := has34 σ.l l0 l1
  have HE : Hid (σ.echoes c = (bit σ.l 4 || (((c.toNat : Int) == 10) && (bit σ.l 32 && bit σ.l 2)))) := rfl
  cases h4 : bit σ.l 4 with
  | true =>
    rw [h4] at a4
    go_enter Tryz.func133, Tryz.ntmps133
    go_wp2_with (go_at_call 52; refine (Has_any _ _ _).mono ?_; rintro e w' ⟨rfl, rfl⟩)
    go_ret
    exact ⟨ret_bool (by rw [HE.out, h4]; rfl), rfl⟩
  | false =>
    rw [h4] at a4
    cases h10 : ((c.toNat : Int) == 10) with
    | true =>
      cases h32 : bit σ.l 32 with
      | true =>
        cases h2 : bit σ.l 2 with
        | true =>
          rw [h32, h2] at a34
          go_enter Tryz.func133, Tryz.ntmps133
          go_wp2_with (go_at_call 52; refine (Has_any _ _ _).mono ?_; rintro e w' ⟨rfl, rfl⟩)
          go_ret
          exact ⟨ret_bool (by rw [HE.out, h4, h10, h32, h2]; rfl), rfl⟩
        | false =>
          rw [h32, h2] at a34
          go_enter Tryz.func133, Tryz.ntmps133
          go_wp2_with (go_at_call 52; refine (Has_any _ _ _).mono ?_; rintro e w' ⟨rfl, rfl⟩)
          go_ret
          exact ⟨ret_bool (by rw [HE.out, h4, h10, h32, h2]; rfl), rfl⟩
      | false =>
        rw [h32] at a34
        go_enter Tryz.func133, Tryz.ntmps133
        go_wp2_with (go_at_call 52; refine (Has_any _ _ _).mono ?_; rintro e w' ⟨rfl, rfl⟩)
        go_ret
        exact ⟨ret_bool (by rw [HE.out, h4, h10, h32]; rfl), rfl⟩
    | false =>
      go_enter Tryz.func133, Tryz.ntmps133
      go_wp2_with (go_at_call 52; refine (Has_any _ _ _).mono ?_; rintro e w' ⟨rfl, rfl⟩)
      go_ret
      exact ⟨ret_bool (by rw [HE.out, h4, h10]; rfl), rfl⟩
set_option maxHeartbeats 1000000 in
set_option maxRecDepth 100000 in
theorem two_any (hc : w.cell? ⟨b, 2, none⟩ = some (.int .i64 σ.l)) (l0 : 0 ≤ σ.l) (l1 : σ.l < 8192) (c : UInt8) :
    Calls Tryz.prog 134 #[.pointer (some ⟨b, 0, none⟩), .int .u8 c.toNat] w fun e w' => e = .returned (.bool (σ.two c)) ∧ w' = w := by
  have a64 := has64 σ.l l0 l1
  have HE : Hid (σ.two c = (bit σ.l 64 && (((c.toNat : Int) != 9) && (((c.toNat : Int) != 10) && ctrlB c.toNat)))) := by
    show σ.two c = _
    unfold St.two St.L ctrlB
    congr 3
    rw [Bool.eq_iff_iff]
    simp
    omega
  cases h64 : bit σ.l 64 with
  | false =>
    rw [h64] at a64
    go_enter Tryz.func134, Tryz.ntmps134
    go_wp2_with (go_at_call 52; refine (Has_any _ _ _).mono ?_; rintro e w' ⟨rfl, rfl⟩)
    go_ret
    exact ⟨ret_bool (by rw [HE.out, h64]; rfl), rfl⟩
  | true =>
    rw [h64] at a64
    cases hct : ctrlB c.toNat with
    | false =>
      go_enter Tryz.func134, Tryz.ntmps134
      go_wp2_with (first | (go_at_call 52; refine (Has_any _ _ _).mono ?_; rintro e w' ⟨rfl, rfl⟩) | (go_at_call 153; refine (ctrl_any _ _).mono ?_; rintro e w' ⟨rfl, rfl⟩))
      go_ret
      exact ⟨ret_bool (by rw [HE.out, h64, hct]; simp), rfl⟩
    | true =>
      cases h10 : ((c.toNat : Int) != 10) with
      | false =>
        go_enter Tryz.func134, Tryz.ntmps134
        go_wp2_with (first | (go_at_call 52; refine (Has_any _ _ _).mono ?_; rintro e w' ⟨rfl, rfl⟩) | (go_at_call 153; refine (ctrl_any _ _).mono ?_; rintro e w' ⟨rfl, rfl⟩))
        go_ret
        exact ⟨ret_bool (by rw [HE.out, h64, h10]; simp), rfl⟩
      | true =>
        cases h9 : ((c.toNat : Int) != 9) with
        | false =>
          go_enter Tryz.func134, Tryz.ntmps134
          go_wp2_with (first | (go_at_call 52; refine (Has_any _ _ _).mono ?_; rintro e w' ⟨rfl, rfl⟩) | (go_at_call 153; refine (ctrl_any _ _).mono ?_; rintro e w' ⟨rfl, rfl⟩))
          go_ret
          exact ⟨ret_bool (by rw [HE.out, h9]; simp), rfl⟩
        | true =>
          go_enter Tryz.func134, Tryz.ntmps134
          go_wp2_with (first | (go_at_call 52; refine (Has_any _ _ _).mono ?_; rintro e w' ⟨rfl, rfl⟩) | (go_at_call 153; refine (ctrl_any _ _).mono ?_; rintro e w' ⟨rfl, rfl⟩))
          go_ret
          exact ⟨ret_bool (by rw [HE.out, h64, hct, h10, h9]; rfl), rfl⟩
end
end Go.Proofs.YtfnglkhhmplejaaGreat
