/- Walks: the program: what a byte means: does a row fit? -/
import Derived.Test.YtfnglkhhmplejaaGreatProg37
import Derived.BigQuiet
import Derived.Deep.QuietTactic
namespace Go.Clk
open Go
/-- Is a byte the character at a place? -/
def atB (σ : St) (c : UInt8) (p : Int) : Bool := if p = 14 then (c.toNat : Int) == 10 else if p = 15 then true else ((c.toNat : Int) != 0) && ((c.toNat : Int) == σ.ch p.toNat)
end Go.Clk
namespace Go.Proofs.YtfnglkhhmplejaaGreat
open Go Go.RowKit Go.Clk
def fitB (σ : St) (c : UInt8) (i l p : Int) : Bool := hasB σ.i i && (hasB σ.l l && atB σ c p)
section
variable (S0 : List Nat) (w0 : World) (x : List Nat) (b : Nat) (σ : St) (w : World) (K : Int)

set_option maxHeartbeats 1000000 in
set_option maxRecDepth 100000 in
theorem isAt_any (c : UInt8) (p : Int) (p0 : 0 ≤ p) (p1 : p ≤ 15) (hc : ∀ k, k < 17 → w.cell? ⟨b, k, none⟩ = some (.int .i64 (gt σ.ss k))) :
    Calls Tryz.prog 135 #[.pointer (some ⟨b, 0, none⟩), .int .u8 c.toNat, .int .i64 p] w fun e w' => e = .returned (.bool (atB σ c p)) ∧ w' = w := by
  by_cases h14 : p = 14
  · subst h14
    have HA : Hid (atB σ c 14 = ((c.toNat : Int) == 10)) := rfl
    go_enter Tryz.func135, Tryz.ntmps135
    go_wp2
    go_ret
    exact ⟨ret_bool (by rw [HA.out]), rfl⟩
  · by_cases h15 : p = 15
    · subst h15
      have HA : Hid (atB σ c 15 = true) := rfl
      go_enter Tryz.func135, Tryz.ntmps135
      go_wp2
      go_ret
      exact ⟨ret_bool (by rw [HA.out]), rfl⟩
    · obtain ⟨k, rfl⟩ : ∃ k : Nat, p = (k : Int) := ⟨p.toNat, by omega⟩
      have hk : k < 14 := by omega
      have HA : Hid (atB σ c (k : Int) = (((c.toNat : Int) != 0) && ((c.toNat : Int) == σ.ch k))) := by show atB σ c (k : Int) = _; unfold atB; rw [if_neg h14, if_neg h15]; simp
      have kc : w.cell? ⟨b, 3 + k, none⟩ = some (.int .i64 (σ.ch k)) := hc (3 + k) (by omega)
      have e14 : ((k : Int) == 14) = false := by simpa using h14
      have e15 : ((k : Int) == 15) = false := by simpa using h15
      have hki : (k : Int) < 14 := by omega
      have hwr : wrap64 ((c.toNat : Nat) : Int) = (c.toNat : Int) := by
        have hlt := c.toNat_lt
        unfold wrap64; omega
      clear hc
      cases hz : ((c.toNat : Int) != 0) with
      | false =>
        go_enter Tryz.func135, Tryz.ntmps135
        go_wp2
        go_ret
        exact ⟨ret_bool (by rw [HA.out, hz]; rfl), rfl⟩
      | true =>
        go_enter Tryz.func135, Tryz.ntmps135
        go_wp2
        go_ret
        exact ⟨ret_bool (by rw [HA.out, hz]; rfl), rfl⟩

set_option maxHeartbeats 1000000 in
set_option maxRecDepth 100000 in
theorem fits_any (c : UInt8) (i l p : Int) (fv : Value) (p0 : 0 ≤ p) (p1 : p ≤ 15) (hb : b < w.heap.size) (hc : ∀ k, k < 17 → w.cell? ⟨b, k, none⟩ = some (.int .i64 (gt σ.ss k))) :
    Calls Tryz.prog 105 #[.pointer (some ⟨b, 0, none⟩), .int .u8 c.toNat, .agg #[.int .i64 i, .int .i64 l, .int .i64 p, fv]] w fun e w' => e = .returned (.bool (fitB σ c i l p)) ∧ w.grownBy w' none := by
  have k0 : w.cell? ⟨b, 0, none⟩ = some (.int .i64 σ.i) := hc 0 (by omega)
  have k2 : w.cell? ⟨b, 2, none⟩ = some (.int .i64 σ.l) := hc 2 (by omega)
  have HFB : Hid (fitB σ c i l p = (hasB σ.i i && (hasB σ.l l && atB σ c p))) := rfl
  have hg : ∀ k, w.grownBy ((w.alloc (.cells #[.int .i64 i, .int .i64 l, .int .i64 p, fv] 127)).drewN k) none := fun k => ⟨rfl, rfl, rfl, by simp [World.drewN], fun j hj _ => Below.heap_alloc w _ j hj⟩
  have HIA : Hid (∀ q (k : Nat), atB σ c p = q → Calls Tryz.prog 135 #[.pointer (some ⟨b, 0, none⟩), .int .u8 c.toNat, .int .i64 p] ((w.alloc (.cells #[.int .i64 i, .int .i64 l, .int .i64 p, fv] 127)).drewN k) fun e w' => e = .returned (.bool q) ∧ w' = ((w.alloc (.cells #[.int .i64 i, .int .i64 l, .int .i64 p, fv] 127)).drewN k)) := by
    rintro q k rfl
    refine isAt_any b σ _ c p p0 p1 fun j hj => ?_
    exact (World.cell?_of_block ((hg k).block b hb (by simp))).trans (hc j hj)
  have hHas : ∀ (a m : Int) (q : Bool) (W : World), hasB a m = q → Calls Tryz.prog 52 #[.int .i64 a, .int .i64 m] W fun e w' => e = .returned (.bool q) ∧ w' = W := fun a m q W e => by subst e; exact Has_any a m W
  clear hc
  cases hI : hasB σ.i i with
  | false =>
    go_enter Tryz.func105, Tryz.ntmps105
    go_wp2_with fail
    go_quiet ((go_at_call 52; refine Calls.quiet_of_same (hHas _ _ _ _ (by assumption))))
    go_wp2
    go_ret
    exact ⟨ret_bool (by rw [HFB.out, hI]; rfl), hg _⟩
  | true =>
    cases hL : hasB σ.l l with
    | false =>
      go_enter Tryz.func105, Tryz.ntmps105
      go_wp2_with fail
      go_quiet ((go_at_call 52; refine Calls.quiet_of_same (hHas _ _ _ _ (by assumption))))
      go_wp2
      go_ret
      exact ⟨ret_bool (by rw [HFB.out, hI, hL]; rfl), hg _⟩
    | true =>
      cases hA : atB σ c p with
      | false =>
        go_enter Tryz.func105, Tryz.ntmps105
        go_wp2_with fail
        go_quiet (first | (go_at_call 52; refine Calls.quiet_of_same (hHas _ _ _ _ (by assumption))) | (go_at_call 135; refine Calls.quiet_of_same (HIA.out false _ hA)))
        go_wp2
        go_ret
        exact ⟨ret_bool (by rw [HFB.out, hI, hL, hA]; rfl), hg _⟩
      | true =>
        go_enter Tryz.func105, Tryz.ntmps105
        go_wp2_with fail
        go_quiet (first | (go_at_call 52; refine Calls.quiet_of_same (hHas _ _ _ _ (by assumption))) | (go_at_call 135; refine Calls.quiet_of_same (HIA.out true _ hA)))
        go_wp2
        go_ret
        exact ⟨ret_bool (by rw [HFB.out, hI, hL, hA]; rfl), hg _⟩
end
end Go.Proofs.YtfnglkhhmplejaaGreat
