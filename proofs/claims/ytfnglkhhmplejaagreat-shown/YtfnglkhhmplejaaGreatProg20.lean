/- Walks: the program: a byte becomes urgent; the signals are told. -/
import Derived.Test.YtfnglkhhmplejaaGreatProg16
namespace Go.Proofs.YtfnglkhhmplejaaGreat
open Go Go.RowKit Go.Clk

section
variable (S0 : List Nat) (w0 : World) (x : List Nat) (b : Nat) (σ : St) (w : World) (K : Int)

set_option maxHeartbeats 1000000 in
set_option maxRecDepth 100000 in
theorem PSignals_any (h : AtP S0 w0 x b σ w) :
    Calls Tryz.prog 130 #[.pointer (some ⟨b, 0, none⟩)] w fun e w' => ∃ v o, e = .returned v ∧ Sl w' 3 1 v σ.noted.length (i64s σ.noted) o ∧ (∀ g, o = some g → g ≠ b ∧ g ∉ x ∧ (g ∈ S0 ∨ w0.heap.size ≤ g)) ∧ AtP S0 w0 (o.toList ++ x) b { σ with noted := [] } w' := by
  obtain ⟨vi, vu, vo, vs, hV⟩ := h
  obtain ⟨o, hs, hg, hN⟩ := hV.give_sig
  have hs' := hs.set ⟨b, 26, none⟩ (.slice none 0 0) fun g e => (hg g e).1
  have k24 := hV.c_sig
  have f24 := hV.frozen 26
  have hR := hN.r
  clear hs hV hN
  go_enter Tryz.func130, Tryz.ntmps130
  go_wp2
  go_ret
  exact ⟨vs, o, rfl, hs', hg, hR⟩

set_option maxHeartbeats 1000000 in
set_option maxRecDepth 100000 in
theorem Urge_any (h : AtP S0 w0 x b σ w) (hu : (σ.urg.length : Int) ≤ 2199023255552) (n : Int) (c : UInt8) (hc : (c.toNat : Int) = n) :
    Calls Tryz.prog 117 #[.pointer (some ⟨b, 18, none⟩), .slice (some ⟨w.heap.size, 0, none⟩) 1 1] (w.alloc (.cells #[.int .u8 n] 5)) fun e w' => e = .returned (.tuple #[]) ∧ AtP S0 w0 x b { σ with urg := σ.urg ++ [c] } w' := by
  obtain ⟨i0, hi, hz0, hz1, hz2⟩ := info_parts info_u8
  obtain ⟨vi, vu, vo, vs, hV⟩ := h
  have hlt := hV.lt
  have h' := hV.alloc (.cells #[.int .u8 n] 5)
  obtain ⟨oo, hs, hob, _, hput⟩ := h'.lens_urg
  obtain ⟨a, cap, rfl, hl1, hl2⟩ := hs.shape
  have k19 := h'.c_urg
  have f19 := h'.frozen 18
  have HC : Hid ((c.toNat : Int) = n) := hc
  clear hc
  go_enter Tryz.func117, Tryz.ntmps117
  go_wp2_with (at_builtin; refine wpList_append_sl rfl (.tmp 8) (.tmp 9) 70 33 rfl hs rfl i0 (.int .u8 0) 1 Tryz.underlying70 hi hz0 hz1 hz2 rfl (.slice (some ⟨w.heap.size, 0, none⟩) 1 1) 1 [.int .u8 n] rfl ?src ?b1 ?b2 ?next)
  case src => exact (Sl.made w [.int .u8 n] 1 5 1 rfl (by simp [maxLen])).src Tryz.underlying33 (by intro u hu; simp at hu; subst hu; rfl)
  case b1 => unfold maxLen; omega
  case b2 => omega
  case next =>
    intro a' cap' w1 oz hs1 hg1 ho1
    obtain ⟨q2, q3, hW⟩ := hput w1 (.slice a' (σ.urg.length + 1) cap') (σ.urg ++ [c]) oz hg1 (by rw [bys_app, List.length_append]; show Sl w1 _ 1 _ _ (bys σ.urg ++ [.int .u8 (c.toNat : Int)]) oz; rw [HC.out]; exact hs1) (by rcases ho1 with h1 | ⟨h1, _⟩; exact .inr (.inl h1); exact .inr (.inr ⟨_, h1, by simp⟩))
    clear hput hs hs1 hg1 ho1 h' hV k19 f19
    go_wp2
    go_end0
    exact ⟨rfl, hW.r⟩

set_option maxHeartbeats 1000000 in
set_option maxRecDepth 100000 in
theorem purge_any (h : AtP S0 w0 x b σ w) (ok : Inv K σ) (hK : K ≤ 1099511627776) (k : Nat) (hk : k < 14) (n : Int) (hn : n = (k : Int)) :
    Calls Tryz.prog 86 #[.pointer (some ⟨b, 0, none⟩), .int .i64 n] w fun e w' => e = .returned (.tuple #[]) ∧ AtP S0 w0 x b (σ.urge k) w' := by
  subst hn
  obtain ⟨vi, vu, vo, vs, hV⟩ := h
  have kc : w.cell? ⟨b, 3 + k, none⟩ = some (.int .i64 (σ.ch k)) := hV.head (3 + k) (by omega)
  have hc := ok.s.ch k
  have c0 : 0 ≤ σ.ch k := hc.1
  have c1 : σ.ch k < 256 := hc.2
  have hu := ok.urg
  have hR := hV.r
  have HB : Hid (((UInt8.ofNat (σ.ch k).toNat).toNat : Int) = σ.ch k) := byte_of _ c0 c1
  clear ok hc hV
  by_cases hz : σ.ch k = 0
  · have e1 : σ.urge k = σ := by unfold St.urge; rw [if_pos hz]
    rw [e1]
    rw [hz] at kc
    go_enter Tryz.func86, Tryz.ntmps86
    go_wp2
    go_end0
    exact ⟨rfl, hR⟩
  · have e1 : σ.urge k = { σ with urg := σ.urg ++ [UInt8.ofNat (σ.ch k).toNat] } := by unfold St.urge; rw [if_neg hz]
    rw [e1]
    have hnz : (σ.ch k != 0) = true := by simpa using hz
    have hm : σ.ch k % 256 = σ.ch k := Int.emod_eq_of_lt c0 c1
    go_enter Tryz.func86, Tryz.ntmps86
    go_wp2_with (go_at_call 117; refine (Urge_any S0 w0 x b σ w hR (by omega) _ _ HB.out).mono ?_; rintro e w' ⟨rfl, hW⟩)
    go_end0
    exact ⟨rfl, hW⟩
end
end Go.Proofs.YtfnglkhhmplejaaGreat
