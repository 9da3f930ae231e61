/- Walks: the program: a byte is echoed; something is laid down. -/
import Derived.Test.YtfnglkhhmplejaaGreatProg13
import Derived.Test.YtfnglkhhmplejaaGreatBase
import Derived.Deep.RegionLaw
namespace Go.Proofs.YtfnglkhhmplejaaGreat
open Go Go.RowKit Go.Clk

theorem u8_xor (c : UInt8) : bits BinOp.xor IntKind.u8 (c.toNat : Int) 64 = ((c ^^^ 64).toNat : Int) := by
  have hc := UInt8.toNat_lt c
  have e1 : ∀ n : Nat, n < 256 → (BitVec.ofInt 8 (n : Int)).toNat = n := fun n hn => by
    rw [BitVec.ofInt_natCast, BitVec.toNat_ofNat]; exact Nat.mod_eq_of_lt (by omega)
  have hx : c.toNat ^^^ 64 < 2 ^ 8 := Nat.xor_lt_two_pow (by omega) (by omega)
  show IntKind.u8.wrap ((BitVec.ofInt 8 (c.toNat : Int) ^^^ BitVec.ofInt 8 ((64 : Nat) : Int)).toNat : Int) = _
  rw [BitVec.toNat_xor, e1 _ (by omega), e1 64 (by omega), UInt8.toNat_xor]
  show IntKind.u8.wrap ((c.toNat ^^^ 64 : Nat) : Int) = ((c.toNat ^^^ 64 : Nat) : Int)
  simp [IntKind.wrap, IntKind.bits, IntKind.signed]; omega
theorem pcells_two (c : UInt8) (n : Int) (h : n = ((c ^^^ 64).toNat : Int)) : (#[.int .u8 94, .int .u8 n] : Array Value) = (bys [94, c ^^^ 64]).toArray := by subst h; rfl

section
variable (S0 : List Nat) (w0 : World) (x : List Nat) (b : Nat) (σ : St) (w : World) (K : Int)

set_option maxHeartbeats 1000000 in
set_option maxRecDepth 100000 in
theorem PEcho_any (h : AtP S0 w0 x b σ w) (ok : Inv K σ) (hK : K ≤ 1099511627776) (c : UInt8) (n : Int) (hn : n = (c.toNat : Int)) :
    Calls Tryz.prog 103 #[.pointer (some ⟨b, 0, none⟩), .int .u8 n] w fun e w' => e = .returned (.int .i64 (σ.cellsOf c)) ∧ AtP S0 w0 x b (σ.echo1 c) w' := by
  subst hn
  have hR := h
  obtain ⟨vi, vu, vo, vs, hV⟩ := h
  have l0 := ok.ok.l0; have l1 := ok.ok.l1
  have k2 := hV.cl
  have kcol := hV.c_col
  have q0 := ok.c0; have q1 := ok.c1; have q2 := ok.out
  have HI : Hid (Inv K σ) := ok
  have HX := u8_xor c
  have hlt := hV.lt
  clear ok hV
  have HC : Hid (σ.cellsOf c = if σ.col < (σ.echo1 c).col then (σ.echo1 c).col - σ.col else 0) := rfl
  cases he : σ.echoes c with
  | false =>
    have h1 : σ.echo1 c = σ := by unfold St.echo1; rw [he]; rfl
    have h2 : σ.cellsOf c = 0 := by rw [HC.out, h1]; simp
    rw [h1, h2]
    clear HC h1 h2
    go_enter Tryz.func103, Tryz.ntmps103
    go_wp2_with (go_at_call 133; refine (echoes_any b σ _ k2 l0 l1 c).mono ?_; rw [he]; rintro e w' ⟨rfl, rfl⟩)
    go_ret
    exact ⟨rfl, hR⟩
  | true =>
    have HE : Hid (σ.echo1 c = (σ.put (σ.shows c)).1) := by show σ.echo1 c = _; unfold St.echo1; rw [if_pos he]
    have HK : Hid (Inv K (σ.echo1 c)) := HI.out.echo1 c
    have hq0 := HK.out.c0; have hq1 := HK.out.c1; have hq2 := HK.out.out
    cases ht : σ.two c with
    | true =>
      have HS : Hid (σ.shows c = [94, c ^^^ 64]) := by show σ.shows c = _; unfold St.shows; rw [if_pos ht]
      go_enter Tryz.func103, Tryz.ntmps103
      go_wp2_with (first | (go_at_call 133; refine (echoes_any b σ _ k2 l0 l1 c).mono ?_; rw [he]; rintro e w' ⟨rfl, rfl⟩) | (go_at_call 38; refine (Column_any b _ σ.col kcol).mono ?_; rintro e w' ⟨rfl, rfl⟩) | (go_at_call 134; refine (two_any b σ _ k2 l0 l1 c).mono ?_; rw [ht]; rintro e w' ⟨rfl, rfl⟩))
      refine (putOut_new S0 w0 x b σ _ K hR HI.out hK [94, c ^^^ 64] (by simp) _ (pcells_two c _ (by rfl)) 2 rfl).mono ?_
      rintro e W ⟨rfl, hW⟩
      rw [← HS.out, ← HE.out] at hW
      have hW' := hW
      obtain ⟨vi, vu, vo, vs, hV⟩ := hW'
      have pcol := hV.c_col
      clear hV HS HE k2 kcol HX
      obtain ⟨τ, hτ⟩ : ∃ τ, σ.echo1 c = τ := ⟨_, rfl⟩
      rw [hτ] at hW pcol hq0 hq1 hq2 HC
      have HG : Hid (σ.echo1 c = τ) := hτ
      clear hτ HK
      go_wp2_with (go_at_call 38; refine (Column_any b _ τ.col pcol).mono ?_; rintro e w' ⟨rfl, rfl⟩)
      all_goals go_ret
      all_goals exact ⟨ret_int (by rw [HC.out]; split <;> omega), by rw [HG.out]; exact hW⟩
    | false =>
      have HS : Hid (σ.shows c = [c]) := by show σ.shows c = _; unfold St.shows; rw [if_neg (by rw [ht]; decide)]
      go_enter Tryz.func103, Tryz.ntmps103
      go_wp2_with (first | (go_at_call 133; refine (echoes_any b σ _ k2 l0 l1 c).mono ?_; rw [he]; rintro e w' ⟨rfl, rfl⟩) | (go_at_call 38; refine (Column_any b _ σ.col kcol).mono ?_; rintro e w' ⟨rfl, rfl⟩) | (go_at_call 134; refine (two_any b σ _ k2 l0 l1 c).mono ?_; rw [ht]; rintro e w' ⟨rfl, rfl⟩))
      refine (putOut_new S0 w0 x b σ _ K hR HI.out hK [c] (by simp) _ rfl 1 rfl).mono ?_
      rintro e W ⟨rfl, hW⟩
      rw [← HS.out, ← HE.out] at hW
      have hW' := hW
      obtain ⟨vi, vu, vo, vs, hV⟩ := hW'
      have pcol := hV.c_col
      clear hV HS HE k2 kcol HX
      obtain ⟨τ, hτ⟩ : ∃ τ, σ.echo1 c = τ := ⟨_, rfl⟩
      rw [hτ] at hW pcol hq0 hq1 hq2 HC
      have HG : Hid (σ.echo1 c = τ) := hτ
      clear hτ HK
      go_wp2_with (go_at_call 38; refine (Column_any b _ τ.col pcol).mono ?_; rintro e w' ⟨rfl, rfl⟩)
      all_goals go_ret
      all_goals exact ⟨ret_int (by rw [HC.out]; split <;> omega), by rw [HG.out]; exact hW⟩

set_option maxHeartbeats 1000000 in
set_option maxRecDepth 100000 in
theorem most_any (hc : w.cell? ⟨b, 2, none⟩ = some (.int .i64 σ.l)) (hb : b < w.heap.size) (l0 : 0 ≤ σ.l) (l1 : σ.l < 8192) (n cl : Int) (fin file : Bool) :
    Calls Tryz.prog 102 #[.pointer (some ⟨b, 0, none⟩), .agg #[.int .u8 n, .bool file, .bool fin, .int .i64 cl]] w fun e w' => e = .returned (.int .i64 (σ.most fin : Nat)) ∧ w' = w.alloc (.cells #[.int .u8 n, .bool file, .bool fin, .int .i64 cl] 112) := by
  have a2 := has2 σ.l l0 l1
  have HM : Hid (σ.most fin = if bit σ.l 2 && !fin then 255 else 256) := rfl
  cases h2 : bit σ.l 2 with
  | false =>
    rw [h2] at a2
    go_enter Tryz.func102, Tryz.ntmps102
    go_wp2_with (go_at_call 52; refine (Has_any _ _ _).mono ?_; rintro e w' ⟨rfl, hw⟩; have hw := hw.symm; subst hw)
    go_ret
    exact ⟨ret_int (by rw [HM.out, h2]; rfl), rfl⟩
  | true =>
    rw [h2] at a2
    cases fin with
    | true =>
      go_enter Tryz.func102, Tryz.ntmps102
      go_wp2_with (go_at_call 52; refine (Has_any _ _ _).mono ?_; rintro e w' ⟨rfl, hw⟩; have hw := hw.symm; subst hw)
      go_ret
      exact ⟨ret_int (by rw [HM.out, h2]; rfl), rfl⟩
    | false =>
      go_enter Tryz.func102, Tryz.ntmps102
      go_wp2_with (go_at_call 52; refine (Has_any _ _ _).mono ?_; rintro e w' ⟨rfl, hw⟩; have hw := hw.symm; subst hw)
      go_ret
      exact ⟨ret_int (by rw [HM.out, h2]; rfl), rfl⟩
end
end Go.Proofs.YtfnglkhhmplejaaGreat
