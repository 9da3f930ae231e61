/- Walks: the program: its settings are changed. -/
import Derived.Test.YtfnglkhhmplejaaGreatProg8
import Derived.Test.YtfnglkhhmplejaaGreatP5
import Derived.Test.YtfnglkhhmplejaaGreatBase2
import Derived.Test.YtfnglkhhmplejaaGreatBase
import Derived.Deep.RegionLaw
namespace Go.Proofs.YtfnglkhhmplejaaGreat
open Go Go.RowKit Go.Clk

theorem i64_mask (n : Int) (k : Nat) (hk : k < 60) (m : Int) (hm : m = ((2 ^ k - 1 : Nat) : Int)) : bits .and .i64 n m = n % ((2 ^ k : Nat) : Int) := by
  subst hm
  have hpow : 2 ^ k ≤ 2 ^ 59 := Nat.pow_le_pow_right (by omega) (by omega)
  have hp0 : 0 < 2 ^ k := Nat.two_pow_pos k
  have hm : (BitVec.ofInt 64 ((2 ^ k - 1 : Nat) : Int)).toNat = 2 ^ k - 1 := by
    rw [BitVec.ofInt_natCast, BitVec.toNat_ofNat]; exact Nat.mod_eq_of_lt (by omega)
  have key : (BitVec.ofInt 64 n &&& BitVec.ofInt 64 ((2 ^ k - 1 : Nat) : Int)).toNat = (n % ((2 ^ 64 : Nat) : Int)).toNat % 2 ^ k := by
    rw [BitVec.toNat_and, BitVec.toNat_ofInt, hm, Nat.and_two_pow_sub_one_eq_mod]
  show IntKind.i64.wrap ((BitVec.ofInt 64 n &&& BitVec.ofInt 64 ((2 ^ k - 1 : Nat) : Int)).toNat : Nat) = _
  rw [key]
  have hlt : (n % ((2 ^ 64 : Nat) : Int)).toNat % 2 ^ k < 2 ^ k := Nat.mod_lt _ hp0
  rw [wrap_small _ (by omega) (by omega)]
  have h64 : 0 ≤ n % ((2 ^ 64 : Nat) : Int) := Int.emod_nonneg _ (by decide)
  rw [Int.natCast_emod, Int.toNat_of_nonneg h64]
  apply Int.emod_emod_of_dvd
  exact Int.natCast_dvd_natCast.2 (Nat.pow_dvd_pow 2 (by omega))
theorem mask13 (n : Int) : bits .and .i64 n 8191 = n % 8192 := i64_mask n 13 (by omega) _ rfl
theorem mask7 (n : Int) : bits .and .i64 n 127 = n % 128 := i64_mask n 7 (by omega) _ rfl
theorem mask10 (n : Int) : bits .and .i64 n 1023 = n % 1024 := i64_mask n 10 (by omega) _ rfl
theorem mask8 (n : Int) : bits .and .i64 n 255 = n % 256 := i64_mask n 8 (by omega) _ rfl

section
variable (S0 : List Nat) (w0 : World) (x : List Nat) (b : Nat) (σ : St) (w : World)

set_option maxHeartbeats 2000000 in
set_option maxRecDepth 100000 in
theorem known_any (s : List Int) (hs : s.length = 17) :
    Calls Tryz.prog 51 #[.agg (i64s s).toArray] w fun e w' => e = .returned (.agg (i64s (normS s)).toArray) ∧ w.grownBy w' none := by
  have m13 := mask13
  have m7 := mask7
  have m10 := mask10
  have m8 := mask8
  go_enter Tryz.func51, Tryz.ntmps51
  go_wp2_with (refine wpList_box rfl (.tmp 0) 29 rfl (i64s s) rfl ?_)
  intro W B hid
  have hB : Blk W B 29 (i64s s) := by obtain ⟨rfl, rfl⟩ := hid.out; exact Blk.new w _ _
  have hG : w.grownBy W none := by obtain ⟨rfl, rfl⟩ := hid.out; exact World.grownBy_alloc w _ none
  have hBw : Hid (w.heap.size ≤ B) := by obtain ⟨rfl, rfl⟩ := hid.out; exact Nat.le_refl _
  have hlt := hB.lt
  clear hid
  have kB : ∀ k, k < 17 → W.cell? ⟨B, k, none⟩ = some (.int .i64 (gt s k)) := fun k hk => hB.cell k (by simp [i64s, gt, List.getD, List.getElem?_eq_getElem (show k < s.length by omega)])
  have b0 := kB 0 (by omega)
  have b1 := kB 1 (by omega)
  have b2 := kB 2 (by omega)
  have f0 := hB.frozen 0
  have f1 := hB.frozen 1
  have f2 := hB.frozen 2
  clear kB
  have hs3 : i64s (partS s s (3 + 0)) = (((i64s s).set 0 (.int .i64 (gt s 0 % 8192))).set 1 (.int .i64 (gt s 1 % 128))).set 2 (.int .i64 (gt s 2 % 1024)) := by
    have e0 := partS_set s s 0 (by omega)
    have e1 := partS_set s s 1 (by omega)
    have e2 := partS_set s s 2 (by omega)
    rw [partS_zero _ _ hs] at e0
    rw [← e0] at e1
    rw [← e1] at e2
    show i64s (partS s s (2 + 1)) = _
    rw [← e2]
    simp [i64s, List.map_set, lim]
  have HS3 : Hid (i64s (partS s s (3 + 0)) = (((i64s s).set 0 (.int .i64 (gt s 0 % 8192))).set 1 (.int .i64 (gt s 1 % 128))).set 2 (.int .i64 (gt s 2 % 1024))) := hs3
  have HB : Hid (Blk ((((W.setCell ⟨B, 0, none⟩ (.int .i64 (gt s 0 % 8192))).setCell ⟨B, 1, none⟩ (.int .i64 (gt s 1 % 128))).setCell ⟨B, 2, none⟩ (.int .i64 (gt s 2 % 1024))).alloc (.cells z17.toArray 29)) B 29 (i64s (partS s s (3 + 0)))) := by
    show Blk _ _ _ _
    rw [hs3]
    have h1 := ((hB.set 0 (.int .i64 (gt s 0 % 8192))).set 1 (.int .i64 (gt s 1 % 128))).set 2 (.int .i64 (gt s 2 % 1024))
    unfold Blk
    rw [Below.heap_alloc _ _ B h1.lt]
    exact h1
  have HR : Hid (Blk ((((W.setCell ⟨B, 0, none⟩ (.int .i64 (gt s 0 % 8192))).setCell ⟨B, 1, none⟩ (.int .i64 (gt s 1 % 128))).setCell ⟨B, 2, none⟩ (.int .i64 (gt s 2 % 1024))).alloc (.cells z17.toArray 29)) W.heap.size 29 z17) := by
    have h1 := Blk.new (((W.setCell ⟨B, 0, none⟩ (.int .i64 (gt s 0 % 8192))).setCell ⟨B, 1, none⟩ (.int .i64 (gt s 1 % 128))).setCell ⟨B, 2, none⟩ (.int .i64 (gt s 2 % 1024))) z17 29
    have e1 : (((W.setCell ⟨B, 0, none⟩ (.int .i64 (gt s 0 % 8192))).setCell ⟨B, 1, none⟩ (.int .i64 (gt s 1 % 128))).setCell ⟨B, 2, none⟩ (.int .i64 (gt s 2 % 1024))).heap.size = W.heap.size := by simp
    rw [e1] at h1
    exact h1
  have HG : Hid (w.grownBy ((((W.setCell ⟨B, 0, none⟩ (.int .i64 (gt s 0 % 8192))).setCell ⟨B, 1, none⟩ (.int .i64 (gt s 1 % 128))).setCell ⟨B, 2, none⟩ (.int .i64 (gt s 2 % 1024))).alloc (.cells z17.toArray 29)) none) := by
    have k1 : Kp [] w ((((W.setCell ⟨B, 0, none⟩ (.int .i64 (gt s 0 % 8192))).setCell ⟨B, 1, none⟩ (.int .i64 (gt s 1 % 128))).setCell ⟨B, 2, none⟩ (.int .i64 (gt s 2 % 1024))).alloc (.cells z17.toArray 29)) :=
      ((((((Kp.refl [] w).grown hG (fun k e => by cases e)).set _ _ (.inr hBw.out)).set _ _ (.inr hBw.out)).set _ _ (.inr hBw.out)).alloc _)
    exact ⟨k1.os, k1.tape, k1.output, k1.size, fun k hk _ => k1.block k hk (by simp)⟩
  have hBW := hlt
  clear hs3 HS3 hB hG
  go_wp2
  go_loopg [16] 14 (fun k i wr => ∃ j : Nat, j + k = 14 ∧ i = .int .i64 j ∧ Blk wr B 29 (i64s (partS s s (3 + j))) ∧ Blk wr W.heap.size 29 z17 ∧ w.grownBy wr none)
  case atStart => exact ⟨0, by omega, rfl, HB.out, HR.out, HG.out⟩
  case round =>
    obtain ⟨j, hj, rfl, hB, hR, hG⟩ := hrel
    clear HB HR HG b0 b1 b2 f0 f1 f2
    by_cases hlt : j < 14
    · have cj : wr.cell? ⟨B, 3 + j, none⟩ = some (.int .i64 (gt s (3 + j))) := by
        have h1 := partS_get s s (3 + j) (3 + j) (by omega)
        rw [if_neg (by omega)] at h1
        have hpl := partS_len s s (3 + j)
        refine hB.cell (3 + j) ?_
        rw [← h1]
        simp [i64s, gt, List.getD, List.getElem?_eq_getElem (show 3 + j < (partS s s (3 + j)).length by omega)]
      have fj := hB.frozen (3 + j)
      have HN : Hid (Blk (wr.setCell ⟨B, 3 + j, none⟩ (.int .i64 (gt s (3 + j) % 256))) B 29 (i64s (partS s s (3 + (j + 1))))) := by
        have h1 := hB.set (3 + j) (.int .i64 (gt s (3 + j) % 256))
        have h2 := partS_set s s (3 + j) (by omega)
        rw [show lim (3 + j) = 256 by simp [lim]; omega] at h2
        have h3 : (i64s (partS s s (3 + j))).set (3 + j) (.int .i64 (gt s (3 + j) % 256)) = i64s (partS s s (3 + (j + 1))) := by
          rw [← Nat.add_assoc, ← h2]; simp [i64s, List.map_set]
        rw [← h3]; exact h1
      have HR2 : Hid (Blk (wr.setCell ⟨B, 3 + j, none⟩ (.int .i64 (gt s (3 + j) % 256))) W.heap.size 29 z17) := hR.other _ _ (by simp; omega)
      have HG2 : Hid (w.grownBy (wr.setCell ⟨B, 3 + j, none⟩ (.int .i64 (gt s (3 + j) % 256))) none) := by
        have k1 := ((Kp.refl [] w).grown hG (fun k e => by cases e)).set ⟨B, 3 + j, none⟩ (.int .i64 (gt s (3 + j) % 256)) (.inr hBw.out)
        exact ⟨k1.os, k1.tape, k1.output, k1.size, fun k hk _ => k1.block k hk (by simp)⟩
      clear hB hR hG
      go_wp2
      go_roundg (gk - 1)
      case measure => omega
      case rel => exact ⟨j + 1, by omega, by go_num, HN.out, HR2.out, HG2.out⟩
    · obtain rfl : j = 14 := by omega
      have e17 : partS s s (3 + 14) = normS s := partS_all s s
      rw [e17] at hB
      have hlen : (i64s (normS s)).length = 17 := by simp [i64s, normS]
      have hi : (Tryz.prog.info? 29).map (·.size) = some (i64s (normS s)).length := by rw [hlen]; exact size_settings
      clear e17
      go_wp2_with (first | refine wpList_load_part rfl (.tmp 1) 29 rfl B 0 rfl (i64s (normS s)) _ ?hc Tryz.underlying29 rfl hi ?next | refine wpList_store_whole rfl (.tmp 2) (.tmp 27) 29 rfl W.heap.size rfl (i64s (normS s)) rfl 29 z17 hR ?hlen hi (i64s_one _) ?_)
      case hc =>
        intro j v hv
        rw [Nat.zero_add]
        exact hB.cell j hv
      case hlen => rw [hlen]; rfl
      · intro W2 hW2 hG2 hsz
        go_wp2
        refine bodyPost_ret (v := .agg (i64s (normS s)).toArray) (results_cell_row (P := Tryz.prog) rfl _ _ W.heap.size 29 (i64s (normS s)).toArray (0, 0) _ rfl hW2 Tryz.underlying29 rfl (by simpa using hi)) rfl ⟨rfl, ?_⟩
        exact grownBy_then hG hG2 fun g e => by cases e; have := hBw.out; omega
end
end Go.Proofs.YtfnglkhhmplejaaGreat
namespace Go.Proofs.YtfnglkhhmplejaaGreat
open Go Go.RowKit Go.Clk

section
variable (S0 : List Nat) (w0 : World) (x : List Nat) (b : Nat) (σ : St) (w : World) (K : Int)

/-- Bytes that lie in a new block are put out together. -/
theorem putOut_new (h : AtP S0 w0 x b σ w) (ok : Inv K σ) (hK : K ≤ 1099511627776) (l : List UInt8) (hn : l.length ≤ 10000) (cs : Array Value) (hcs : cs = (bys l).toArray) (n : Nat) (hl : n = l.length) :
    Calls Tryz.prog 60 #[.pointer (some ⟨b, 0, none⟩), .slice (some ⟨w.heap.size, 0, none⟩) n n] (w.alloc (.cells cs 5)) fun e w' => e = .returned (.bool (σ.put l).2) ∧ AtP S0 w0 x b (σ.put l).1 w' := by
  subst hcs hl
  refine (putOut_any S0 w0 (w.heap.size :: x) b σ _ _ (h.boxed _) ok.ok (by omega) ok.out _ l (some w.heap.size) (Sl.made w (bys l) l.length 5 1 (bys_len l) (by unfold maxLen; omega)) hn).mono ?_
  rintro e w' ⟨rfl, h'⟩
  exact ⟨rfl, h'.weaken fun g hg => by simp [hg]⟩
set_option maxHeartbeats 1000000 in
set_option maxRecDepth 100000 in
theorem Column_any (n : Int) (hc : w.cell? ⟨b, 20, none⟩ = some (.int .i64 n)) :
    Calls Tryz.prog 38 #[.pointer (some ⟨b, 18, none⟩)] w fun e w' => e = .returned (.int .i64 n) ∧ w' = w := by
  go_enter Tryz.func38, Tryz.ntmps38
  go_wp2
  go_ret
  exact ⟨rfl, rfl⟩
set_option maxHeartbeats 1000000 in
set_option maxRecDepth 100000 in
theorem echoes_any (hc : w.cell? ⟨b, 2, none⟩ = some (.int .i64 σ.l)) (l0 : 0 ≤ σ.l) (l1 : σ.l < 8192) (c : UInt8) :
    Calls Tryz.prog 133 #[.pointer (some ⟨b, 0, none⟩), .int .u8 c.toNat] w fun e w' => e = .returned (.bool (σ.echoes c)) ∧ w' = w := by
  have a4 := has4 σ.l l0 l1
  have a34 := has34 σ.l l0 l1
  have HE : Hid (σ.echoes c = (bit σ.l 4 || (((c.toNat : Int) == 10) && (bit σ.l 32 && bit σ.l 2)))) := rfl
  cases h4 : bit σ.l 4 with
  | true =>
    rw [h4] at a4
    go_enter Tryz.func133, Tryz.ntmps133
    go_wp2_with (go_at_call 52; refine (Has_any _ _ _).mono ?_; rintro e w' ⟨rfl, rfl⟩)
    go_ret
    exact ⟨ret_bool (by rw [HE.out, h4]; rfl), rfl⟩
  | false =>
    rw [h4] at a4
    cases h10 : ((c.toNat : Int) == 10) with
    | true =>
      cases h32 : bit σ.l 32 with
      | true =>
        cases h2 : bit σ.l 2 with
        | true =>
          rw [h32, h2] at a34
          go_enter Tryz.func133, Tryz.ntmps133
          go_wp2_with (go_at_call 52; refine (Has_any _ _ _).mono ?_; rintro e w' ⟨rfl, rfl⟩)
          go_ret
          exact ⟨ret_bool (by rw [HE.out, h4, h10, h32, h2]; rfl), rfl⟩
        | false =>
          rw [h32, h2] at a34
          go_enter Tryz.func133, Tryz.ntmps133
          go_wp2_with (go_at_call 52; refine (Has_any _ _ _).mono ?_; rintro e w' ⟨rfl, rfl⟩)
          go_ret
          exact ⟨ret_bool (by rw [HE.out, h4, h10, h32, h2]; rfl), rfl⟩
      | false =>
        rw [h32] at a34
        go_enter Tryz.func133, Tryz.ntmps133
        go_wp2_with (go_at_call 52; refine (Has_any _ _ _).mono ?_; rintro e w' ⟨rfl, rfl⟩)
        go_ret
        exact ⟨ret_bool (by rw [HE.out, h4, h10, h32]; rfl), rfl⟩
    | false =>
      go_enter Tryz.func133, Tryz.ntmps133
      go_wp2_with (go_at_call 52; refine (Has_any _ _ _).mono ?_; rintro e w' ⟨rfl, rfl⟩)
      go_ret
      exact ⟨ret_bool (by rw [HE.out, h4, h10]; rfl), rfl⟩
set_option maxHeartbeats 1000000 in
set_option maxRecDepth 100000 in
theorem two_any (hc : w.cell? ⟨b, 2, none⟩ = some (.int .i64 σ.l)) (l0 : 0 ≤ σ.l) (l1 : σ.l < 8192) (c : UInt8) :
    Calls Tryz.prog 134 #[.pointer (some ⟨b, 0, none⟩), .int .u8 c.toNat] w fun e w' => e = .returned (.bool (σ.two c)) ∧ w' = w := by
  have a64 := has64 σ.l l0 l1
  have HE : Hid (σ.two c = (bit σ.l 64 && (((c.toNat : Int) != 9) && (((c.toNat : Int) != 10) && ctrlB c.toNat)))) := by
    show σ.two c = _
    unfold St.two St.L ctrlB
    congr 3
    rw [Bool.eq_iff_iff]
    simp
    omega
  cases h64 : bit σ.l 64 with
  | false =>
    rw [h64] at a64
    go_enter Tryz.func134, Tryz.ntmps134
    go_wp2_with (go_at_call 52; refine (Has_any _ _ _).mono ?_; rintro e w' ⟨rfl, rfl⟩)
    go_ret
    exact ⟨ret_bool (by rw [HE.out, h64]; rfl), rfl⟩
  | true =>
    rw [h64] at a64
    cases hct : ctrlB c.toNat with
    | false =>
      go_enter Tryz.func134, Tryz.ntmps134
      go_wp2_with (first | (go_at_call 52; refine (Has_any _ _ _).mono ?_; rintro e w' ⟨rfl, rfl⟩) | (go_at_call 153; refine (ctrl_any _ _).mono ?_; rintro e w' ⟨rfl, rfl⟩))
      go_ret
      exact ⟨ret_bool (by rw [HE.out, h64, hct]; simp), rfl⟩
    | true =>
      cases h10 : ((c.toNat : Int) != 10) with
      | false =>
        go_enter Tryz.func134, Tryz.ntmps134
        go_wp2_with (first | (go_at_call 52; refine (Has_any _ _ _).mono ?_; rintro e w' ⟨rfl, rfl⟩) | (go_at_call 153; refine (ctrl_any _ _).mono ?_; rintro e w' ⟨rfl, rfl⟩))
        go_ret
        exact ⟨ret_bool (by rw [HE.out, h64, h10]; simp), rfl⟩
      | true =>
        cases h9 : ((c.toNat : Int) != 9) with
        | false =>
          go_enter Tryz.func134, Tryz.ntmps134
          go_wp2_with (first | (go_at_call 52; refine (Has_any _ _ _).mono ?_; rintro e w' ⟨rfl, rfl⟩) | (go_at_call 153; refine (ctrl_any _ _).mono ?_; rintro e w' ⟨rfl, rfl⟩))
          go_ret
          exact ⟨ret_bool (by rw [HE.out, h9]; simp), rfl⟩
        | true =>
          go_enter Tryz.func134, Tryz.ntmps134
          go_wp2_with (first | (go_at_call 52; refine (Has_any _ _ _).mono ?_; rintro e w' ⟨rfl, rfl⟩) | (go_at_call 153; refine (ctrl_any _ _).mono ?_; rintro e w' ⟨rfl, rfl⟩))
          go_ret
          exact ⟨ret_bool (by rw [HE.out, h64, hct, h10, h9]; rfl), rfl⟩
end
end Go.Proofs.YtfnglkhhmplejaaGreat
namespace Go.Proofs.YtfnglkhhmplejaaGreat
open Go Go.RowKit Go.Clk

theorem u8_xor (c : UInt8) : bits BinOp.xor IntKind.u8 (c.toNat : Int) 64 = ((c ^^^ 64).toNat : Int) := by
  have hc := UInt8.toNat_lt c
  have e1 : ∀ n : Nat, n < 256 → (BitVec.ofInt 8 (n : Int)).toNat = n := fun n hn => by
    rw [BitVec.ofInt_natCast, BitVec.toNat_ofNat]; exact Nat.mod_eq_of_lt (by omega)
  have hx : c.toNat ^^^ 64 < 2 ^ 8 := Nat.xor_lt_two_pow (by omega) (by omega)
  show IntKind.u8.wrap ((BitVec.ofInt 8 (c.toNat : Int) ^^^ BitVec.ofInt 8 ((64 : Nat) : Int)).toNat : Int) = _
  rw [BitVec.toNat_xor, e1 _ (by omega), e1 64 (by omega), UInt8.toNat_xor]
  show IntKind.u8.wrap ((c.toNat ^^^ 64 : Nat) : Int) = ((c.toNat ^^^ 64 : Nat) : Int)
  simp [IntKind.wrap, IntKind.bits, IntKind.signed]; omega
theorem pcells_two (c : UInt8) (n : Int) (h : n = ((c ^^^ 64).toNat : Int)) : (#[.int .u8 94, .int .u8 n] : Array Value) = (bys [94, c ^^^ 64]).toArray := by subst h; rfl

section
variable (S0 : List Nat) (w0 : World) (x : List Nat) (b : Nat) (σ : St) (w : World) (K : Int)

set_option maxHeartbeats 1000000 in
set_option maxRecDepth 100000 in
theorem PEcho_any (h : AtP S0 w0 x b σ w) (ok : Inv K σ) (hK : K ≤ 1099511627776) (c : UInt8) (n : Int) (hn : n = (c.toNat : Int)) :
    Calls Tryz.prog 103 #[.pointer (some ⟨b, 0, none⟩), .int .u8 n] w fun e w' => e = .returned (.int .i64 (σ.cellsOf c)) ∧ AtP S0 w0 x b (σ.echo1 c) w' := by
  subst hn
  have hR := h
  obtain ⟨vi, vu, vo, vs, hV⟩ := h
  have l0 := ok.ok.l0; have l1 := ok.ok.l1
  have k2 := hV.cl
  have kcol := hV.c_col
  have q0 := ok.c0; have q1 := ok.c1; have q2 := ok.out
  have HI : Hid (Inv K σ) := ok
  have HX := u8_xor c
  have hlt := hV.lt
  clear ok hV
  have HC : Hid (σ.cellsOf c = if σ.col < (σ.echo1 c).col then (σ.echo1 c).col - σ.col else 0) := rfl
  cases he : σ.echoes c with
  | false =>
    have h1 : σ.echo1 c = σ := by unfold St.echo1; rw [he]; rfl
    have h2 : σ.cellsOf c = 0 := by rw [HC.out, h1]; simp
    rw [h1, h2]
    clear HC h1 h2
    go_enter Tryz.func103, Tryz.ntmps103
    go_wp2_with (go_at_call 133; refine (echoes_any b σ _ k2 l0 l1 c).mono ?_; rw [he]; rintro e w' ⟨rfl, rfl⟩)
    go_ret
    exact ⟨rfl, hR⟩
  | true =>
    have HE : Hid (σ.echo1 c = (σ.put (σ.shows c)).1) := by show σ.echo1 c = _; unfold St.echo1; rw [if_pos he]
    have HK : Hid (Inv K (σ.echo1 c)) := HI.out.echo1 c
    have hq0 := HK.out.c0; have hq1 := HK.out.c1; have hq2 := HK.out.out
    cases ht : σ.two c with
    | true =>
      have HS : Hid (σ.shows c = [94, c ^^^ 64]) := by show σ.shows c = _; unfold St.shows; rw [if_pos ht]
      go_enter Tryz.func103, Tryz.ntmps103
      go_wp2_with (first | (go_at_call 133; refine (echoes_any b σ _ k2 l0 l1 c).mono ?_; rw [he]; rintro e w' ⟨rfl, rfl⟩) | (go_at_call 38; refine (Column_any b _ σ.col kcol).mono ?_; rintro e w' ⟨rfl, rfl⟩) | (go_at_call 134; refine (two_any b σ _ k2 l0 l1 c).mono ?_; rw [ht]; rintro e w' ⟨rfl, rfl⟩))
      refine (putOut_new S0 w0 x b σ _ K hR HI.out hK [94, c ^^^ 64] (by simp) _ (pcells_two c _ (by rfl)) 2 rfl).mono ?_
      rintro e W ⟨rfl, hW⟩
      rw [← HS.out, ← HE.out] at hW
      have hW' := hW
      obtain ⟨vi, vu, vo, vs, hV⟩ := hW'
      have pcol := hV.c_col
      clear hV HS HE k2 kcol HX
      obtain ⟨τ, hτ⟩ : ∃ τ, σ.echo1 c = τ := ⟨_, rfl⟩
      rw [hτ] at hW pcol hq0 hq1 hq2 HC
      have HG : Hid (σ.echo1 c = τ) := hτ
      clear hτ HK
      go_wp2_with (go_at_call 38; refine (Column_any b _ τ.col pcol).mono ?_; rintro e w' ⟨rfl, rfl⟩)
      all_goals go_ret
      all_goals exact ⟨ret_int (by rw [HC.out]; split <;> omega), by rw [HG.out]; exact hW⟩
    | false =>
      have HS : Hid (σ.shows c = [c]) := by show σ.shows c = _; unfold St.shows; rw [if_neg (by rw [ht]; decide)]
      go_enter Tryz.func103, Tryz.ntmps103
      go_wp2_with (first | (go_at_call 133; refine (echoes_any b σ _ k2 l0 l1 c).mono ?_; rw [he]; rintro e w' ⟨rfl, rfl⟩) | (go_at_call 38; refine (Column_any b _ σ.col kcol).mono ?_; rintro e w' ⟨rfl, rfl⟩) | (go_at_call 134; refine (two_any b σ _ k2 l0 l1 c).mono ?_; rw [ht]; rintro e w' ⟨rfl, rfl⟩))
      refine (putOut_new S0 w0 x b σ _ K hR HI.out hK [c] (by simp) _ rfl 1 rfl).mono ?_
      rintro e W ⟨rfl, hW⟩
      rw [← HS.out, ← HE.out] at hW
      have hW' := hW
      obtain ⟨vi, vu, vo, vs, hV⟩ := hW'
      have pcol := hV.c_col
      clear hV HS HE k2 kcol HX
      obtain ⟨τ, hτ⟩ : ∃ τ, σ.echo1 c = τ := ⟨_, rfl⟩
      rw [hτ] at hW pcol hq0 hq1 hq2 HC
      have HG : Hid (σ.echo1 c = τ) := hτ
      clear hτ HK
      go_wp2_with (go_at_call 38; refine (Column_any b _ τ.col pcol).mono ?_; rintro e w' ⟨rfl, rfl⟩)
      all_goals go_ret
      all_goals exact ⟨ret_int (by rw [HC.out]; split <;> omega), by rw [HG.out]; exact hW⟩

set_option maxHeartbeats 1000000 in
set_option maxRecDepth 100000 in
theorem most_any (hc : w.cell? ⟨b, 2, none⟩ = some (.int .i64 σ.l)) (hb : b < w.heap.size) (l0 : 0 ≤ σ.l) (l1 : σ.l < 8192) (n cl : Int) (fin file : Bool) :
    Calls Tryz.prog 102 #[.pointer (some ⟨b, 0, none⟩), .agg #[.int .u8 n, .bool file, .bool fin, .int .i64 cl]] w fun e w' => e = .returned (.int .i64 (σ.most fin : Nat)) ∧ w' = w.alloc (.cells #[.int .u8 n, .bool file, .bool fin, .int .i64 cl] 112) := by
  have a2 := has2 σ.l l0 l1
  have HM : Hid (σ.most fin = if bit σ.l 2 && !fin then 255 else 256) := rfl
  cases h2 : bit σ.l 2 with
  | false =>
    rw [h2] at a2
    go_enter Tryz.func102, Tryz.ntmps102
    go_wp2_with (go_at_call 52; refine (Has_any _ _ _).mono ?_; rintro e w' ⟨rfl, hw⟩; have hw := hw.symm; subst hw)
    go_ret
    exact ⟨ret_int (by rw [HM.out, h2]; rfl), rfl⟩
  | true =>
    rw [h2] at a2
    cases fin with
    | true =>
      go_enter Tryz.func102, Tryz.ntmps102
      go_wp2_with (go_at_call 52; refine (Has_any _ _ _).mono ?_; rintro e w' ⟨rfl, hw⟩; have hw := hw.symm; subst hw)
      go_ret
      exact ⟨ret_int (by rw [HM.out, h2]; rfl), rfl⟩
    | false =>
      go_enter Tryz.func102, Tryz.ntmps102
      go_wp2_with (go_at_call 52; refine (Has_any _ _ _).mono ?_; rintro e w' ⟨rfl, hw⟩; have hw := hw.symm; subst hw)
      go_ret
      exact ⟨ret_int (by rw [HM.out, h2]; rfl), rfl⟩
end
end Go.Proofs.YtfnglkhhmplejaaGreat
