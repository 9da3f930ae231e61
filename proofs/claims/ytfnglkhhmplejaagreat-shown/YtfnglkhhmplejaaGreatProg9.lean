/- Walks: the program: its settings are changed. -/
import Derived.Test.YtfnglkhhmplejaaGreatProg8
namespace Go.Proofs.YtfnglkhhmplejaaGreat
open Go Go.RowKit Go.Clk

theorem i64_mask (n : Int) (k : Nat) (hk : k < 60) (m : Int) (hm : m = ((2 ^ k - 1 : Nat) : Int)) : bits .and .i64 n m = n % ((2 ^ k : Nat) : Int) := by
  subst hm
  have hpow : 2 ^ k ≤ 2 ^ 59 := Nat.pow_le_pow_right (by omega) (by omega)
  have hp0 : 0 < 2 ^ k := Nat.two_pow_pos k
  have hm : (BitVec.ofInt 64 ((2 ^ k - 1 : Nat) : Int)).toNat = 2 ^ k - 1 := by
    rw [BitVec.ofInt_natCast, BitVec.toNat_ofNat]; exact Nat.mod_eq_of_lt (by omega)
  have key : (BitVec.ofInt 64 n &&& BitVec.ofInt 64 ((2 ^ k - 1 : Nat) : Int)).toNat = (n % ((2 ^ 64 : Nat) : Int)).toNat % 2 ^ k := by
    rw [BitVec.toNat_and, BitVec.toNat_ofInt, hm, Nat.and_two_pow_sub_one_eq_mod]
  show IntKind.i64.wrap ((BitVec.ofInt 64 n &&& BitVec.ofInt 64 ((2 ^ k - 1 : Nat) : Int)).toNat : Nat) = _
  rw [key]
  have hlt : (n % ((2 ^ 64 : Nat) : Int)).toNat % 2 ^ k < 2 ^ k := Nat.mod_lt _ hp0
  rw [wrap_small _ (by omega) (by omega)]
  have h64 : 0 ≤ n % ((2 ^ 64 : Nat) : Int) := Int.emod_nonneg _ (by decide)
  rw [Int.natCast_emod, Int.toNat_of_nonneg h64]
  apply Int.emod_emod_of_dvd
  exact Int.natCast_dvd_natCast.2 (Nat.pow_dvd_pow 2 (by omega))
theorem mask13 (n : Int) : bits .and .i64 n 8191 = n % 8192 := i64_mask n 13 (by omega) _ rfl
theorem mask7 (n : Int) : bits .and .i64 n 127 = n % 128 := i64_mask n 7 (by omega) _ rfl
theorem mask10 (n : Int) : bits .and .i64 n 1023 = n % 1024 := i64_mask n 10 (by omega) _ rfl
theorem mask8 (n : Int) : bits .and .i64 n 255 = n % 256 := i64_mask n 8 (by omega) _ rfl

section
variable (S0 : List Nat) (w0 : World) (x : List Nat) (b : Nat) (σ : St) (w : World)

set_option maxHeartbeats 2000000 in
set_option maxRecDepth 100000 in
theorem known_any (s : List Int) (hs : s.length = 17) :
    Calls Tryz.prog 51 #[.agg (i64s s).toArray] w fun e w' => e = .returned (.agg (i64s (normS s)).toArray) ∧ w.grownBy w' none := by
  have m13 := mask13
  have m7 := mask7
  have m10 := mask10
  have m8 := mask8
  go_enter Tryz.func51, Tryz.ntmps51
  go_wp2_with (refine wpList_box rfl (.tmp 0) 29 rfl (i64s s) rfl ?_)
  intro W B hid
  have hB : Blk W B 29 (i64s s) := by obtain ⟨rfl, rfl⟩ := hid.out; exact Blk.new w _ _
  have hG : w.grownBy W none := by obtain ⟨rfl, rfl⟩ := hid.out; exact World.grownBy_alloc w _ none
  have hBw : Hid (w.heap.size ≤ B) := by obtain ⟨rfl, rfl⟩ := hid.out; exact Nat.le_refl _
  have hlt := hB.lt
  clear hid
  have kB : ∀ k, k < 17 → W.cell? ⟨B, k, none⟩ = some (.int .i64 (gt s k)) := fun k hk => hB.cell k (by simp [i64s, gt, List.getD, List.getElem?_eq_getElem (show k < s.length by omega)])
  have b0 := kB 0 (by omega)
  have b1 := kB 1 (by omega)
  have b2 := kB 2 (by omega)
  have f0 := hB.frozen 0
  have f1 := hB.frozen 1
  have f2 := hB.frozen 2
  clear kB
  have hs3 : i64s (partS s s (3 + 0)) = (((i64s s).set 0 (.int .i64 (gt s 0 % 8192))).set 1 (.int .i64 (gt s 1 % 128))).set 2 (.int .i64 (gt s 2 % 1024)) := by
    have e0 := partS_set s s 0 (by omega)
    have e1 := partS_set s s 1 (by omega)
    have e2 := partS_set s s 2 (by omega)
    rw [partS_zero _ _ hs] at e0
    rw [← e0] at e1
    rw [← e1] at e2
    show i64s (partS s s (2 + 1)) = _
    rw [← e2]
    simp [i64s, List.map_set, lim]
  have HS3 : Hid (i64s (partS s s (3 + 0)) = (((i64s s).set 0 (.int .i64 (gt s 0 % 8192))).set 1 (.int .i64 (gt s 1 % 128))).set 2 (.int .i64 (gt s 2 % 1024))) := hs3
  have HB : Hid (Blk ((((W.setCell ⟨B, 0, none⟩ (.int .i64 (gt s 0 % 8192))).setCell ⟨B, 1, none⟩ (.int .i64 (gt s 1 % 128))).setCell ⟨B, 2, none⟩ (.int .i64 (gt s 2 % 1024))).alloc (.cells z17.toArray 29)) B 29 (i64s (partS s s (3 + 0)))) := by
    show Blk _ _ _ _
    rw [hs3]
    have h1 := ((hB.set 0 (.int .i64 (gt s 0 % 8192))).set 1 (.int .i64 (gt s 1 % 128))).set 2 (.int .i64 (gt s 2 % 1024))
    unfold Blk
    rw [Below.heap_alloc _ _ B h1.lt]
    exact h1
  have HR : Hid (Blk ((((W.setCell ⟨B, 0, none⟩ (.int .i64 (gt s 0 % 8192))).setCell ⟨B, 1, none⟩ (.int .i64 (gt s 1 % 128))).setCell ⟨B, 2, none⟩ (.int .i64 (gt s 2 % 1024))).alloc (.cells z17.toArray 29)) W.heap.size 29 z17) := by
    have h1 := Blk.new (((W.setCell ⟨B, 0, none⟩ (.int .i64 (gt s 0 % 8192))).setCell ⟨B, 1, none⟩ (.int .i64 (gt s 1 % 128))).setCell ⟨B, 2, none⟩ (.int .i64 (gt s 2 % 1024))) z17 29
    have e1 : (((W.setCell ⟨B, 0, none⟩ (.int .i64 (gt s 0 % 8192))).setCell ⟨B, 1, none⟩ (.int .i64 (gt s 1 % 128))).setCell ⟨B, 2, none⟩ (.int .i64 (gt s 2 % 1024))).heap.size = W.heap.size := by simp
    rw [e1] at h1
    exact h1
  have HG : Hid (w.grownBy ((((W.setCell ⟨B, 0, none⟩ (.int .i64 (gt s 0 % 8192))).setCell ⟨B, 1, none⟩ (.int .i64 (gt s 1 % 128))).setCell ⟨B, 2, none⟩ (.int .i64 (gt s 2 % 1024))).alloc (.cells z17.toArray 29)) none) := by
    have k1 : Kp [] w ((((W.setCell ⟨B, 0, none⟩ (.int .i64 (gt s 0 % 8192))).setCell ⟨B, 1, none⟩ (.int .i64 (gt s 1 % 128))).setCell ⟨B, 2, none⟩ (.int .i64 (gt s 2 % 1024))).alloc (.cells z17.toArray 29)) :=
      ((((((Kp.refl [] w).grown hG (fun k e => by cases e)).set _ _ (.inr hBw.out)).set _ _ (.inr hBw.out)).set _ _ (.inr hBw.out)).alloc _)
    exact ⟨k1.os, k1.tape, k1.output, k1.size, fun k hk _ => k1.block k hk (by simp)⟩
  have hBW := hlt
  clear hs3 HS3 hB hG
  go_wp2
  go_loopg [16] 14 (fun k i wr => ∃ j : Nat, j + k = 14 ∧ i = .int .i64 j ∧ Blk wr B 29 (i64s (partS s s (3 + j))) ∧ Blk wr W.heap.size 29 z17 ∧ w.grownBy wr none)
  case atStart => exact ⟨0, by omega, rfl, HB.out, HR.out, HG.out⟩
  case round =>
    obtain ⟨j, hj, rfl, hB, hR, hG⟩ := hrel
    clear HB HR HG b0 b1 b2 f0 f1 f2
    by_cases hlt : j < 14
    · have cj : wr.cell? ⟨B, 3 + j, none⟩ = some (.int .i64 (gt s (3 + j))) := by
        have h1 := partS_get s s (3 + j) (3 + j) (by omega)
        rw [if_neg (by omega)] at h1
        have hpl := partS_len s s (3 + j)
        refine hB.cell (3 + j) ?_
        rw [← h1]
        simp [i64s, gt, List.getD, List.getElem?_eq_getElem (show 3 + j < (partS s s (3 + j)).length by omega)]
      have fj := hB.frozen (3 + j)
      have HN : Hid (Blk (wr.setCell ⟨B, 3 + j, none⟩ (.int .i64 (gt s (3 + j) % 256))) B 29 (i64s (partS s s (3 + (j + 1))))) := by
        have h1 := hB.set (3 + j) (.int .i64 (gt s (3 + j) % 256))
        have h2 := partS_set s s (3 + j) (by omega)
        rw [show lim (3 + j) = 256 by simp [lim]; omega] at h2
        have h3 : (i64s (partS s s (3 + j))).set (3 + j) (.int .i64 (gt s (3 + j) % 256)) = i64s (partS s s (3 + (j + 1))) := by
          rw [← Nat.add_assoc, ← h2]; simp [i64s, List.map_set]
        rw [← h3]; exact h1
      have HR2 : Hid (Blk (wr.setCell ⟨B, 3 + j, none⟩ (.int .i64 (gt s (3 + j) % 256))) W.heap.size 29 z17) := hR.other _ _ (by simp; omega)
      have HG2 : Hid (w.grownBy (wr.setCell ⟨B, 3 + j, none⟩ (.int .i64 (gt s (3 + j) % 256))) none) := by
        have k1 := ((Kp.refl [] w).grown hG (fun k e => by cases e)).set ⟨B, 3 + j, none⟩ (.int .i64 (gt s (3 + j) % 256)) (.inr hBw.out)
        exact ⟨k1.os, k1.tape, k1.output, k1.size, fun k hk _ => k1.block k hk (by simp)⟩
      clear hB hR hG
      go_wp2
      go_roundg (gk - 1)
      case measure => omega
      case rel => exact ⟨j + 1, by omega, by go_num, HN.out, HR2.out, HG2.out⟩
    · obtain rfl : j = 14 := by omega
      have e17 : partS s s (3 + 14) = normS s := partS_all s s
      rw [e17] at hB
      have hlen : (i64s (normS s)).length = 17 := by simp [i64s, normS]
      have hi : (Tryz.prog.info? 29).map (·.size) = some (i64s (normS s)).length := by rw [hlen]; exact size_settings
      clear e17
      go_wp2_with (first | refine wpList_load_part rfl (.tmp 1) 29 rfl B 0 rfl (i64s (normS s)) _ ?hc Tryz.underlying29 rfl hi ?next | refine wpList_store_whole rfl (.tmp 2) (.tmp 27) 29 rfl W.heap.size rfl (i64s (normS s)) rfl 29 z17 hR ?hlen hi (i64s_one _) ?_)
      case hc =>
        intro j v hv
        rw [Nat.zero_add]
        exact hB.cell j hv
      case hlen => rw [hlen]; rfl
      · intro W2 hW2 hG2 hsz
        go_wp2
        refine bodyPost_ret (v := .agg (i64s (normS s)).toArray) (results_cell_row (P := Tryz.prog) rfl _ _ W.heap.size 29 (i64s (normS s)).toArray (0, 0) _ rfl hW2 Tryz.underlying29 rfl (by simpa using hi)) rfl ⟨rfl, ?_⟩
        exact grownBy_then hG hG2 fun g e => by cases e; have := hBw.out; omega
end
end Go.Proofs.YtfnglkhhmplejaaGreat
