/- Walks: what clackkeep's laws share. -/
import Derived.Test.YtloadnnlmoeaiaaProg44
import Derived.Test.YtloadnnlmoeaiaaKeep
namespace Go.Clk
open Go
theorem AtO.under {w w1 w' : World} {x : List Nat} {b : Nat} {e : TypeId} {cs : List Value} {fs : List Fld} (h : AtO [] w1 x b e cs fs w') (hk : Kp [] w w1) : AtO [] w x b e cs fs w' := by
  obtain ⟨os, h1, h2, h3, h4, h5⟩ := h
  refine ⟨os, h1, hk.trans h2 (fun k hk => by cases hk), ?_, ?_, h5⟩
  · rcases h3 with h | h
    · cases h
    · exact .inr (Nat.le_trans hk.size h)
  · intro k g hg
    rcases h4 k g hg with h | h
    · cases h
    · exact .inr (Nat.le_trans hk.size h)
end Go.Clk
namespace Go.Proofs.Ytloadnnlmoeaiaa
open Go Go.RowKit Go.Clk
theorem AtT.under {w w1 w' : World} {x : List Nat} {b : Nat} {σ : St} (h : AtT [] w1 x b σ w') (hk : Kp [] w w1) : AtT [] w x b σ w' := by
  obtain ⟨ρ, hs, ⟨vi, vu, vo, vs, h⟩⟩ := h; exact ⟨ρ, hs, vi, vu, vo, vs, h.1, h.2.under hk⟩
set_option maxHeartbeats 400000 in
theorem kpick_any (c n : Int) (w : World) (h0 : 0 < n) (h1 : n ≤ 256) (hc : -9223372036854775808 ≤ c) (hc' : c ≤ 9223372036854775807) :
    Calls Try.prog 21 #[.int .i64 c, .int .i64 n] w fun e w' => e = .returned (.int .i64 (pickN c n)) ∧ w = w' := by
  have hz : (n == 0) = false := beq_eq_false_iff_ne.2 (by omega)
  by_cases hneg : c < 0
  · have h3 : 0 ≤ -(c + 1) := by omega
    go_enter Try.func21, Try.ntmps21
    go_wp2
    all_goals go_ret
    exact ⟨ret_int (by unfold pickN; rw [if_pos hneg, ← Int.neg_tmod, Int.tmod_eq_emod_of_nonneg h3]), rfl⟩
  · go_enter Try.func21, Try.ntmps21
    go_wp2
    all_goals go_ret
    exact ⟨ret_int (by unfold pickN; rw [if_neg (by omega)]), rfl⟩
section
variable (S0 : List Nat) (w0 : World) (x : List Nat) (b : Nat) (σ : St) (w : World) (K : Int)
set_option maxHeartbeats 1000000 in
theorem all_any (h : AtT S0 w0 x b σ w) (ok : Inv K σ) (hK : K ≤ 1099511627776) :
    Calls Try.prog 15 #[.pointer (some ⟨b, 0, none⟩)] w fun e w' => e = .returned (.string (str (σ.drain 1099511627776).2)) ∧ AtT S0 w0 x b (σ.drain 1099511627776).1 w' := by
  have hd := TDrain S0 w0 x b σ w K h ok hK 1099511627776 (by omega) (by omega)
  have e1 : (1099511627776 : Int).toNat = 1099511627776 := rfl
  rw [e1] at hd
  go_enter Try.func15, Try.ntmps15
  go_wp2_with (go_at_call 27; refine hd.mono ?_; rintro e W ⟨rfl, hW⟩)
  go_ret
  exact ⟨rfl, hW⟩
/-- What a read of n bytes has at once. -/
def fetched (σ : St) (n : Int) : Bool := (σ.read n).1.take.2.2.1 && (((σ.read n).2 == 0) && ((σ.read n).1.take.2.2.2 == 0))
set_option maxHeartbeats 1000000 in
theorem kfetch_any (h : AtT S0 w0 x b σ w) (ok : Inv K σ) (hK : K + 1 ≤ 1099511627776) (hw : Well σ) (n : Int) :
    Calls Try.prog 16 #[.pointer (some ⟨b, 0, none⟩), .int .i64 n] w fun e w' => e = .returned (.tuple #[.string (str (σ.read n).1.take.2.1), .bool (fetched σ n)]) ∧ AtT S0 w0 x b (σ.read n).1.take.1 w' := by
  have hr := TRead S0 w0 x b σ w K h ok (by omega) hw n
  have ok2 := ok.read n
  have HT : Hid (∀ W, AtT S0 w0 x b (σ.read n).1 W → Calls Try.prog 23 #[.pointer (some ⟨b, 0, none⟩)] W fun e w' => e = .returned (.tuple #[.string (str (σ.read n).1.take.2.1), .bool (σ.read n).1.take.2.2.1, .int .i64 (σ.read n).1.take.2.2.2]) ∧ AtT S0 w0 x b (σ.read n).1.take.1 w') := fun W hW => TTake S0 w0 x b _ W (K + 1) hW ok2
  have HF : Hid (fetched σ n = ((σ.read n).1.take.2.2.1 && (((σ.read n).2 == 0) && ((σ.read n).1.take.2.2.2 == 0)))) := rfl
  generalize (σ.read n).1.take = tk at *
  obtain ⟨τ, d, q, f⟩ := tk
  generalize (σ.read n).2 = e0 at *
  dsimp only at HT HF ⊢
  clear ok ok2 hw
  cases q with
  | false =>
    go_enter Try.func16, Try.ntmps16
    go_wp2_with (first | (go_at_call 22; refine hr.mono ?_; rintro e W ⟨rfl, hW⟩) | (go_at_call 23; refine (HT.out _ hW).mono ?_; rintro e W2 ⟨rfl, hW2⟩))
    go_ret2
    rw [HF.out]
    exact ⟨rfl, hW2⟩
  | true =>
    cases he : (e0 == 0) with
    | false =>
      go_enter Try.func16, Try.ntmps16
      go_wp2_with (first | (go_at_call 22; refine hr.mono ?_; rintro e W ⟨rfl, hW⟩) | (go_at_call 23; refine (HT.out _ hW).mono ?_; rintro e W2 ⟨rfl, hW2⟩))
      go_ret2
      rw [HF.out, he]
      exact ⟨rfl, hW2⟩
    | true =>
      go_enter Try.func16, Try.ntmps16
      go_wp2_with (first | (go_at_call 22; refine hr.mono ?_; rintro e W ⟨rfl, hW⟩) | (go_at_call 23; refine (HT.out _ hW).mono ?_; rintro e W2 ⟨rfl, hW2⟩))
      go_ret2
      rw [HF.out, he]
      exact ⟨rfl, hW2⟩
set_option maxHeartbeats 1000000 in
theorem kchange_any (h : AtT S0 w0 x b σ w) (ok : Inv K σ) (hK : K ≤ 1099511627776) (hw : Well σ) (s : List Int) (hs : s.length = 17) :
    Calls Try.prog 11 #[.pointer (some ⟨b, 0, none⟩), .agg (i64s s).toArray] w fun e w' => e = .returned (.bool true) ∧ AtT S0 w0 x b (σ.change s).look w' := by
  have e0 : σ.set s 0 = ((σ.change s).look, 0) := by unfold St.set; rw [if_neg (by omega), if_neg (by omega), if_neg (by omega)]
  have HS : Hid (∀ W, AtT S0 w0 x b σ W → Calls Try.prog 28 #[.pointer (some ⟨b, 0, none⟩), .agg (i64s s).toArray, .int .i64 0] W fun e w' => e = .returned (.int .i64 0) ∧ AtT S0 w0 x b (σ.change s).look w') := fun W hW => by
    have := TSet S0 w0 x b σ W K hW ok hK hw s hs 0
    rw [e0] at this; exact this
  have hsl : (i64s s).length = 17 := by rw [i64s_len, hs]
  clear e0
  go_enter Try.func11, Try.ntmps11
  go_wp2_with (refine wpList_box rfl (.tmp 1) 26 rfl (i64s s) rfl ?_)
  intro W B hid
  have hB : AtT S0 w0 x b σ W := by obtain ⟨rfl, rfl⟩ := hid.out; exact h.same ⟨rfl, rfl, rfl, by simp, fun k hk _ => Below.heap_alloc w _ k hk⟩
  have HB : Hid (Blk W B 26 (i64s s)) := by obtain ⟨rfl, rfl⟩ := hid.out; exact Blk.new w _ _
  clear hid
  go_wp2_with (first
    | (refine wpList_load_part rfl (.tmp 3) 26 rfl B 0 rfl (i64s s) _ (fun j v hv => by rw [Nat.zero_add]; exact HB.out.cell j hv) Try.underlying26 rfl (by rw [hsl]; exact size_settings2) ?_)
    | (go_at_call 28; refine (HS.out _ hB).mono ?_; rintro e W2 ⟨rfl, hW2⟩))
  go_ret
  exact ⟨rfl, hW2⟩
end
set_option maxHeartbeats 2000000 in
set_option maxRecDepth 100000 in
theorem begin_any (w : World) : Calls Try.prog 9 #[] w fun e w' => ∃ b, e = .returned (.pointer (some ⟨b, 0, none⟩)) ∧ AtT [] w [] b newS w' := by
  have r1 : (newS.receive 0 [97, 98, 127, 99, 13]).2 = 0 := by kernel_rfl
  obtain ⟨σ1, hσ1⟩ : ∃ σ1, (newS.receive 0 [97, 98, 127, 99, 13]).1 = σ1 := ⟨_, rfl⟩
  have d1 : (σ1.drain 99).2 = [97, 98, 8, 32, 8, 99, 13, 10] := by rw [← hσ1]; kernel_rfl
  obtain ⟨σ2, hσ2⟩ : ∃ σ2, (σ1.drain 99).1 = σ2 := ⟨_, rfl⟩
  have r2 : (σ2.read 9).2 = 0 := by rw [← hσ2, ← hσ1]; kernel_rfl
  obtain ⟨σ3, hσ3⟩ : ∃ σ3, (σ2.read 9).1 = σ3 := ⟨_, rfl⟩
  have t1 : σ3.take.2 = ([97, 99, 10], true, 0) := by rw [← hσ3, ← hσ2, ← hσ1]; kernel_rfl
  have o1 : Inv (2049 * 6) σ1 := by rw [← hσ1]; have := Inv.new.receive 0 [97, 98, 127, 99, 13]; exact this.mono (by simp)
  have o2 : Inv (2049 * 6 + 2048) σ2 := by rw [← hσ2]; exact o1.drain 99
  have o3 : Inv (2049 * 6 + 2048 + 1) σ3 := by rw [← hσ3]; exact o2.read 9
  have w1 : Well σ1 := by rw [← hσ1]; exact (from_receive _ _ _).well Well.new
  have w2 : Well σ2 := by rw [← hσ2]; exact (from_drain _ _).well w1
  have HR : Hid (∀ b W, AtT [] w [] b newS W → Calls Try.prog 13 #[.pointer (some ⟨b, 0, none⟩), .int .i64 0, .string ⟨#[97, 98, 127, 99, 13]⟩] W fun e w' => e = .returned (.int .i64 0) ∧ AtT [] w [] b σ1 w') := fun b W hW => by
    have := TReceive [] w [] b newS W 0 hW Inv.new Well.new 0 ⟨#[97, 98, 127, 99, 13]⟩ (by simp [maxLen, ByteArray.size]) (by simp [ByteArray.size])
    rw [show (⟨#[97, 98, 127, 99, 13]⟩ : ByteArray).data.toList = [97, 98, 127, 99, 13] from rfl, r1, hσ1] at this
    exact this
  have HD : Hid (∀ b W, AtT [] w [] b σ1 W → Calls Try.prog 27 #[.pointer (some ⟨b, 0, none⟩), .int .i64 99] W fun e w' => e = .returned (.tuple #[.string ⟨#[97, 98, 8, 32, 8, 99, 13, 10]⟩, .int .i64 0]) ∧ AtT [] w [] b σ2 w') := fun b W hW => by
    have := TDrain [] w [] b σ1 W _ hW o1 (by omega) 99 (by omega) (by omega)
    rw [show (99 : Int).toNat = 99 from rfl, d1, hσ2] at this
    exact this
  have HRd : Hid (∀ b W, AtT [] w [] b σ2 W → Calls Try.prog 22 #[.pointer (some ⟨b, 0, none⟩), .int .i64 9] W fun e w' => e = .returned (.int .i64 0) ∧ AtT [] w [] b σ3 w') := fun b W hW => by
    have := TRead [] w [] b σ2 W _ hW o2 (by omega) w2 9
    rw [r2, hσ3] at this
    exact this
  have HT : Hid (∀ b W, AtT [] w [] b σ3 W → Calls Try.prog 23 #[.pointer (some ⟨b, 0, none⟩)] W fun e w' => e = .returned (.tuple #[.string ⟨#[97, 99, 10]⟩, .bool true, .int .i64 0]) ∧ Kp [] w w') := fun b W hW => by
    have := TTake [] w [] b σ3 W _ hW o3
    rw [t1] at this
    exact this.mono fun e w' ⟨h1, h2⟩ => ⟨h1, h2.kp⟩
  have HN : Hid (∀ W, Calls Try.prog 31 #[] W fun e w' => ∃ b, e = .returned (.pointer (some ⟨b, 0, none⟩)) ∧ AtT [] W [] b newS w') := fun W => TNew W
  clear r1 d1 r2 t1 o1 o2 o3 w1 w2 hσ1 hσ2 hσ3
  go_enter Try.func9, Try.ntmps9
  go_wp2_with (first
    | (go_at_call 31; refine (HN.out w).mono ?_; rintro e W1 ⟨b1, rfl, hW1⟩)
    | (go_at_call 13; refine (HR.out _ _ hW1).mono ?_; rintro e W2 ⟨rfl, hW2⟩)
    | (go_at_call 27; refine (HD.out _ _ hW2).mono ?_; rintro e W3 ⟨rfl, hW3⟩)
    | (go_at_call 22; refine (HRd.out _ _ hW3).mono ?_; rintro e W4 ⟨rfl, hW4⟩)
    | (go_at_call 23; refine (HT.out _ _ hW4).mono ?_; clear HN; rintro e W5 ⟨rfl, hW5⟩))
  refine (TNew W5).mono ?_
  rintro e W6 ⟨b2, rfl, hW6⟩
  go_wp2
  go_ret
  exact ⟨b2, rfl, hW6.under hW5⟩
end Go.Proofs.Ytloadnnlmoeaiaa
