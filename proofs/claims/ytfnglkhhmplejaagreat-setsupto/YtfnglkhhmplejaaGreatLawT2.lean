/- Walks: the law: a step on a pair of terminals: its kinds. -/
import Derived.Test.YtfnglkhhmplejaaGreatL0
import Derived.Test.YtfnglkhhmplejaaGreatR26
namespace Go.Proofs.YtfnglkhhmplejaaGreat
open Go Go.RowKit Go.Clk
set_option maxHeartbeats 400000 in
theorem numT_any (e : Int) (w : World) : Calls Tryz.prog 72 #[.int .i64 e] w fun r w' => r = .returned (.int .i64 e) ∧ w = w' := by
  go_enter Tryz.func72, Tryz.ntmps72
  go_wp2
  all_goals go_ret
  all_goals exact ⟨rfl, rfl⟩
section
variable (K : Int) (c : Nat → Nat) (i j bt br wb : Nat) (σ : St) (w : World) (term n : Int) (s : ByteArray) (ss : List Int)
set_option maxHeartbeats 2000000 in
set_option maxRecDepth 100000 in
theorem does_flow (h : Pr w c i j bt br σ σ) (hij : i ≠ j) (hi0 : i ≠ 0) (ok : Inv K σ) (hK : K ≤ 1099511500000) :
    Calls Tryz.prog 44 #[.pointer (some ⟨wb, 0, none⟩), .agg #[.pointer (some ⟨bt, 0, none⟩), .pointer (some ⟨br, 0, none⟩)], .agg (opCells 13 term n s ss).toArray] w fun e w' => Dn c i j bt br w (σ.flow n).1 e w' := by
  go_enter Tryz.func44, Tryz.ntmps44
  go_wp2_with (first | refine wpList_box rfl (.tmp 2) 60 rfl (opCells 13 term n s ss) rfl ?_)
  intro W B hid
  obtain ⟨c2, hP, hA, hB, hT, hc2⟩ := boxes h [.pointer (some ⟨bt, 0, none⟩), .pointer (some ⟨br, 0, none⟩)] (opCells 13 term n s ss) W B 85 60 hid.out
  obtain ⟨A, hAe⟩ : ∃ A, A = w.heap.size := ⟨_, rfl⟩
  rw [← hAe] at hA ⊢
  clear hAe
  have a0 := hA.1.cell 0 (v := .pointer (some ⟨bt, 0, none⟩)) rfl
  have b0 := hB.1.cell 0 (v := .int .i64 13) rfl
  have b2 := hB.1.cell 2 (v := .int .i64 n) rfl
  go_wp2_with fail
  refine (hP.doP hij (fun S0 w0 hX => TFlow S0 w0 [] bt σ W K hX ok (by omega) n)).mono ?_
  rintro e W1 ⟨rfl, hP1, ht1⟩
  have hA1 := hA.stay ht1 hi0
  have hB1 := hB.stay ht1 hi0
  have a1 := hA1.1.cell 1 (v := .pointer (some ⟨br, 0, none⟩)) rfl
  have b2' := hB1.1.cell 2 (v := .int .i64 n) rfl
  clear a0 b0 b2
  go_wp2_with fail
  refine (hP1.doR hij (fun S0 w0 hX => Flow_any S0 w0 [] br σ W1 K hX ok (by omega) n)).mono ?_
  rintro e W2 ⟨rfl, hP2, ht2⟩
  clear a1 b2'
  have HF : Hid (Dn c i j bt br w (σ.flow n).1 (.returned (.bool true)) W2) :=
    ⟨rfl, _, hP2, (hT.next hc2 ht1 (.inl rfl)).next (fun k hk => (recol_old (Nat.lt_of_lt_of_le hk hT.size)).trans (hc2 k hk)) ht2 (.inr rfl),
      fun k hk => (recol_old (Nat.lt_of_lt_of_le (Nat.lt_of_lt_of_le hk hT.size) ht1.size)).trans ((recol_old (Nat.lt_of_lt_of_le hk hT.size)).trans (hc2 k hk))⟩
  go_wp2_with (go_at_call 72; refine (numT_any _ _).mono ?_; rintro e w' ⟨rfl, hw⟩; subst hw)
  go_ret
  exact HF.out
set_option maxHeartbeats 2000000 in
set_option maxRecDepth 100000 in
theorem does_flush (h : Pr w c i j bt br σ σ) (hij : i ≠ j) (hi0 : i ≠ 0) (ok : Inv K σ) (hK : K ≤ 1099511500000) (hw : Well σ) :
    Calls Tryz.prog 44 #[.pointer (some ⟨wb, 0, none⟩), .agg #[.pointer (some ⟨bt, 0, none⟩), .pointer (some ⟨br, 0, none⟩)], .agg (opCells 12 term n s ss).toArray] w fun e w' => Dn c i j bt br w (σ.flush n).1 e w' := by
  go_enter Tryz.func44, Tryz.ntmps44
  go_wp2_with (first | refine wpList_box rfl (.tmp 2) 60 rfl (opCells 12 term n s ss) rfl ?_)
  intro W B hid
  obtain ⟨c2, hP, hA, hB, hT, hc2⟩ := boxes h [.pointer (some ⟨bt, 0, none⟩), .pointer (some ⟨br, 0, none⟩)] (opCells 12 term n s ss) W B 85 60 hid.out
  obtain ⟨A, hAe⟩ : ∃ A, A = w.heap.size := ⟨_, rfl⟩
  rw [← hAe] at hA ⊢
  clear hAe
  have a0 := hA.1.cell 0 (v := .pointer (some ⟨bt, 0, none⟩)) rfl
  have b0 := hB.1.cell 0 (v := .int .i64 12) rfl
  have b2 := hB.1.cell 2 (v := .int .i64 n) rfl
  go_wp2_with fail
  refine (hP.doP hij (fun S0 w0 hX => TFlush S0 w0 [] bt σ W K hX ok (by omega) hw n)).mono ?_
  rintro e W1 ⟨rfl, hP1, ht1⟩
  have hA1 := hA.stay ht1 hi0
  have hB1 := hB.stay ht1 hi0
  have a1 := hA1.1.cell 1 (v := .pointer (some ⟨br, 0, none⟩)) rfl
  have b2' := hB1.1.cell 2 (v := .int .i64 n) rfl
  clear a0 b0 b2
  go_wp2_with fail
  refine (hP1.doR hij (fun S0 w0 hX => Flush_any S0 w0 [] br σ W1 K hX ok (by omega) n)).mono ?_
  rintro e W2 ⟨rfl, hP2, ht2⟩
  clear a1 b2'
  have HF : Hid (Dn c i j bt br w (σ.flush n).1 (.returned (.bool true)) W2) :=
    ⟨rfl, _, hP2, (hT.next hc2 ht1 (.inl rfl)).next (fun k hk => (recol_old (Nat.lt_of_lt_of_le hk hT.size)).trans (hc2 k hk)) ht2 (.inr rfl),
      fun k hk => (recol_old (Nat.lt_of_lt_of_le (Nat.lt_of_lt_of_le hk hT.size) ht1.size)).trans ((recol_old (Nat.lt_of_lt_of_le hk hT.size)).trans (hc2 k hk))⟩
  go_wp2_with (go_at_call 72; refine (numT_any _ _).mono ?_; rintro e w' ⟨rfl, hw⟩; subst hw)
  go_ret
  exact HF.out
set_option maxHeartbeats 2000000 in
set_option maxRecDepth 100000 in
theorem does_read (h : Pr w c i j bt br σ σ) (hij : i ≠ j) (hi0 : i ≠ 0) (ok : Inv K σ) (hK : K ≤ 1099511500000) (hw : Well σ) (hn0 : -9223372036854775808 ≤ n) (hn1 : n ≤ 9223372036854775807) :
    Calls Tryz.prog 44 #[.pointer (some ⟨wb, 0, none⟩), .agg #[.pointer (some ⟨bt, 0, none⟩), .pointer (some ⟨br, 0, none⟩)], .agg (opCells 9 term n s ss).toArray] w fun e w' => Dn c i j bt br w (σ.read n).1 e w' := by
  go_enter Tryz.func44, Tryz.ntmps44
  go_wp2_with (first | refine wpList_box rfl (.tmp 2) 60 rfl (opCells 9 term n s ss) rfl ?_)
  intro W B hid
  obtain ⟨c2, hP, hA, hB, hT, hc2⟩ := boxes h [.pointer (some ⟨bt, 0, none⟩), .pointer (some ⟨br, 0, none⟩)] (opCells 9 term n s ss) W B 85 60 hid.out
  obtain ⟨A, hAe⟩ : ∃ A, A = w.heap.size := ⟨_, rfl⟩
  rw [← hAe] at hA ⊢
  clear hAe
  have a0 := hA.1.cell 0 (v := .pointer (some ⟨bt, 0, none⟩)) rfl
  have b0 := hB.1.cell 0 (v := .int .i64 9) rfl
  have b2 := hB.1.cell 2 (v := .int .i64 n) rfl
  go_wp2_with fail
  refine (hP.doP hij (fun S0 w0 hX => TRead S0 w0 [] bt σ W K hX ok (by omega) hw n)).mono ?_
  rintro e W1 ⟨rfl, hP1, ht1⟩
  have hA1 := hA.stay ht1 hi0
  have hB1 := hB.stay ht1 hi0
  have a1 := hA1.1.cell 1 (v := .pointer (some ⟨br, 0, none⟩)) rfl
  have b2' := hB1.1.cell 2 (v := .int .i64 n) rfl
  clear a0 b0 b2
  go_wp2_with fail
  refine (hP1.doR hij (fun S0 w0 hX => Read_any S0 w0 [] br σ W1 K hX ok (by omega) n hn0 hn1)).mono ?_
  rintro e W2 ⟨rfl, hP2, ht2⟩
  clear a1 b2'
  have HF : Hid (Dn c i j bt br w (σ.read n).1 (.returned (.bool true)) W2) :=
    ⟨rfl, _, hP2, (hT.next hc2 ht1 (.inl rfl)).next (fun k hk => (recol_old (Nat.lt_of_lt_of_le hk hT.size)).trans (hc2 k hk)) ht2 (.inr rfl),
      fun k hk => (recol_old (Nat.lt_of_lt_of_le (Nat.lt_of_lt_of_le hk hT.size) ht1.size)).trans ((recol_old (Nat.lt_of_lt_of_le hk hT.size)).trans (hc2 k hk))⟩
  go_wp2_with (go_at_call 72; refine (numT_any _ _).mono ?_; rintro e w' ⟨rfl, hw⟩; subst hw)
  go_ret
  exact HF.out
set_option maxHeartbeats 2000000 in
set_option maxRecDepth 100000 in
theorem does_receive (h : Pr w c i j bt br σ σ) (hij : i ≠ j) (hi0 : i ≠ 0) (ok : Inv K σ) (hK : K + 2049 * (s.size + 1) ≤ 1099511500000) (hw : Well σ) (hs : s.size ≤ 1048576) :
    Calls Tryz.prog 44 #[.pointer (some ⟨wb, 0, none⟩), .agg #[.pointer (some ⟨bt, 0, none⟩), .pointer (some ⟨br, 0, none⟩)], .agg (opCells 6 term n s ss).toArray] w fun e w' => Dn c i j bt br w (σ.receive n s.data.toList).1 e w' := by
  go_enter Tryz.func44, Tryz.ntmps44
  go_wp2_with (first | refine wpList_box rfl (.tmp 2) 60 rfl (opCells 6 term n s ss) rfl ?_)
  intro W B hid
  obtain ⟨c2, hP, hA, hB, hT, hc2⟩ := boxes h [.pointer (some ⟨bt, 0, none⟩), .pointer (some ⟨br, 0, none⟩)] (opCells 6 term n s ss) W B 85 60 hid.out
  obtain ⟨A, hAe⟩ : ∃ A, A = w.heap.size := ⟨_, rfl⟩
  rw [← hAe] at hA ⊢
  clear hAe
  have a0 := hA.1.cell 0 (v := .pointer (some ⟨bt, 0, none⟩)) rfl
  have b0 := hB.1.cell 0 (v := .int .i64 6) rfl
  have b2 := hB.1.cell 2 (v := .int .i64 n) rfl
  have b3 := hB.1.cell 3 (v := .string s) rfl
  go_wp2_with fail
  refine (hP.doP hij (fun S0 w0 hX => TReceive S0 w0 [] bt σ W K hX ok hw n s (by unfold maxLen; omega) (by omega))).mono ?_
  rintro e W1 ⟨rfl, hP1, ht1⟩
  have hA1 := hA.stay ht1 hi0
  have hB1 := hB.stay ht1 hi0
  have a1 := hA1.1.cell 1 (v := .pointer (some ⟨br, 0, none⟩)) rfl
  have b2' := hB1.1.cell 2 (v := .int .i64 n) rfl
  have b3' := hB1.1.cell 3 (v := .string s) rfl
  clear a0 b0 b2 b3
  go_wp2_with fail
  refine (hP1.doR hij (fun S0 w0 hX => Receive_any S0 w0 [] br σ W1 K hX ok n s hs (by omega))).mono ?_
  rintro e W2 ⟨rfl, hP2, ht2⟩
  clear a1 b2' b3'
  have HF : Hid (Dn c i j bt br w (σ.receive n s.data.toList).1 (.returned (.bool true)) W2) :=
    ⟨rfl, _, hP2, (hT.next hc2 ht1 (.inl rfl)).next (fun k hk => (recol_old (Nat.lt_of_lt_of_le hk hT.size)).trans (hc2 k hk)) ht2 (.inr rfl),
      fun k hk => (recol_old (Nat.lt_of_lt_of_le (Nat.lt_of_lt_of_le hk hT.size) ht1.size)).trans ((recol_old (Nat.lt_of_lt_of_le hk hT.size)).trans (hc2 k hk))⟩
  go_wp2_with (go_at_call 72; refine (numT_any _ _).mono ?_; rintro e w' ⟨rfl, hw⟩; subst hw)
  go_ret
  exact HF.out
set_option maxHeartbeats 2000000 in
set_option maxRecDepth 100000 in
theorem does_tick (h : Pr w c i j bt br σ σ) (hij : i ≠ j) (hi0 : i ≠ 0) (ok : Inv K σ) (hK : K ≤ 1099511500000) (hw : Well σ) :
    Calls Tryz.prog 44 #[.pointer (some ⟨wb, 0, none⟩), .agg #[.pointer (some ⟨bt, 0, none⟩), .pointer (some ⟨br, 0, none⟩)], .agg (opCells 11 term n s ss).toArray] w fun e w' => Dn c i j bt br w σ.tick e w' := by
  go_enter Tryz.func44, Tryz.ntmps44
  go_wp2_with (first | refine wpList_box rfl (.tmp 2) 60 rfl (opCells 11 term n s ss) rfl ?_)
  intro W B hid
  obtain ⟨c2, hP, hA, hB, hT, hc2⟩ := boxes h [.pointer (some ⟨bt, 0, none⟩), .pointer (some ⟨br, 0, none⟩)] (opCells 11 term n s ss) W B 85 60 hid.out
  obtain ⟨A, hAe⟩ : ∃ A, A = w.heap.size := ⟨_, rfl⟩
  rw [← hAe] at hA ⊢
  clear hAe
  have a0 := hA.1.cell 0 (v := .pointer (some ⟨bt, 0, none⟩)) rfl
  have b0 := hB.1.cell 0 (v := .int .i64 11) rfl
  go_wp2_with fail
  refine (hP.doP hij (fun S0 w0 hX => TTick S0 w0 [] bt σ W K hX ok (by omega) hw)).mono ?_
  rintro e W1 ⟨rfl, hP1, ht1⟩
  have hA1 := hA.stay ht1 hi0
  have hB1 := hB.stay ht1 hi0
  have a1 := hA1.1.cell 1 (v := .pointer (some ⟨br, 0, none⟩)) rfl
  clear a0 b0 
  go_wp2_with fail
  refine (hP1.doR hij (fun S0 w0 hX => Tick_any S0 w0 [] br σ W1 K hX ok (by omega))).mono ?_
  rintro e W2 ⟨rfl, hP2, ht2⟩
  clear a1 
  have HF : Hid (Dn c i j bt br w σ.tick (.returned (.bool true)) W2) :=
    ⟨rfl, _, hP2, (hT.next hc2 ht1 (.inl rfl)).next (fun k hk => (recol_old (Nat.lt_of_lt_of_le hk hT.size)).trans (hc2 k hk)) ht2 (.inr rfl),
      fun k hk => (recol_old (Nat.lt_of_lt_of_le (Nat.lt_of_lt_of_le hk hT.size) ht1.size)).trans ((recol_old (Nat.lt_of_lt_of_le hk hT.size)).trans (hc2 k hk))⟩
  go_wp2_with (go_at_call 72; refine (numT_any _ _).mono ?_; rintro e w' ⟨rfl, hw⟩; subst hw)
  go_ret
  exact HF.out
set_option maxHeartbeats 2000000 in
set_option maxRecDepth 100000 in
theorem does_set (h : Pr w c i j bt br σ σ) (hij : i ≠ j) (hi0 : i ≠ 0) (ok : Inv K σ) (hK : K ≤ 1099511500000) (hw : Well σ) (hss : ss.length = 17) :
    Calls Tryz.prog 44 #[.pointer (some ⟨wb, 0, none⟩), .agg #[.pointer (some ⟨bt, 0, none⟩), .pointer (some ⟨br, 0, none⟩)], .agg (opCells 8 term n s ss).toArray] w fun e w' => Dn c i j bt br w (σ.set ss n).1 e w' := by
  have hl17 : (i64s ss).length = 17 := by rw [i64s_len, hss]
  have hi : (Tryz.prog.info? 29).map (·.size) = some (i64s ss).length := by rw [hl17]; exact size_settings
  go_enter Tryz.func44, Tryz.ntmps44
  go_wp2_with (first | refine wpList_box rfl (.tmp 2) 60 rfl (opCells 8 term n s ss) rfl ?_)
  intro W B hid
  obtain ⟨c2, hP, hA, hB, hT, hc2⟩ := boxes h [.pointer (some ⟨bt, 0, none⟩), .pointer (some ⟨br, 0, none⟩)] (opCells 8 term n s ss) W B 85 60 hid.out
  obtain ⟨A, hAe⟩ : ∃ A, A = w.heap.size := ⟨_, rfl⟩
  rw [← hAe] at hA ⊢
  clear hAe
  have a0 := hA.1.cell 0 (v := .pointer (some ⟨bt, 0, none⟩)) rfl
  have b0 := hB.1.cell 0 (v := .int .i64 8) rfl
  have b2 := hB.1.cell 2 (v := .int .i64 n) rfl
  go_wp2_with (refine wpList_load_part rfl (.tmp 82) 29 rfl B 4 rfl (i64s ss) _ ?hc1 Tryz.underlying29 rfl hi ?next1)
  case hc1 => exact fun k v hv => hB.1.cell (4 + k) (by unfold opCells; rw [List.getElem?_append_right (by simp)]; simpa using hv)
  refine (hP.doP hij (fun S0 w0 hX => TSet S0 w0 [] bt σ W K hX ok (by omega) hw ss hss n)).mono ?_
  rintro e W1 ⟨rfl, hP1, ht1⟩
  have hA1 := hA.stay ht1 hi0
  have hB1 := hB.stay ht1 hi0
  have a1 := hA1.1.cell 1 (v := .pointer (some ⟨br, 0, none⟩)) rfl
  have b2' := hB1.1.cell 2 (v := .int .i64 n) rfl
  clear a0 b0 b2
  go_wp2_with (refine wpList_load_part rfl (.tmp 89) 29 rfl B 4 rfl (i64s ss) _ ?hc2 Tryz.underlying29 rfl hi ?next2)
  case hc2 => exact fun k v hv => hB1.1.cell (4 + k) (by unfold opCells; rw [List.getElem?_append_right (by simp)]; simpa using hv)
  refine (hP1.doR hij (fun S0 w0 hX => RSet_any S0 w0 [] br σ W1 K hX ok (by omega) ss hss n)).mono ?_
  rintro e W2 ⟨rfl, hP2, ht2⟩
  clear a1 b2'
  have HF : Hid (Dn c i j bt br w (σ.set ss n).1 (.returned (.bool true)) W2) :=
    ⟨rfl, _, hP2, (hT.next hc2 ht1 (.inl rfl)).next (fun k hk => (recol_old (Nat.lt_of_lt_of_le hk hT.size)).trans (hc2 k hk)) ht2 (.inr rfl),
      fun k hk => (recol_old (Nat.lt_of_lt_of_le (Nat.lt_of_lt_of_le hk hT.size) ht1.size)).trans ((recol_old (Nat.lt_of_lt_of_le hk hT.size)).trans (hc2 k hk))⟩
  go_wp2_with (go_at_call 72; refine (numT_any _ _).mono ?_; rintro e w' ⟨rfl, hw⟩; subst hw)
  go_ret
  exact HF.out
end
end Go.Proofs.YtfnglkhhmplejaaGreat
