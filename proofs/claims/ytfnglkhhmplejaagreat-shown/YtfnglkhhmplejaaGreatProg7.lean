/- Walks: the program: bytes are sent. -/
import Derived.Test.YtfnglkhhmplejaaGreatProg6
namespace Go.Proofs.YtfnglkhhmplejaaGreat
open Go Go.RowKit Go.Clk

section
variable (S0 : List Nat) (w0 : World) (x : List Nat) (b : Nat) (σ : St) (w : World)

set_option maxHeartbeats 1000000 in
set_option maxRecDepth 100000 in
theorem take_urg (h : AtP S0 w0 x b σ w) (n : Int) (hn : 0 ≤ n) (hl : σ.urg.length ≤ 2199023255552) :
    Calls Tryz.prog 73 #[.pointer (some ⟨b, 18, none⟩), .int .i64 n] w fun e w' => e = .returned (.string (str (σ.urg.take n.toNat))) ∧ AtP S0 w0 x b { σ with urg := σ.urg.drop n.toNat } w' := by
  obtain ⟨i0, hi, hz0, hz1, hz2⟩ := info_parts info_u8
  obtain ⟨vi, vu, vo, vs, hV⟩ := h
  obtain ⟨oo, hs, hob, _, hput⟩ := hV.lens_urg
  obtain ⟨a, cap, rfl, hl3, hl4⟩ := hs.shape
  have kq := hV.c_urg
  have fq := hV.frozen 18
  have HC : Hid (∀ m : Nat, m ≤ σ.urg.length → σ.urg.take m = σ.urg.take n.toNat → σ.urg.drop m = σ.urg.drop n.toNat → ∀ a2 cap2, Sl w 5 1 (.slice a2 (σ.urg.length - m) cap2) (σ.urg.length - m) ((bys σ.urg).drop m) oo →
      AtP S0 w0 x b { σ with urg := σ.urg.drop n.toNat } (w.setCell ⟨b, 18, none⟩ (.slice a2 (σ.urg.length - m) cap2))) := by
    intro m hm _ hd a2 cap2 h2
    have e1 : (σ.urg.drop n.toNat).length = σ.urg.length - m := by rw [← hd]; simp
    have e2 : bys (σ.urg.drop n.toNat) = (bys σ.urg).drop m := by rw [← hd]; simp [bys, List.map_drop]
    obtain ⟨_, _, h3⟩ := hput w (.slice a2 (σ.urg.length - m) cap2) (σ.urg.drop n.toNat) oo (grownBy_refl w oo) (by rw [e1, e2]; exact h2) (.inr (.inl rfl))
    exact h3.r
  clear hput
  have HT : ∀ m : Nat, (bys σ.urg).take m = bys (σ.urg.take m) := fun m => by simp [bys, List.map_take]
  by_cases hle : n ≤ σ.urg.length
  · go_enter Tryz.func73, Tryz.ntmps73
    go_wp2_with (refine wpList_front rfl (.tmp 14) (.tmp 15) 70 rfl i0 Tryz.underlying70 hi rfl hs n rfl hn hle ?_)
    intro hf
    go_wp2_with (first | refine wpList_string rfl (.tmp 16) 70 9 rfl Tryz.underlying70 Tryz.underlying5 Tryz.underlying9 rfl hf ?_ | refine wpList_cut rfl (.tmp 21) (.tmp 22) 70 rfl i0 Tryz.underlying70 hi hz1 rfl hs n rfl hn hle ?_)
    intro a2 cap2 h2
    have HE := HC.out n.toNat (by omega) rfl rfl a2 cap2 (by simpa using h2)
    clear HC h2 hf
    go_wp2
    go_ret
    exact ⟨rfl, HE⟩
  · have hle2 : ((σ.urg.length : Nat) : Int) ≤ n := by omega
    have hle3 : ((σ.urg.length : Nat) : Int) ≤ (σ.urg.length : Nat) := by omega
    have hz : (0 : Int) ≤ (σ.urg.length : Nat) := by omega
    go_enter Tryz.func73, Tryz.ntmps73
    go_wp2_with (first | refine wpList_front rfl (.tmp 14) (.tmp 15) 70 rfl i0 Tryz.underlying70 hi rfl hs (σ.urg.length : Nat) rfl (by omega) (by omega) ?_ | refine wpList_string rfl (.tmp 16) 70 9 rfl Tryz.underlying70 Tryz.underlying5 Tryz.underlying9 rfl hs ?_ | refine wpList_cut rfl (.tmp 21) (.tmp 22) 70 rfl i0 Tryz.underlying70 hi hz1 rfl hs (σ.urg.length : Nat) rfl (by omega) (by omega) ?_)
    intro a2 cap2 h2
    have HE := HC.out σ.urg.length (Nat.le_refl _) (by rw [List.take_of_length_le (Nat.le_refl _), List.take_of_length_le (by omega)]) (by rw [List.drop_eq_nil_of_le (Nat.le_refl _), List.drop_eq_nil_of_le (by omega)]) a2 cap2 (by simpa using h2)
    have HS : Hid (σ.urg.take n.toNat = σ.urg) := List.take_of_length_le (by omega)
    clear HC h2
    go_wp2
    go_ret
    rw [HS.out]
    exact ⟨rfl, by simpa using HE⟩

set_option maxHeartbeats 1000000 in
set_option maxRecDepth 100000 in
theorem take_out (h : AtP S0 w0 x b σ w) (n : Int) (hn : 0 ≤ n) (hl : σ.out.length ≤ 2199023255552) :
    Calls Tryz.prog 73 #[.pointer (some ⟨b, 19, none⟩), .int .i64 n] w fun e w' => e = .returned (.string (str (σ.out.take n.toNat))) ∧ AtP S0 w0 x b { σ with out := σ.out.drop n.toNat } w' := by
  obtain ⟨i0, hi, hz0, hz1, hz2⟩ := info_parts info_u8
  obtain ⟨vi, vu, vo, vs, hV⟩ := h
  obtain ⟨oo, hs, hob, _, hput⟩ := hV.lens_out
  obtain ⟨a, cap, rfl, hl3, hl4⟩ := hs.shape
  have kq := hV.c_out
  have fq := hV.frozen 19
  have HC : Hid (∀ m : Nat, m ≤ σ.out.length → σ.out.take m = σ.out.take n.toNat → σ.out.drop m = σ.out.drop n.toNat → ∀ a2 cap2, Sl w 5 1 (.slice a2 (σ.out.length - m) cap2) (σ.out.length - m) ((bys σ.out).drop m) oo →
      AtP S0 w0 x b { σ with out := σ.out.drop n.toNat } (w.setCell ⟨b, 19, none⟩ (.slice a2 (σ.out.length - m) cap2))) := by
    intro m hm _ hd a2 cap2 h2
    have e1 : (σ.out.drop n.toNat).length = σ.out.length - m := by rw [← hd]; simp
    have e2 : bys (σ.out.drop n.toNat) = (bys σ.out).drop m := by rw [← hd]; simp [bys, List.map_drop]
    obtain ⟨_, _, h3⟩ := hput w (.slice a2 (σ.out.length - m) cap2) (σ.out.drop n.toNat) oo (grownBy_refl w oo) (by rw [e1, e2]; exact h2) (.inr (.inl rfl))
    exact h3.r
  clear hput
  have HT : ∀ m : Nat, (bys σ.out).take m = bys (σ.out.take m) := fun m => by simp [bys, List.map_take]
  by_cases hle : n ≤ σ.out.length
  · go_enter Tryz.func73, Tryz.ntmps73
    go_wp2_with (refine wpList_front rfl (.tmp 14) (.tmp 15) 70 rfl i0 Tryz.underlying70 hi rfl hs n rfl hn hle ?_)
    intro hf
    go_wp2_with (first | refine wpList_string rfl (.tmp 16) 70 9 rfl Tryz.underlying70 Tryz.underlying5 Tryz.underlying9 rfl hf ?_ | refine wpList_cut rfl (.tmp 21) (.tmp 22) 70 rfl i0 Tryz.underlying70 hi hz1 rfl hs n rfl hn hle ?_)
    intro a2 cap2 h2
    have HE := HC.out n.toNat (by omega) rfl rfl a2 cap2 (by simpa using h2)
    clear HC h2 hf
    go_wp2
    go_ret
    exact ⟨rfl, HE⟩
  · have hle2 : ((σ.out.length : Nat) : Int) ≤ n := by omega
    have hle3 : ((σ.out.length : Nat) : Int) ≤ (σ.out.length : Nat) := by omega
    have hz : (0 : Int) ≤ (σ.out.length : Nat) := by omega
    go_enter Tryz.func73, Tryz.ntmps73
    go_wp2_with (first | refine wpList_front rfl (.tmp 14) (.tmp 15) 70 rfl i0 Tryz.underlying70 hi rfl hs (σ.out.length : Nat) rfl (by omega) (by omega) ?_ | refine wpList_string rfl (.tmp 16) 70 9 rfl Tryz.underlying70 Tryz.underlying5 Tryz.underlying9 rfl hs ?_ | refine wpList_cut rfl (.tmp 21) (.tmp 22) 70 rfl i0 Tryz.underlying70 hi hz1 rfl hs (σ.out.length : Nat) rfl (by omega) (by omega) ?_)
    intro a2 cap2 h2
    have HE := HC.out σ.out.length (Nat.le_refl _) (by rw [List.take_of_length_le (Nat.le_refl _), List.take_of_length_le (by omega)]) (by rw [List.drop_eq_nil_of_le (Nat.le_refl _), List.drop_eq_nil_of_le (by omega)]) a2 cap2 (by simpa using h2)
    have HS : Hid (σ.out.take n.toNat = σ.out) := List.take_of_length_le (by omega)
    clear HC h2
    go_wp2
    go_ret
    rw [HS.out]
    exact ⟨rfl, by simpa using HE⟩


theorem str_app (a b : List UInt8) : str a ++ str b = str (a ++ b) := by
  apply ByteArray.ext
  simp [str]
theorem str_size (a : List UInt8) : (str a).size = a.length := by simp [str, ByteArray.size]

set_option maxHeartbeats 1000000 in
set_option maxRecDepth 100000 in
theorem Send_any (h : AtP S0 w0 x b σ w) (n : Int) (hn : 0 ≤ n) (hn' : n ≤ 9223372036854775807) (hu : σ.urg.length ≤ 2199023255552) (ho : σ.out.length ≤ 256) :
    Calls Tryz.prog 47 #[.pointer (some ⟨b, 18, none⟩), .int .i64 n] w fun e w' => e = .returned (.string (str (σ.drain n.toNat).2)) ∧ AtP S0 w0 x b (σ.drain n.toNat).1 w' := by
  go_enter Tryz.func47, Tryz.ntmps47
  go_wp2_with fail
  refine (take_urg S0 w0 x b σ _ h n hn hu).mono ?_
  rintro e W ⟨rfl, hW⟩
  have k21 : W.cell? ⟨b, 21, none⟩ = some (.bool σ.stopped) := by obtain ⟨vi, vu, vo, vs, hV⟩ := hW; exact hV.c_stopped
  have hsz := str_size (σ.urg.take n.toNat)
  have hlen : (σ.urg.take n.toNat).length ≤ n.toNat := List.length_take_le _ _
  have hlen2 : (σ.urg.take n.toNat).length ≤ σ.urg.length := List.length_take_le' _ _
  have HU : Hid (σ.drain n.toNat = if σ.stopped then ({ σ with urg := σ.urg.drop n.toNat }, σ.urg.take n.toNat) else ({ σ with urg := σ.urg.drop n.toNat, out := σ.out.drop (n.toNat - (σ.urg.take n.toNat).length) }, σ.urg.take n.toNat ++ σ.out.take (n.toNat - (σ.urg.take n.toNat).length))) := rfl
  generalize σ.urg.take n.toNat = u at *
  clear h
  by_cases hst : σ.stopped = true
  · go_wp2
    go_ret
    rw [HU.out, if_pos hst]
    exact ⟨rfl, hW⟩
  · have hst : σ.stopped = false := by simpa using hst
    have hun : (u.length : Int) ≤ n := by omega
    go_wp2_with fail
    have HT : Hid ((n - (u.length : Int)).toNat = n.toNat - u.length) := by show (n - (u.length : Int)).toNat = _; omega
    refine (take_out S0 w0 x b _ _ hW _ (by omega) (by show σ.out.length ≤ _; omega)).mono ?_
    rintro e W2 ⟨rfl, hW2⟩
    rw [HT.out] at hW2 ⊢
    have hsz2 := str_size (σ.out.take (n.toNat - u.length))
    have hl2 : (σ.out.take (n.toNat - u.length)).length ≤ σ.out.length := List.length_take_le' _ _
    have HU2 : Hid (σ.drain n.toNat = ({ σ with urg := σ.urg.drop n.toNat, out := σ.out.drop (n.toNat - u.length) }, u ++ σ.out.take (n.toNat - u.length))) := by
      show σ.drain n.toNat = _
      rw [HU.out, hst]; rfl
    clear HU
    generalize σ.out.take (n.toNat - u.length) = o2 at *
    go_wp2
    go_ret
    rw [HU2.out, str_app]
    exact ⟨rfl, hW2⟩
set_option maxHeartbeats 1000000 in
set_option maxRecDepth 100000 in
theorem PDrain_no (h : AtP S0 w0 x b σ w) (n : Int) (hn : n < 0) :
    Calls Tryz.prog 27 #[.pointer (some ⟨b, 0, none⟩), .int .i64 n] w fun e w' => e = .returned (.tuple #[.string (str []), .int .i64 2]) ∧ AtP S0 w0 x b σ w' := by
  go_enter Tryz.func27, Tryz.ntmps27
  go_wp2
  go_ret2
  exact ⟨rfl, h⟩
set_option maxHeartbeats 1000000 in
set_option maxRecDepth 100000 in
theorem PDrain_any (h : AtP S0 w0 x b σ w) (n : Int) (hn : 0 ≤ n) (hn' : n ≤ 9223372036854775807) (hu : σ.urg.length ≤ 2199023255552) (ho : σ.out.length ≤ 256) :
    Calls Tryz.prog 27 #[.pointer (some ⟨b, 0, none⟩), .int .i64 n] w fun e w' => e = .returned (.tuple #[.string (str (σ.drain n.toNat).2), .int .i64 0]) ∧ AtP S0 w0 x b (σ.drain n.toNat).1 w' := by
  go_enter Tryz.func27, Tryz.ntmps27
  go_wp2_with (go_at_call 47; refine (Send_any S0 w0 x b σ _ h n hn hn' hu ho).mono ?_; rintro e W ⟨rfl, hW⟩)
  go_ret2
  exact ⟨rfl, hW⟩
end
end Go.Proofs.YtfnglkhhmplejaaGreat
