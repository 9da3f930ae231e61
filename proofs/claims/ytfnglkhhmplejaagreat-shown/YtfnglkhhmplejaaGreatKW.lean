/- Walks: what clackkeep's laws share. -/
import Derived.Test.YtfnglkhhmplejaaGreatProg44
import Derived.Test.YtfnglkhhmplejaaGreatKeep
namespace Go.Clk
open Go
theorem AtO.under {w w1 w' : World} {x : List Nat} {b : Nat} {e : TypeId} {cs : List Value} {fs : List Fld} (h : AtO [] w1 x b e cs fs w') (hk : Kp [] w w1) : AtO [] w x b e cs fs w' := by
  obtain ⟨os, h1, h2, h3, h4, h5⟩ := h
  refine ⟨os, h1, hk.trans h2 (fun k hk => by cases hk), ?_, ?_, h5⟩
  · rcases h3 with h | h
    · cases h
    · exact .inr (Nat.le_trans hk.size h)
  · intro k g hg
    rcases h4 k g hg with h | h
    · cases h
    · exact .inr (Nat.le_trans hk.size h)
end Go.Clk
namespace Go.Proofs.YtfnglkhhmplejaaGreat
open Go Go.RowKit Go.Clk
theorem AtT.under {w w1 w' : World} {x : List Nat} {b : Nat} {σ : St} (h : AtT [] w1 x b σ w') (hk : Kp [] w w1) : AtT [] w x b σ w' := by
  obtain ⟨ρ, hs, ⟨vi, vu, vo, vs, h⟩⟩ := h; exact ⟨ρ, hs, vi, vu, vo, vs, h.1, h.2.under hk⟩
section
variable (S0 : List Nat) (w0 : World) (x : List Nat) (b : Nat) (σ : St) (w : World) (K : Int)
set_option maxHeartbeats 1000000 in
theorem all_any (h : AtT S0 w0 x b σ w) (ok : Inv K σ) (hK : K ≤ 1099511627776) :
    Calls Tryz.prog 16 #[.pointer (some ⟨b, 0, none⟩)] w fun e w' => e = .returned (.string (str (σ.drain 1099511627776).2)) ∧ AtT S0 w0 x b (σ.drain 1099511627776).1 w' := by
  have hd := TDrain S0 w0 x b σ w K h ok hK 1099511627776 (by omega) (by omega)
  have e1 : (1099511627776 : Int).toNat = 1099511627776 := rfl
  rw [e1] at hd
  go_enter Tryz.func16, Tryz.ntmps16
  go_wp2_with (go_at_call 27; refine hd.mono ?_; rintro e W ⟨rfl, hW⟩)
  go_ret
  exact ⟨rfl, hW⟩
/-- What a read of n bytes has at once. -/
def fetched (σ : St) (n : Int) : Bool := (σ.read n).1.take.2.2.1 && (((σ.read n).2 == 0) && ((σ.read n).1.take.2.2.2 == 0))
set_option maxHeartbeats 1000000 in
theorem kfetch_any (h : AtT S0 w0 x b σ w) (ok : Inv K σ) (hK : K + 1 ≤ 1099511627776) (hw : Well σ) (n : Int) :
    Calls Tryz.prog 17 #[.pointer (some ⟨b, 0, none⟩), .int .i64 n] w fun e w' => e = .returned (.tuple #[.string (str (σ.read n).1.take.2.1), .bool (fetched σ n)]) ∧ AtT S0 w0 x b (σ.read n).1.take.1 w' := by
  have hr := TRead S0 w0 x b σ w K h ok (by omega) hw n
  have ok2 := ok.read n
  have HT : Hid (∀ W, AtT S0 w0 x b (σ.read n).1 W → Calls Tryz.prog 29 #[.pointer (some ⟨b, 0, none⟩)] W fun e w' => e = .returned (.tuple #[.string (str (σ.read n).1.take.2.1), .bool (σ.read n).1.take.2.2.1, .int .i64 (σ.read n).1.take.2.2.2]) ∧ AtT S0 w0 x b (σ.read n).1.take.1 w') := fun W hW => TTake S0 w0 x b _ W (K + 1) hW ok2
  have HF : Hid (fetched σ n = ((σ.read n).1.take.2.2.1 && (((σ.read n).2 == 0) && ((σ.read n).1.take.2.2.2 == 0)))) := rfl
  generalize (σ.read n).1.take = tk at *
  obtain ⟨τ, d, q, f⟩ := tk
  generalize (σ.read n).2 = e0 at *
  dsimp only at HT HF ⊢
  clear ok ok2 hw
  cases q with
  | false =>
    go_enter Tryz.func17, Tryz.ntmps17
    go_wp2_with (first | (go_at_call 28; refine hr.mono ?_; rintro e W ⟨rfl, hW⟩) | (go_at_call 29; refine (HT.out _ hW).mono ?_; rintro e W2 ⟨rfl, hW2⟩))
    go_ret2
    rw [HF.out]
    exact ⟨rfl, hW2⟩
  | true =>
    cases he : (e0 == 0) with
    | false =>
      go_enter Tryz.func17, Tryz.ntmps17
      go_wp2_with (first | (go_at_call 28; refine hr.mono ?_; rintro e W ⟨rfl, hW⟩) | (go_at_call 29; refine (HT.out _ hW).mono ?_; rintro e W2 ⟨rfl, hW2⟩))
      go_ret2
      rw [HF.out, he]
      exact ⟨rfl, hW2⟩
    | true =>
      go_enter Tryz.func17, Tryz.ntmps17
      go_wp2_with (first | (go_at_call 28; refine hr.mono ?_; rintro e W ⟨rfl, hW⟩) | (go_at_call 29; refine (HT.out _ hW).mono ?_; rintro e W2 ⟨rfl, hW2⟩))
      go_ret2
      rw [HF.out, he]
      exact ⟨rfl, hW2⟩
set_option maxHeartbeats 1000000 in
theorem kchange_any (h : AtT S0 w0 x b σ w) (ok : Inv K σ) (hK : K ≤ 1099511627776) (hw : Well σ) (s : List Int) (hs : s.length = 17) :
    Calls Tryz.prog 12 #[.pointer (some ⟨b, 0, none⟩), .agg (i64s s).toArray] w fun e w' => e = .returned (.bool true) ∧ AtT S0 w0 x b (σ.change s).look w' := by
  have e0 : σ.set s 0 = ((σ.change s).look, 0) := by unfold St.set; rw [if_neg (by omega), if_neg (by omega), if_neg (by omega)]
  have HS : Hid (∀ W, AtT S0 w0 x b σ W → Calls Tryz.prog 30 #[.pointer (some ⟨b, 0, none⟩), .agg (i64s s).toArray, .int .i64 0] W fun e w' => e = .returned (.int .i64 0) ∧ AtT S0 w0 x b (σ.change s).look w') := fun W hW => by
    have := TSet S0 w0 x b σ W K hW ok hK hw s hs 0
    rw [e0] at this; exact this
  have hsl : (i64s s).length = 17 := by rw [i64s_len, hs]
  clear e0
  go_enter Tryz.func12, Tryz.ntmps12
  go_wp2_with (refine wpList_box rfl (.tmp 1) 29 rfl (i64s s) rfl ?_)
  intro W B hid
  have hB : AtT S0 w0 x b σ W := by obtain ⟨rfl, rfl⟩ := hid.out; exact h.same ⟨rfl, rfl, rfl, by simp, fun k hk _ => Below.heap_alloc w _ k hk⟩
  have HB : Hid (Blk W B 29 (i64s s)) := by obtain ⟨rfl, rfl⟩ := hid.out; exact Blk.new w _ _
  clear hid
  go_wp2_with (first
    | (refine wpList_load_part rfl (.tmp 3) 29 rfl B 0 rfl (i64s s) _ (fun j v hv => by rw [Nat.zero_add]; exact HB.out.cell j hv) Tryz.underlying29 rfl (by rw [hsl]; exact size_settings2) ?_)
    | (go_at_call 30; refine (HS.out _ hB).mono ?_; rintro e W2 ⟨rfl, hW2⟩))
  go_ret
  exact ⟨rfl, hW2⟩
end
set_option maxHeartbeats 2000000 in
set_option maxRecDepth 100000 in
theorem begin_any (w : World) : Calls Tryz.prog 10 #[] w fun e w' => ∃ b, e = .returned (.pointer (some ⟨b, 0, none⟩)) ∧ AtT [] w [] b newS w' := by
  have r1 : (newS.receive 0 [97, 98, 127, 99, 13]).2 = 0 := by kernel_rfl
  obtain ⟨σ1, hσ1⟩ : ∃ σ1, (newS.receive 0 [97, 98, 127, 99, 13]).1 = σ1 := ⟨_, rfl⟩
  have d1 : (σ1.drain 99).2 = [97, 98, 8, 32, 8, 99, 13, 10] := by rw [← hσ1]; kernel_rfl
  obtain ⟨σ2, hσ2⟩ : ∃ σ2, (σ1.drain 99).1 = σ2 := ⟨_, rfl⟩
  have r2 : (σ2.read 9).2 = 0 := by rw [← hσ2, ← hσ1]; kernel_rfl
  obtain ⟨σ3, hσ3⟩ : ∃ σ3, (σ2.read 9).1 = σ3 := ⟨_, rfl⟩
  have t1 : σ3.take.2 = ([97, 99, 10], true, 0) := by rw [← hσ3, ← hσ2, ← hσ1]; kernel_rfl
  have o1 : Inv (2049 * 6) σ1 := by rw [← hσ1]; have := Inv.new.receive 0 [97, 98, 127, 99, 13]; exact this.mono (by simp)
  have o2 : Inv (2049 * 6 + 2048) σ2 := by rw [← hσ2]; exact o1.drain 99
  have o3 : Inv (2049 * 6 + 2048 + 1) σ3 := by rw [← hσ3]; exact o2.read 9
  have w1 : Well σ1 := by rw [← hσ1]; exact (from_receive _ _ _).well Well.new
  have w2 : Well σ2 := by rw [← hσ2]; exact (from_drain _ _).well w1
  have HR : Hid (∀ b W, AtT [] w [] b newS W → Calls Tryz.prog 13 #[.pointer (some ⟨b, 0, none⟩), .int .i64 0, .string ⟨#[97, 98, 127, 99, 13]⟩] W fun e w' => e = .returned (.int .i64 0) ∧ AtT [] w [] b σ1 w') := fun b W hW => by
    have := TReceive [] w [] b newS W 0 hW Inv.new Well.new 0 ⟨#[97, 98, 127, 99, 13]⟩ (by simp [maxLen, ByteArray.size]) (by simp [ByteArray.size])
    rw [show (⟨#[97, 98, 127, 99, 13]⟩ : ByteArray).data.toList = [97, 98, 127, 99, 13] from rfl, r1, hσ1] at this
    exact this
  have HD : Hid (∀ b W, AtT [] w [] b σ1 W → Calls Tryz.prog 27 #[.pointer (some ⟨b, 0, none⟩), .int .i64 99] W fun e w' => e = .returned (.tuple #[.string ⟨#[97, 98, 8, 32, 8, 99, 13, 10]⟩, .int .i64 0]) ∧ AtT [] w [] b σ2 w') := fun b W hW => by
    have := TDrain [] w [] b σ1 W _ hW o1 (by omega) 99 (by omega) (by omega)
    rw [show (99 : Int).toNat = 99 from rfl, d1, hσ2] at this
    exact this
  have HRd : Hid (∀ b W, AtT [] w [] b σ2 W → Calls Tryz.prog 28 #[.pointer (some ⟨b, 0, none⟩), .int .i64 9] W fun e w' => e = .returned (.int .i64 0) ∧ AtT [] w [] b σ3 w') := fun b W hW => by
    have := TRead [] w [] b σ2 W _ hW o2 (by omega) w2 9
    rw [r2, hσ3] at this
    exact this
  have HT : Hid (∀ b W, AtT [] w [] b σ3 W → Calls Tryz.prog 29 #[.pointer (some ⟨b, 0, none⟩)] W fun e w' => e = .returned (.tuple #[.string ⟨#[97, 99, 10]⟩, .bool true, .int .i64 0]) ∧ Kp [] w w') := fun b W hW => by
    have := TTake [] w [] b σ3 W _ hW o3
    rw [t1] at this
    exact this.mono fun e w' ⟨h1, h2⟩ => ⟨h1, h2.kp⟩
  have HN : Hid (∀ W, Calls Tryz.prog 26 #[] W fun e w' => ∃ b, e = .returned (.pointer (some ⟨b, 0, none⟩)) ∧ AtT [] W [] b newS w') := fun W => TNew W
  clear r1 d1 r2 t1 o1 o2 o3 w1 w2 hσ1 hσ2 hσ3
  go_enter Tryz.func10, Tryz.ntmps10
  go_wp2_with (first
    | (go_at_call 26; refine (HN.out w).mono ?_; rintro e W1 ⟨b1, rfl, hW1⟩)
    | (go_at_call 13; refine (HR.out _ _ hW1).mono ?_; rintro e W2 ⟨rfl, hW2⟩)
    | (go_at_call 27; refine (HD.out _ _ hW2).mono ?_; rintro e W3 ⟨rfl, hW3⟩)
    | (go_at_call 28; refine (HRd.out _ _ hW3).mono ?_; rintro e W4 ⟨rfl, hW4⟩)
    | (go_at_call 29; refine (HT.out _ _ hW4).mono ?_; clear HN; rintro e W5 ⟨rfl, hW5⟩))
  refine (TNew W5).mono ?_
  rintro e W6 ⟨b2, rfl, hW6⟩
  go_wp2
  go_ret
  exact ⟨b2, rfl, hW6.under hW5⟩
end Go.Proofs.YtfnglkhhmplejaaGreat
namespace Go.Clk
open Go
/-- What lies in x stays as it was. -/
def Kq (x : List Nat) (w w' : World) : Prop := ∃ S, Kp S w w' ∧ ∀ g, g ∈ x → g ∉ S
section
variable {x : List Nat} {w w' : World}
theorem Kq.blk (h : Kq x w w') {g : Nat} {e : TypeId} {cs : List Value} (hb : Blk w g e cs) (hg : g ∈ x) : Blk w' g e cs := by
  obtain ⟨S, h1, h2⟩ := h; exact h1.blk hb (h2 g hg)
theorem Kq.sl (h : Kq x w w') {e : TypeId} {size n : Nat} {v : Value} {xs : List Value} {o : Option Nat} (hs : Sl w e size v n xs o) (hg : ∀ g, o = some g → g ∈ x) : Sl w' e size v n xs o := by
  obtain ⟨S, h1, h2⟩ := h; exact hs.kp h1 fun g e => h2 g (hg g e)
theorem Kq.size (h : Kq x w w') : w.heap.size ≤ w'.heap.size := by obtain ⟨S, h1, _⟩ := h; exact h1.size
theorem Kq.trans {w'' : World} (h : Kq x w w') (k : Kq x w' w'') : Kq x w w'' := by
  obtain ⟨S, h1, h2⟩ := h
  obtain ⟨T, k1, k2⟩ := k
  refine ⟨S ++ T, (h1.mono fun k hk => List.mem_append_left _ hk).trans k1 fun z hz => .inl (List.mem_append_right _ hz), fun g hg hc => ?_⟩
  rcases List.mem_append.1 hc with q | q
  · exact h2 g hg q
  · exact k2 g hg q
end
end Go.Clk
namespace Go.Proofs.YtfnglkhhmplejaaGreat
open Go Go.RowKit Go.Clk
theorem AtT.calls {S0 : List Nat} {w0 w : World} {x : List Nat} {b : Nat} {σ σ' : St} {f : Nat} {args : Array Value} {r : Ending} (h : AtT S0 w0 x b σ w)
    (H : ∀ S u, AtT S u x b σ w → Calls Tryz.prog f args w fun e w' => e = r ∧ AtT S u x b σ' w') : Calls Tryz.prog f args w fun e w' => e = r ∧ AtT S0 w0 x b σ' w' ∧ Kq x w w' := by
  obtain ⟨S, h1, h2, h3, h4, h5⟩ := h.rebase
  exact (H S w h1).mono fun e w' ⟨q1, q2⟩ => ⟨q1, h5 _ _ q2, S, q2.kp, h3⟩
/-- A box that was laid and then filled. -/
theorem AtT.filled {w0 w W : World} {x : List Nat} {b : Nat} {σ : St} (h : AtT [] w0 x b σ w) (o : Obj) (hg : (w.alloc o).grownBy W (some w.heap.size)) : AtT [] w0 (w.heap.size :: x) b σ W ∧ Kq x w W := by
  refine ⟨(h.boxed o).grown hg fun g e => by cases e; exact ⟨by simp, h.kp.size⟩, [], ?_, fun _ _ => by simp⟩
  have h1 : Kp [] w (w.alloc o) := (Kp.refl [] w).alloc o
  exact h1.grown hg fun k e => by cases e; exact .inr (Nat.le_refl _)
/-- Strings that came in. -/
def Strs (w : World) (sa : Option Addr) (l : List ByteArray) : Prop := ∀ i s, l[i]? = some s → s.size ≤ 140737488355328 ∧ ∃ g off, sa = some ⟨g, off, none⟩ ∧ g < w.heap.size ∧ w.cell? ⟨g, off + i, none⟩ = some (.string s)
/-- Numbers that came in. -/
def Ints (w : World) (sa : Option Addr) (l : List Int) : Prop := ∀ i v, l[i]? = some v → (-9223372036854775808 ≤ v ∧ v ≤ 9223372036854775807) ∧ ∃ g off, sa = some ⟨g, off, none⟩ ∧ g < w.heap.size ∧ w.cell? ⟨g, off + i, none⟩ = some (.int .i64 v)
theorem Ints.kp {w W : World} {sa : Option Addr} {l : List Int} (h : Ints w sa l) (hk : Kp [] w W) : Ints W sa l := fun i v hv => by
  obtain ⟨h1, g, off, h2, h3, h4⟩ := h i v hv
  exact ⟨h1, g, off, h2, Nat.lt_of_lt_of_le h3 hk.size, (hk.cell (a := ⟨g, off + i, none⟩) h3 (by simp)).trans h4⟩
abbrev zero17 : List Value := [.int .i64 0, .int .i64 0, .int .i64 0, .int .i64 0, .int .i64 0, .int .i64 0, .int .i64 0, .int .i64 0, .int .i64 0, .int .i64 0, .int .i64 0, .int .i64 0, .int .i64 0, .int .i64 0, .int .i64 0, .int .i64 0, .int .i64 0]
abbrev zero6 : List Value := [.int .i64 0, .int .i64 0, .int .i64 0, .bool false, .bool false, .bool false]
def statusL (σ : St) : List Value := [.int .i64 (σ.inq.length : Nat), .int .i64 (σ.out.length : Nat), .int .i64 σ.col, .bool σ.stopped, .bool σ.held, .bool σ.quoted]
theorem statusL_one (σ : St) : ∀ u ∈ statusL σ, u.oneCell' = true := by
  intro u hu
  simp [statusL] at hu
  rcases hu with rfl | rfl | rfl | rfl | rfl | rfl <;> rfl
theorem statusL_val (σ : St) : statusV σ = .agg (statusL σ).toArray := rfl
abbrev stL (n o : Nat) (c : Int) (s h q : Bool) : List Value := [.int .i64 n, .int .i64 o, .int .i64 c, .bool s, .bool h, .bool q]
theorem stL_one (n o : Nat) (c : Int) (s h q : Bool) : ∀ u ∈ stL n o c s h q, u.oneCell' = true := by
  intro u hu
  simp at hu
  rcases hu with rfl | rfl | rfl | rfl | rfl | rfl <;> rfl
theorem AtT.drewN {S0 : List Nat} {w0 w : World} {x : List Nat} {b : Nat} {σ : St} (h : AtT S0 w0 x b σ w) (n : Nat) : AtT S0 w0 x b σ (w.drewN n) := by
  obtain ⟨ρ, hs, ⟨vi, vu, vo, vs, h⟩⟩ := h; exact ⟨ρ, hs, (h.drewN n).r⟩
theorem TStatus_l (w : World) (b : Nat) (σ : St) (n : Nat) (hb : Bool) (hn : σ.inq.length = n) (hh : σ.held = hb) : ∃ o c s q, Hid (∀ W x, AtT [] w x b σ W → Calls Tryz.prog 20 #[.pointer (some ⟨b, 0, none⟩)] W fun e w' => e = .returned (.agg (stL n o c s hb q).toArray) ∧ AtT [] w x b σ w' ∧ Kq x W w') := by
  refine ⟨σ.out.length, σ.col, σ.stopped, σ.quoted, fun W x hW => hW.calls fun S u h => ?_⟩
  subst hn hh
  exact TStatus S u x b σ W h
theorem below_of {w W : World} {x : List Nat} {b : Nat} {σ : St} (h : AtT [] w x b σ W) : Below w.heap.size w W := ⟨h.kp.os, h.kp.tape, h.kp.output, h.kp.size, fun q hq => h.kp.block q hq (by simp)⟩
end Go.Proofs.YtfnglkhhmplejaaGreat
