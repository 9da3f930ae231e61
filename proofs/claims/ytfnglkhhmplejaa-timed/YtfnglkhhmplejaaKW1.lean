/- Walks: clackkeep.Timed. -/
import Derived.Test.YtfnglkhhmplejaaKW
import Derived.Deep.DeepCutAuto
import Derived.Deep.CutBlock
namespace Go.Clk
open Go
theorem raw_begin (m t : Int) (hm : 0 ≤ m ∧ m < 256) (ht : 0 ≤ t ∧ t < 256) : Raw 0 m t [] (newS.change (rawSet 0 m t)).look ∧ (newS.change (rawSet 0 m t)).look.held = false ∧ (newS.change (rawSet 0 m t)).look.urg = [] ∧ (newS.change (rawSet 0 m t)).look.reads = false := by
  have hn : normS (rawSet 0 m t) = rawSet 0 m t := by
    unfold normS rawSet
    simp only [List.range, List.range.loop, List.map, gt, lim]
    simp
    omega
  have e1 : newS.change (rawSet 0 m t) = { newS with ss := rawSet 0 m t, inq := [], quoted := false } := by
    unfold St.change
    rw [hn]
    have : (if newS.L 2 = bit (gt (rawSet 0 m t) 2 % 1024) 2 then newS.inq else St.forget newS.inq) = [] := by split <;> rfl
    rw [this]
    rfl
  have e2 : ({ newS with ss := rawSet 0 m t, inq := [], quoted := false } : St).look = { newS with ss := rawSet 0 m t, inq := [], quoted := false } := by
    unfold St.look St.ends St.hold
    simp [newS]
  rw [e1, e2]
  exact ⟨⟨rfl, by decide, by decide, by decide, by decide, by decide, by decide, by decide, by decide, Typing.nil, rfl, rfl, rfl⟩, rfl, rfl, rfl⟩
/-- Raw, and nobody reads. -/
structure Rw (m t : Int) (a : Nat) (σ : St) : Prop where
  raw : ∃ p : List UInt8, p.length = a ∧ Raw 0 m t p σ
  held : σ.held = false
  urg : σ.urg = []
  reads : σ.reads = false
theorem Rw.byte {m t : Int} {a : Nat} {σ : St} (h : Rw m t a σ) (c : UInt8) (ha : a < 256) : Rw m t (a + 1) (σ.good c).look := by
  obtain ⟨p, hp, hr⟩ := h.raw
  rw [hr.good c, if_pos (by omega)]
  have e : ({ σ with inq := σ.inq ++ [⟨c, false, false, 0⟩], wait := 0 } : St).look = { σ with inq := σ.inq ++ [⟨c, false, false, 0⟩], wait := 0 } := by
    unfold St.look
    have e1 : ({ σ with inq := σ.inq ++ [⟨c, false, false, 0⟩], wait := 0 } : St).ends = { σ with inq := σ.inq ++ [⟨c, false, false, 0⟩], wait := 0 } := by
      unfold St.ends; rw [show ({ σ with inq := σ.inq ++ [⟨c, false, false, 0⟩], wait := 0 } : St).reads = false from h.reads]; rfl
    rw [e1]
    unfold St.hold
    have : ({ σ with inq := σ.inq ++ [⟨c, false, false, 0⟩], wait := 0 } : St).I 2048 = false := by show σ.I 2048 = false; rw [hr.I_]; decide
    rw [this]
    simp [h.held]
  rw [e]
  exact ⟨⟨p ++ [c], by simp [hp], hr.more c⟩, h.held, h.urg, h.reads⟩
theorem over_less {m t : Int} {k a : Nat} {w : Int} (hm : 0 ≤ m ∧ m < 256) (ho : over m t k a w = false) : a < 256 := by
  unfold over at ho
  split at ho
  · split at ho
    · cases ho
    · simp at ho; omega
  · simp at ho; omega
theorem over_cap {m t : Int} (k a : Nat) (w : Int) (ht : t < 256) : over m t k a (min w 255) = over m t k a w := by
  have : (t ≤ min w 255) = (t ≤ w) := by rw [eq_iff_iff]; omega
  unfold over
  simp only [this]
theorem Ti.ends {m t : Int} {k a : Nat} {w : Int} {σ : St} (h : Ti m t k a w σ) : σ.look = σ.ends := by
  obtain ⟨p, hp, hr⟩ := h.raw
  have h1 : σ.ends.I 2048 = false := by
    have : σ.ends.I 2048 = σ.I 2048 := by unfold St.ends; split <;> rfl
    rw [this, hr.I_]; decide
  have h2 : σ.ends.held = false := by
    have : σ.ends.held = σ.held := by unfold St.ends; split <;> rfl
    rw [this, h.held]
  show σ.ends.hold = σ.ends
  generalize σ.ends = τ at *
  unfold St.hold
  rw [h1, h2]; rfl
/-- What has waited longer than any Time can ask stands as one that has waited 255. -/
theorem Ti.cap {m t : Int} {k a : Nat} {w : Int} {σ : St} (h : Ti m t k a w σ) (ht : t < 256) : Ti m t k a (min w 255) { σ with wait := min w 255 } ∧ ({ σ with wait := min w 255 } : St).look = { σ.look with wait := min σ.look.wait 255 } ∧ σ.look.reads = true ∧ σ.look.wait = w := by
  have h1 : Ti m t k a (min w 255) { σ with wait := min w 255 } := by
    obtain ⟨p, hp, hr⟩ := h.raw
    exact ⟨⟨p, hp, hr.turn rfl rfl rfl rfl rfl⟩, h.held, h.urg, h.reads, h.ended, h.n, rfl⟩
  have e1 := h1.ready
  rw [over_cap k a w ht, ← h.ready] at e1
  refine ⟨h1, ?_, ?_, ?_⟩
  · rw [h1.ends, h.ends]
    unfold St.ends
    rw [e1]
    dsimp only
    split
    · simp only [h.wait]
    · simp only [h.wait]
  · rw [h.ends]; unfold St.ends; split <;> exact h.reads
  · rw [h.ends]; unfold St.ends; split <;> exact h.wait
theorem Sim.cap {ρ σ : St} (h : Sim ρ σ) (hr : σ.reads = true) (h0 : 0 ≤ σ.wait) : Sim ρ { σ with wait := min σ.wait 255 } := by
  obtain ⟨r, e, k, d, g, rfl, hg, hd, hk, he, h3, h4⟩ := h
  refine ⟨r, e, k, d, g, ?_, hg, hd, hk, he, h3, h4⟩
  unfold St.ph
  dsimp only
  rw [(h4 hr).2 _ h0, (h4 hr).2 (min σ.wait 255) (by omega), show min (min σ.wait 255) 255 = min σ.wait 255 by omega]
theorem Inv.capped {K w : Int} {σ : St} (h : Inv K σ) (hK : 255 ≤ K) (h0 : 0 ≤ w) (h1 : w ≤ 255) : Inv K { σ with wait := w } :=
  ⟨h.s, h.c0, h.c1, h.out, h.inq, h.cells, h.urg, h.noted, h.data, h.n0, h.n1, h0, by dsimp only; omega⟩
end Go.Clk
namespace Go.Proofs.Ytfnglkhhmplejaa
open Go Go.RowKit Go.Clk
theorem AtT.cap {S0 : List Nat} {w0 w : World} {x : List Nat} {b : Nat} {σ : St} (h : AtT S0 w0 x b σ w) (hr : σ.reads = true) (h0 : 0 ≤ σ.wait) : AtT S0 w0 x b { σ with wait := min σ.wait 255 } w := by
  obtain ⟨ρ, hs, h⟩ := h; exact ⟨ρ, hs.cap hr h0, h⟩

theorem raw_cells (m t : Int) : ((((i64s newS.ss).set 2 (.int .i64 0)).set 0 (.int .i64 0)).set 15 (.int .i64 m)).set 16 (.int .i64 t) = i64s (rawSet 0 m t) := by
  simp [i64s, newS, firstS, rawSet]

set_option maxHeartbeats 1000000 in
set_option maxRecDepth 100000 in
theorem timed_walk (w : World) (ahead n least time : Int) (r1 : -9223372036854775808 ≤ ahead ∧ ahead ≤ 9223372036854775807) (r2 : -9223372036854775808 ≤ n ∧ n ≤ 9223372036854775807) (sa : Option Addr) (cap : Nat) (ev : List Int) (hE : Ints w sa ev) (hl : ev.length ≤ 17592186044416) :
    Calls Try.prog 4 #[.int .i64 ahead, .int .i64 n, .int .i64 least, .int .i64 time, .slice sa ev.length cap] w fun e w' => e = .returned (.bool true) ∧ Below w.heap.size w w' := by
  have m8l := mask8 least
  have m8t := mask8 time
  obtain ⟨m, hm⟩ : ∃ m, least % 256 = m := ⟨_, rfl⟩
  obtain ⟨t, ht⟩ : ∃ t, time % 256 = t := ⟨_, rfl⟩
  have m0 : 0 ≤ m ∧ m < 256 := by omega
  have t0 : 0 ≤ t ∧ t < 256 := by omega
  rw [hm] at m8l
  rw [ht] at m8t
  clear hm ht
  have p1 := pickN_lt ahead 20 (by omega)
  have p2 := pickN_lt n 256 (by omega)
  have hp1 := fun W => kpick_any ahead 20 W (by omega) (by omega) r1.1 r1.2
  have hp2 := fun W => kpick_any n 256 W (by omega) (by omega) r2.1 r2.2
  obtain ⟨a0, ha0⟩ : ∃ a0 : Nat, pickN ahead 20 = (a0 : Int) := ⟨(pickN ahead 20).toNat, by omega⟩
  obtain ⟨k0, hk0⟩ : ∃ k0 : Nat, pickN n 256 = (k0 : Int) := ⟨(pickN n 256).toNat, by omega⟩
  rw [ha0] at hp1 p1
  rw [hk0] at hp2 p2
  clear ha0 hk0
  have HB := begin_any w
  obtain ⟨hraw, hh0, hu0, hr0⟩ := raw_begin m t m0 t0
  have HRw : Hid (Rw m t 0 (newS.change (rawSet 0 m t)).look) := ⟨⟨[], rfl, hraw⟩, hh0, hu0, hr0⟩
  have HI0 : Hid (Inv 1 (newS.change (rawSet 0 m t)).look) := (Inv.new.change _).look
  have HW0 : Hid (Well (newS.change (rawSet 0 m t)).look) := (from_look _).well (Well.new.change _)
  clear hraw hh0 hu0 hr0
  have HC : Hid (∀ b W x, AtT [] w x b newS W → Calls Try.prog 11 #[.pointer (some ⟨b, 0, none⟩), .agg (i64s (rawSet 0 m t)).toArray] W fun e w' => e = .returned (.bool true) ∧ AtT [] w x b (newS.change (rawSet 0 m t)).look w') := fun b W x hW => kchange_any [] w x b newS W 0 hW Inv.new (by omega) Well.new (rawSet 0 m t) rfl
  generalize (newS.change (rawSet 0 m t)).look = σ0 at *
  go_enter Try.func4, Try.ntmps4
  go_wp2_with (first
    | (go_at_call 9; refine HB.mono ?_; clear HB; rintro e W1 ⟨b, rfl, hW1⟩)
    | (go_at_call 10; refine (TGet [] w [] b newS _ hW1).mono ?_; rintro e W2 ⟨rfl, hW2⟩)
    | (refine wpList_store_whole rfl (.tmp 12) (.tmp 31) 26 rfl W2.heap.size rfl (i64s newS.ss) rfl 26 zero17 (Blk.new W2 _ _) rfl rfl (i64s_one _) ?_))
  intro W hbk hgW hsz
  obtain ⟨B, hB⟩ : ∃ B, W2.heap.size = B := ⟨_, rfl⟩
  have hW3 : AtT [] w [B] b newS W := by
    have := (hW2.boxed (.cells zero17.toArray 26)).grown hgW fun g e => by cases e; exact ⟨by simp, hW2.kp.size⟩
    rw [hB] at this; exact this
  have hBw : w.heap.size ≤ B := by rw [← hB]; exact hW2.kp.size
  rw [hB] at hbk ⊢
  have c0 := hbk.cell 0 rfl
  have c2 := hbk.cell 2 rfl
  have c15 := hbk.cell 15 rfl
  have c16 := hbk.cell 16 rfl
  have f0 := hbk.frozen 0
  have f2 := hbk.frozen 2
  have f15 := hbk.frozen 15
  have f16 := hbk.frozen 16
  have HBk : Hid (Blk ((((W.setCell ⟨B, 2, none⟩ (.int .i64 0)).setCell ⟨B, 0, none⟩ (.int .i64 0)).setCell ⟨B, 15, none⟩ (.int .i64 m)).setCell ⟨B, 16, none⟩ (.int .i64 t)) B 26 (i64s (rawSet 0 m t))) := by
    have h5 := (((hbk.set 2 (.int .i64 0)).set 0 (.int .i64 0)).set 15 (.int .i64 m)).set 16 (.int .i64 t)
    rw [raw_cells m t] at h5
    exact h5
  have hW4 := (((hW3.poke (g := B) (by simp) hBw 2 (.int .i64 0)).poke (g := B) (by simp) hBw 0 (.int .i64 0)).poke (g := B) (by simp) hBw 15 (.int .i64 m)).poke (g := B) (by simp) hBw 16 (.int .i64 t)
  have hsl : (i64s (rawSet 0 m t)).length = 17 := rfl
  obtain ⟨W3, hW3e⟩ : ∃ W3, (((W.setCell ⟨B, 2, none⟩ (.int .i64 0)).setCell ⟨B, 0, none⟩ (.int .i64 0)).setCell ⟨B, 15, none⟩ (.int .i64 m)).setCell ⟨B, 16, none⟩ (.int .i64 t) = W3 := ⟨_, rfl⟩
  rw [hW3e] at HBk hW4
  clear hgW hsz hB hW2 hbk hW1 hW3
  go_wp2_with (refine wpList_load_part rfl (.tmp 12) 26 rfl B 0 rfl (i64s (rawSet 0 m t)) _ (fun j v hv => by rw [Nat.zero_add]; exact HBk.out.cell j hv) Try.underlying26 rfl (by rw [hsl]; exact size_settings2) ?_)
  refine (HC.out b _ [B] hW4).mono ?_
  clear hW4 HC c0 c2 c15 c16 f0 f2 f15 f16 HBk hW3e hsl
  rintro e W5 ⟨rfl, hW5⟩
  go_wp2_with (go_at_call 19; refine (hp1 _).mono ?_; clear hp1; rintro e w' ⟨rfl, hw⟩; subst hw)
  go_loopg [15] a0 (fun k iv wr => ∃ (i : Nat) (σ : St), i + k = a0 ∧ iv = .int .i64 i ∧ AtT [] w [B] b σ wr ∧ Hid (Rw m t i σ) ∧ Hid (Inv (1 + 4098 * i) σ) ∧ Hid (Well σ))
  case atStart => exact ⟨0, σ0, by omega, rfl, hW5, HRw, HI0, HW0⟩
  case round =>
    clear hW5
    obtain ⟨i, σ, hi, rfl, hR, hrw, okσ, hwσ⟩ := hrel
    by_cases hlt : i < a0
    · have hlt' : (i : Int) < (a0 : Int) := by omega
      have hrc := TReceive [] w [B] b σ wr (1 + 4098 * i) hR okσ.out hwσ.out 0 ⟨#[120]⟩ (by simp [maxLen, ByteArray.size]) (by simp [ByteArray.size]; omega)
      have e1 : σ.receive 0 (⟨#[120]⟩ : ByteArray).data.toList = ((σ.good 120).look, 0) := rfl
      rw [e1] at hrc
      have HRw2 : Hid (Rw m t (i + 1) (σ.good 120).look) := hrw.out.byte 120 (by omega)
      have HI2 : Hid (Inv (1 + 4098 * ((i + 1 : Nat) : Int)) (σ.good 120).look) := by
        have h1 := okσ.out.receive 0 [120]
        rw [show σ.receive 0 [120] = ((σ.good 120).look, 0) from rfl] at h1
        exact h1.mono (by simp; omega)
      have HW2 : Hid (Well (σ.good 120).look) := ((from_good σ 120).trans (from_look _)).well hwσ.out
      generalize (σ.good 120).look = τ at *
      clear hrw okσ hwσ e1 hR
      go_wp2_with (go_at_call 13; refine hrc.mono ?_; rintro e W6 ⟨rfl, hW6⟩)
      go_roundg (gk - 1)
      case measure => omega
      case rel => exact ⟨i + 1, τ, by omega, by go_num, hW6, HRw2, HI2, HW2⟩
    · obtain rfl : i = a0 := by omega
      have hlt' : ¬ (i : Int) < (i : Int) := by omega
      have hrd := TRead [] w [B] b σ wr (1 + 4098 * i) hR okσ.out (by omega) hwσ.out (1 + (k0 : Int))
      have e1 : σ.read (1 + (k0 : Int)) = (({ σ with reads := true, ended := false, n := 1 + (k0 : Int), wait := 0 } : St).look, 0) := by
        unfold St.read; rw [if_neg (by omega), if_neg (by rw [hrw.out.reads]; decide)]
      rw [e1] at hrd
      obtain ⟨p, hp, hraw⟩ := hrw.out.raw
      obtain ⟨k, hk⟩ : ∃ k : Nat, k = 1 + k0 := ⟨_, rfl⟩
      have hki : 1 + (k0 : Int) = (k : Int) := by omega
      have HTi : Hid (Ti m t k i (min 0 255) { σ with reads := true, ended := false, n := 1 + (k0 : Int), wait := 0 }) := by rw [hki, show min (0 : Int) 255 = 0 from rfl]; exact Ti.begin hraw hp hrw.out.held hrw.out.urg
      have HI2 : Hid (Inv (90000 + 4100 * (i : Int)) ({ σ with reads := true, ended := false, n := 1 + (k0 : Int), wait := 0 } : St).look) := by
        have h1 := okσ.out.read (1 + (k0 : Int))
        rw [e1] at h1
        exact h1.mono (by omega)
      have HW2 : Hid (Well ({ σ with reads := true, ended := false, n := 1 + (k0 : Int), wait := 0 } : St).look) := by
        have h1 := (from_read σ (1 + (k0 : Int))).well hwσ.out
        rw [e1] at h1; exact h1
      generalize ({ σ with reads := true, ended := false, n := 1 + (k0 : Int), wait := 0 } : St) = τ0 at *
      have hk2 : 1 ≤ k ∧ k ≤ 256 := by omega
      obtain ⟨p21, p22⟩ := p2
      have HKI : Hid (1 + (k0 : Int) = (k : Int)) := hki
      have HKD : Hid (k = 1 + k0) := hk
      clear hki hk
      obtain ⟨k1, k2⟩ := hk2
      obtain ⟨m1, m2⟩ := m0
      obtain ⟨t1, t2⟩ := t0
      clear hrw okσ hwσ hraw hp e1 hR
      go_wp2_with (first
        | (go_at_call 19; refine (hp2 _).mono ?_; clear hp2; rintro e w' ⟨rfl, hw⟩; subst hw)
        | (go_at_call 20; refine hrd.mono ?_; clear hrd; rintro e W7 ⟨rfl, hW7⟩))
      go_loopg [14, 19, 21, 22, 23, 24, 25, 26] ev.length (fun kk av wv iv _ _ _ _ _ wr => ∃ (j a : Nat) (wt : Int) (σ : St), j + kk = ev.length ∧ av = .int .i64 a ∧ wv = .int .i64 wt ∧ iv = .int .i64 j ∧ AtT [] w [B] b σ.look wr ∧ Hid (Ti m t k a (min wt 255) σ) ∧ Hid (Inv (90000 + 4100 * a) σ.look) ∧ Hid (Well σ.look) ∧ 0 ≤ wt ∧ wt ≤ j ∧ a ≤ 256)
      case atStart => exact ⟨0, i, 0, τ0, by omega, rfl, rfl, rfl, hW7, HTi, HI2, HW2, by omega, by omega, by omega⟩
      case round =>
        clear hW7 HTi HI2 HW2
        obtain ⟨j, a, wt, σ, hj, rfl, rfl, rfl, hR, hti, okσ, hwσ, w1, w2, ha20⟩ := hrel
        have hjl : (j : Int) ≤ (ev.length : Int) := by omega
        obtain ⟨wn, hwn⟩ : ∃ wn : Int, wn = min m (k : Int) := ⟨_, rfl⟩
        have HWN : Hid (wn = min m (k : Int)) := hwn
        clear hwn
        go_upto_if 77 with fail
        go_cut [22] (fun s22 wx => s22 = .int .i64 wn ∧ wx = wr)
        case first =>
          go_wp2_with fail
          all_goals (go_meet; exact ⟨by have := HWN.out; have := HKI.out; congr 1; omega, rfl⟩)
        case rest =>
        obtain ⟨rfl, rfl⟩ := hcut
        have HOV : Hid (over m t k a wt = if m = 0 then (if t = 0 then true else decide (0 < a) || decide (t ≤ wt)) else decide (wn ≤ a) || (decide (0 < t) && (decide (0 < a) && decide (t ≤ wt)))) := by show over m t k a wt = _; rw [HWN.out]; rfl
        go_upto_block 4 with fail
        go_cut [14, 23] (fun s14 s23 wx => s14 = .int .i64 a ∧ s23 = .bool (over m t k a wt) ∧ wx = wc)
        case first =>
          go_wp2_with fail
          all_goals (go_meet; refine ⟨by first | rfl | (congr 1; omega), congrArg Value.bool ?_, rfl⟩; rw [HOV.out])
          all_goals repeat' split
          all_goals first | (exfalso; omega) | (rw [Bool.eq_iff_iff]; simp; omega) | (simp; omega) | rfl
        case rest =>
        obtain ⟨rfl, rfl, rfl⟩ := hcut
        clear HOV HWN
        have htk := TTake [] w [B] b σ.look wc _ hR okσ.out
        have hoc := over_cap (m := m) k a wt t2
        cases ho : over m t k a wt with
        | true =>
          obtain ⟨d, hd, hdl⟩ := hti.out.done (hoc.trans ho)
          rw [hd] at htk
          have hsz : ((str d).size : Int) = ((min a k : Nat) : Int) := by rw [str_size, hdl]
          have HKP : Hid (∀ W, AtT [] w [B] b σ.look.take.1 W → Below w.heap.size w W) := fun W hW => ⟨hW.kp.os, hW.kp.tape, hW.kp.output, hW.kp.size, fun q hq => hW.kp.block q hq (by simp)⟩
          clear hti okσ hwσ hd hdl ho hR hoc
          by_cases hak : k < a
          · have hak' : (1 + (k0 : Int)) < (a : Int) := by have := HKI.out; omega
            have hmn : ((min a k : Nat) : Int) = 1 + (k0 : Int) := by have := HKI.out; omega
            rw [hmn] at hsz
            clear hmn
            go_wp2_with (go_at_call 21; refine htk.mono ?_; rintro e W8 ⟨rfl, hW8⟩)
            go_ret
            exact ⟨ret_bool (by first | rfl | simp), HKP.out _ hW8⟩
          · have hak' : ¬ (1 + (k0 : Int)) < (a : Int) := by have := HKI.out; omega
            have hmn : ((min a k : Nat) : Int) = (a : Int) := by omega
            rw [hmn] at hsz
            clear hmn
            go_wp2_with (go_at_call 21; refine htk.mono ?_; rintro e W8 ⟨rfl, hW8⟩)
            go_ret
            exact ⟨ret_bool (by first | rfl | simp), HKP.out _ hW8⟩
        | false =>
          obtain ⟨hlk, htn⟩ := hti.out.not (hoc.trans ho)
          have ha256 := over_less ⟨m1, m2⟩ ho
          clear hoc
          rw [hlk] at okσ hwσ hR
          rw [hlk, htn] at htk
          dsimp only at htk
          by_cases hjl2 : j < ev.length
          · have hjl3 : (j : Int) < (ev.length : Int) := by omega
            have hjl4 : ((j : Int) == (ev.length : Int)) = false := by simp; omega
            obtain ⟨v, hv⟩ : ∃ v, ev[j]? = some v := ⟨ev[j], List.getElem?_eq_getElem hjl2⟩
            obtain ⟨hvr, g, off, rfl, hg, hcell⟩ := hE j v hv
            have hpk := fun W => kpick_any v 2 W (by omega) (by omega) hvr.1 hvr.2
            have hp3 := pickN_lt v 2 (by omega)
            have HCell : Hid (∀ W, AtT [] w [B] b σ W → W.cell? ⟨g, off + j, none⟩ = some (.int .i64 v)) := fun W hW => (hW.kp.cell (a := ⟨g, off + j, none⟩) hg (by simp)).trans hcell
            clear hcell hv
            by_cases hz : pickN v 2 = 0
            · rw [hz] at hpk
              have HRC : Hid (∀ W, AtT [] w [B] b σ W → Calls Try.prog 13 #[.pointer (some ⟨b, 0, none⟩), .int .i64 0, .string ⟨#[121]⟩] W fun e w' => e = .returned (.int .i64 0) ∧ AtT [] w [B] b (σ.good 121).look w') := fun W hW => by
                have := TReceive [] w [B] b σ W (90000 + 4100 * a) hW okσ.out hwσ.out 0 ⟨#[121]⟩ (by simp [maxLen, ByteArray.size]) (by simp [ByteArray.size]; omega)
                rw [show σ.receive 0 (⟨#[121]⟩ : ByteArray).data.toList = ((σ.good 121).look, 0) from rfl] at this
                exact this
              have HTi2 : Hid (Ti m t k (a + 1) (min 0 255) (σ.good 121)) := by rw [show min (0 : Int) 255 = 0 from rfl]; exact hti.out.byte 121 ha256
              have HI3 : Hid (Inv (90000 + 4100 * ((a + 1 : Nat) : Int)) (σ.good 121).look) := by
                have h1 := okσ.out.receive 0 [121]
                rw [show σ.receive 0 [121] = ((σ.good 121).look, 0) from rfl] at h1
                exact h1.mono (by simp; omega)
              have HW3 : Hid (Well (σ.good 121).look) := ((from_good σ 121).trans (from_look _)).well hwσ.out
              generalize σ.good 121 = τ at *
              clear hti okσ hwσ ho hz hp3 hlk htn
              go_wp2_with (first
                | (go_at_call 21; refine htk.mono ?_; clear htk; rintro e W8 ⟨rfl, hW8⟩; have hcl := HCell.out W8 hW8)
                | (go_at_call 19; refine (hpk _).mono ?_; clear hpk; rintro e w' ⟨rfl, hw⟩; have hw := hw.symm; subst hw)
                | (go_at_call 13; refine (HRC.out _ hW8).mono ?_; rintro e W9 ⟨rfl, hW9⟩))
              go_roundg (gk - 1)
              case measure => omega
              case rel => exact ⟨j + 1, a + 1, 0, τ, by omega, by go_num, rfl, by go_num, hW9, HTi2, HI3, HW3, by omega, by omega, by omega⟩
            · have hz1 : pickN v 2 = 1 := by omega
              rw [hz1] at hpk
              have hw5 : 0 ≤ min wt 255 := by omega
              obtain ⟨c1, c2, c3, c4⟩ := hti.out.tick.cap t2
              have HTK : Hid (∀ W, AtT [] w [B] b σ W → Calls Try.prog 22 #[.pointer (some ⟨b, 0, none⟩)] W fun e w' => e = .returned (.tuple #[]) ∧ AtT [] w [B] b ({ ({ σ with wait := σ.wait + 1 } : St) with wait := min (min wt 255 + 1) 255 } : St).look w') := fun W hW => (TTick [] w [B] b σ W (90000 + 4100 * a) hW okσ.out (by omega) hwσ.out).mono fun e w' ⟨q1, q2⟩ => ⟨q1, by rw [c2]; exact AtT.cap q2 c3 (by rw [c4]; omega)⟩
              have HTi2 : Hid (Ti m t k a (min (wt + 1) 255) { ({ σ with wait := σ.wait + 1 } : St) with wait := min (min wt 255 + 1) 255 }) := by
                have e0 : min (wt + 1) 255 = min (min wt 255 + 1) 255 := by omega
                rw [e0]; exact c1
              have HI3 : Hid (Inv (90000 + 4100 * (a : Int)) ({ ({ σ with wait := σ.wait + 1 } : St) with wait := min (min wt 255 + 1) 255 } : St).look) := by
                rw [c1.ends]
                exact Inv.ends (okσ.out.capped (by omega) (by omega) (by omega))
              have HW3 : Hid (Well ({ ({ σ with wait := σ.wait + 1 } : St) with wait := min (min wt 255 + 1) 255 } : St).look) := (from_look _).well (fun e he => hwσ.out e he)
              clear c1 c2 c3 c4 hw5
              generalize ({ ({ σ with wait := σ.wait + 1 } : St) with wait := min (min wt 255 + 1) 255 } : St) = τ at *
              clear hti okσ hwσ ho hz hz1 hp3 hlk htn
              go_wp2_with (first
                | (go_at_call 21; refine htk.mono ?_; clear htk; rintro e W8 ⟨rfl, hW8⟩; have hcl := HCell.out W8 hW8)
                | (go_at_call 19; refine (hpk _).mono ?_; clear hpk; rintro e w' ⟨rfl, hw⟩; have hw := hw.symm; subst hw)
                | (go_at_call 22; refine (HTK.out _ hW8).mono ?_; rintro e W9 ⟨rfl, hW9⟩))
              go_roundg (gk - 1)
              case measure => omega
              case rel => exact ⟨j + 1, a, wt + 1, τ, by omega, rfl, by go_num, by go_num, hW9, HTi2, HI3, HW3, by omega, by omega, by omega⟩
          · obtain rfl : j = ev.length := by omega
            have HKP : Hid (∀ W, AtT [] w [B] b σ W → Below w.heap.size w W) := fun W hW => ⟨hW.kp.os, hW.kp.tape, hW.kp.output, hW.kp.size, fun q hq => hW.kp.block q hq (by simp)⟩
            clear hti okσ hwσ ho hlk htn
            go_wp2_with (go_at_call 21; refine htk.mono ?_; rintro e W8 ⟨rfl, hW8⟩)
            go_ret
            exact ⟨rfl, HKP.out _ hW8⟩
end Go.Proofs.Ytfnglkhhmplejaa
