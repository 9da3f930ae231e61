/- Walks: the program: what a byte means that is not quoted. (Written by mkProg41.py.) -/
import Derived.Test.YtfnglkhhmplejaaGreatProg40
import Derived.Test.YtfnglkhhmplejaaGreatP28
namespace Go.Proofs.YtfnglkhhmplejaaGreat
open Go Go.RowKit Go.Clk Go.Shelf
section
variable (S0 : List Nat) (w0 : World) (x : List Nat) (b : Nat) (σ : St) (w : World) (K : Int)

theorem takenFlow (h : AtP S0 w0 x b σ w) (ok : Inv K σ) (c : UInt8) (a : Option Addr) (cap : Nat) (o : Option Nat) (hs : Sl w 127 4 (.slice a 2 cap) 2 (rowsC (rowsFlow σ)) o) :
    Calls Tryz.prog 76 #[.pointer (some ⟨b, 0, none⟩), .int .u8 c.toNat, .slice a 2 cap] w fun e w' => e = .returned (.bool (σ.flows c).2) ∧ AtP S0 w0 x b (firstRes σ c (rowsFlow σ)) w' := by
  have := taken_any S0 w0 x b σ w h c (rowsFlow σ) a cap o hs (by simp [rowsFlow]) (by intro r hr; simp [rowsFlow] at hr; rcases hr with rfl | rfl <;> (dsimp only; omega)) (by
    intro r hr _
    simp only [rowsFlow, List.mem_cons, List.not_mem_nil, or_false] at hr
    rcases hr with rfl | rfl
    · exact ⟨enters_of Tryz.func78 (by kernel_rfl) rfl, fun W hg => by simpa using goOn_any S0 w0 x b σ W (h.same hg) _⟩
    · exact ⟨enters_of Tryz.func106 (by kernel_rfl) rfl, fun W hg => by simpa using stop_any S0 w0 x b σ W (h.same hg) _⟩)
  rw [(flow_first σ K c ok).1] at this
  exact this

theorem takenSig (h : AtP S0 w0 x b σ w) (ok : Inv K σ) (hK : K + 2048 ≤ 1099511627776) (c : UInt8) (a : Option Addr) (cap : Nat) (o : Option Nat) (g1 g2 g3 : Nat) (hs : Sl w 127 4 (.slice a 3 cap) 3 (rowsC (rowsSig σ c g1 g2 g3)) o)
    (c1 : w.cell? ⟨g1, 0, none⟩ = some (.int .i64 1)) (c2 : w.cell? ⟨g2, 0, none⟩ = some (.int .i64 2)) (c3 : w.cell? ⟨g3, 0, none⟩ = some (.int .i64 3)) (b1 : g1 < w.heap.size) (b2 : g2 < w.heap.size) (b3 : g3 < w.heap.size) :
    Calls Tryz.prog 76 #[.pointer (some ⟨b, 0, none⟩), .int .u8 c.toNat, .slice a 3 cap] w fun e w' => e = .returned (.bool (σ.sigs c).2) ∧ AtP S0 w0 x b (σ.sigs c).1 w' := by
  have keep : ∀ (W : World) (g : Nat) (v : Value), w.grownBy W none → g < w.heap.size → w.cell? ⟨g, 0, none⟩ = some v → W.cell? ⟨g, 0, none⟩ = some v := fun W g v hg hb hc => (World.cell?_of_block (hg.block g hb (by simp))).trans hc
  have := taken_any S0 w0 x b σ w h c (rowsSig σ c g1 g2 g3) a cap o hs (by simp [rowsSig]) (by intro r hr; simp [rowsSig] at hr; rcases hr with rfl | rfl | rfl <;> (dsimp only; omega)) (by
    intro r hr _
    simp only [rowsSig, List.mem_cons, List.not_mem_nil, or_false] at hr
    rcases hr with rfl | rfl | rfl
    · exact ⟨enters_of Tryz.func136 (by kernel_rfl) rfl, fun W hg => by simpa using raise1_any S0 w0 x b σ W K (h.same hg) ok hK c 1 g1 (keep W g1 _ hg b1 c1)⟩
    · exact ⟨enters_of Tryz.func136 (by kernel_rfl) rfl, fun W hg => by simpa using raise1_any S0 w0 x b σ W K (h.same hg) ok hK c 2 g2 (keep W g2 _ hg b2 c2)⟩
    · exact ⟨enters_of Tryz.func136 (by kernel_rfl) rfl, fun W hg => by simpa using raise1_any S0 w0 x b σ W K (h.same hg) ok hK c 3 g3 (keep W g3 _ hg b3 c3)⟩)
  rw [(sig_first σ K c ok g1 g2 g3).1, (sig_first σ K c ok g1 g2 g3).2] at this
  exact this

theorem takenLine (h : AtP S0 w0 x b σ w) (ok : Inv K σ) (hK : K ≤ 1099511627776) (c : UInt8) (a : Option Addr) (cap : Nat) (o : Option Nat) (hs : Sl w 127 4 (.slice a 9 cap) 9 (rowsC (rowsLine σ c)) o) :
    Calls Tryz.prog 76 #[.pointer (some ⟨b, 0, none⟩), .int .u8 c.toNat, .slice a 9 cap] w fun e w' => (∃ q, e = .returned (.bool q)) ∧ AtP S0 w0 x b (σ.line c) w' := by
  have := taken_any S0 w0 x b σ w h c (rowsLine σ c) a cap o hs (by simp [rowsLine]) (by intro r hr; simp [rowsLine] at hr; rcases hr with rfl | rfl | rfl | rfl | rfl | rfl | rfl | rfl | rfl <;> (dsimp only; omega)) (by
    intro r hr _
    simp only [rowsLine, List.mem_cons, List.not_mem_nil, or_false] at hr
    rcases hr with rfl | rfl | rfl | rfl | rfl | rfl | rfl | rfl | rfl
    · exact ⟨enters_of Tryz.func108 (by kernel_rfl) rfl, fun W hg => by simpa using eraseLast_any S0 w0 x b σ W K (h.same hg) ok hK c _ rfl⟩
    · exact ⟨enters_of Tryz.func109 (by kernel_rfl) rfl, fun W hg => by simpa using killLine_any S0 w0 x b σ W K (h.same hg) ok hK c _ rfl⟩
    · exact ⟨enters_of Tryz.func110 (by kernel_rfl) rfl, fun W hg => by simpa using eraseWord_any S0 w0 x b σ W K (h.same hg) ok hK c _ rfl⟩
    · exact ⟨enters_of Tryz.func111 (by kernel_rfl) rfl, fun W hg => by simpa using quoteNext_any S0 w0 x b σ W K (h.same hg) ok hK _⟩
    · exact ⟨enters_of Tryz.func112 (by kernel_rfl) rfl, fun W hg => by simpa using reprint_any S0 w0 x b σ W K (h.same hg) ok hK c _ rfl⟩
    · exact ⟨enters_of Tryz.func113 (by kernel_rfl) rfl, fun W hg => by simpa using endFile_any S0 w0 x b σ W K (h.same hg) ok hK _⟩
    · exact ⟨enters_of Tryz.func114 (by kernel_rfl) rfl, fun W hg => by simpa using endLine_any S0 w0 x b σ W K (h.same hg) ok hK c _ rfl⟩
    · exact ⟨enters_of Tryz.func114 (by kernel_rfl) rfl, fun W hg => by simpa using endLine_any S0 w0 x b σ W K (h.same hg) ok hK c _ rfl⟩
    · exact ⟨enters_of Tryz.func115 (by kernel_rfl) rfl, fun W hg => by simpa using layOne_any S0 w0 x b σ W K (h.same hg) ok hK c _ rfl⟩)
  refine this.mono ?_
  rintro e w' ⟨rfl, h2⟩
  rw [line_first σ K c ok] at h2
  exact ⟨⟨_, rfl⟩, h2⟩
end
section
variable (S0 : List Nat) (w0 : World) (x : List Nat) (b : Nat) (σ : St) (w : World) (K : Int)

theorem sigs_no (σ : St) (c : UInt8) (h : (σ.sigs c).2 = false) : (σ.sigs c).1 = σ := by
  unfold St.sigs at h ⊢
  revert h
  cases σ.L 1 <;> cases σ.isC c 0 <;> cases σ.isC c 1 <;> cases σ.isC c 2 <;> simp

set_option maxHeartbeats 4000000 in
set_option maxRecDepth 100000 in
theorem heed_any (h : AtP S0 w0 x b σ w) (ok : Inv K σ) (hK : K + 2048 ≤ 1099511627776) (c : UInt8) (ci : Int) (hci : ci = (c.toNat : Int)) :
    Calls Tryz.prog 55 #[.pointer (some ⟨b, 0, none⟩), .int .u8 ci] w fun e w' => e = .returned (.tuple #[]) ∧ AtP S0 w0 x b (σ.heed c) w' := by
  subst hci
  have k0 : w.cell? ⟨b, 0, none⟩ = some (.int .i64 σ.i) := by obtain ⟨vi, vu, vo, vs, hV⟩ := h; exact hV.ci
  have i0 := ok.ok.i0; have i1 := ok.ok.i1
  have HH : Hid (σ.heed c = if (σ.flows c).2 then (σ.flows c).1 else if ((σ.flows c).1.sigs c).2 then ((σ.flows c).1.sigs c).1 else (σ.flows c).1.late c) := rfl
  have HFl : Hid (∀ W, Calls Tryz.prog 77 #[] W fun e w' => e = .returned (.slice (some ⟨W.heap.size, 0, none⟩) 2 2) ∧ W.grownBy w' none ∧ Sl w' 127 4 (.slice (some ⟨W.heap.size, 0, none⟩) 2 2) 2 (rowsC (rowsFlow σ)) (some W.heap.size)) := fun W => flowMeanings_any σ W
  have HTF : Hid (∀ (W : World) (q : Bool) (g : Nat), (σ.flows c).2 = q → AtP S0 w0 x b σ W → Sl W 127 4 (.slice (some ⟨g, 0, none⟩) 2 2) 2 (rowsC (rowsFlow σ)) (some g) → Calls Tryz.prog 76 #[.pointer (some ⟨b, 0, none⟩), .int .u8 c.toNat, .slice (some ⟨g, 0, none⟩) 2 2] W fun e w' => e = .returned (.bool q) ∧ AtP S0 w0 x b (firstRes σ c (rowsFlow σ)) w') := by
    rintro W q g rfl hW hs; exact takenFlow S0 w0 x b σ W K hW ok c _ _ _ hs
  have a1536 := has1536 σ.i i0 i1
  have a64 := has64 σ.i i0 i1
  have a128 := has128 σ.i i0 i1
  have a32 := has32 σ.i i0 i1
  obtain ⟨_, hfa, hfb⟩ := flow_first σ K c ok
  have okf : Inv K (σ.flows c).1 := ok.flows c
  cases hF : (σ.flows c).2 with
  | true =>
    have e1 : Hid (σ.heed c = (σ.flows c).1) := by show σ.heed c = _; rw [HH.out, if_pos hF]
    have e2 : Hid (firstRes σ c (rowsFlow σ) = (σ.flows c).1) := hfa hF
    have htf := fun W g => HTF.out W true g hF
    have HTf : Hid (∀ (W : World) (g : Nat), AtP S0 w0 x b σ W → Sl W 127 4 (.slice (some ⟨g, 0, none⟩) 2 2) 2 (rowsC (rowsFlow σ)) (some g) → Calls Tryz.prog 76 #[.pointer (some ⟨b, 0, none⟩), .int .u8 c.toNat, .slice (some ⟨g, 0, none⟩) 2 2] W fun e w' => e = .returned (.bool true) ∧ AtP S0 w0 x b (firstRes σ c (rowsFlow σ)) w') := htf
    clear hF htf HTF hfa hfb HH okf
    go_enter Tryz.func55, Tryz.ntmps55
    go_wp2_with (first
      | (go_at_call 77; refine (HFl.out _).mono ?_; rintro e W1 ⟨rfl, hg1, hs1⟩; have hR1 := h.same hg1)
      | (go_at_call 76; refine (HTf.out _ _ hR1 hs1).mono ?_; rintro e W2 ⟨rfl, hR2⟩))
    refine bodyPost_ret (results_none rfl _ _ _) rfl ?_
    rw [e2.out] at hR2
    exact ⟨rfl, by rw [e1.out]; exact hR2⟩
  | false =>
    obtain ⟨e2, e3⟩ := hfb hF
    have e1 : Hid (σ.heed c = if ((σ.flows c).1.sigs c).2 then ((σ.flows c).1.sigs c).1 else (σ.flows c).1.late c) := by show σ.heed c = _; rw [HH.out, if_neg (by rw [hF]; decide)]
    have HTf : Hid (∀ (W : World) (g : Nat), AtP S0 w0 x b σ W → Sl W 127 4 (.slice (some ⟨g, 0, none⟩) 2 2) 2 (rowsC (rowsFlow σ)) (some g) → Calls Tryz.prog 76 #[.pointer (some ⟨b, 0, none⟩), .int .u8 c.toNat, .slice (some ⟨g, 0, none⟩) 2 2] W fun e w' => e = .returned (.bool false) ∧ AtP S0 w0 x b σ w') := by
      intro W g hW hs; have := HTF.out W false g hF hW hs; rw [e2] at this; exact this
    obtain ⟨τ, hτ⟩ : ∃ τ, (σ.flows c).1 = τ := ⟨_, rfl⟩
    rw [hτ] at e1 e3 okf
    have HSm : Hid (∀ W, Calls Tryz.prog 79 #[] W fun e w' => e = .returned (.slice (some ⟨W.heap.size + 3, 0, none⟩) 3 3) ∧ W.grownBy w' none ∧ Sl w' 127 4 (.slice (some ⟨W.heap.size + 3, 0, none⟩) 3 3) 3 (rowsC (rowsSig τ c W.heap.size (W.heap.size + 1) (W.heap.size + 2))) (some (W.heap.size + 3)) ∧ w'.cell? ⟨W.heap.size, 0, none⟩ = some (.int .i64 1) ∧ w'.cell? ⟨W.heap.size + 1, 0, none⟩ = some (.int .i64 2) ∧ w'.cell? ⟨W.heap.size + 2, 0, none⟩ = some (.int .i64 3) ∧ w'.heap.size = W.heap.size + 4) := fun W => signalMeanings_any τ W c
    have HTs : Hid (∀ (W V : World) (q : Bool), (τ.sigs c).2 = q → AtP S0 w0 x b τ W → V.heap.size + 4 = W.heap.size → Sl W 127 4 (.slice (some ⟨V.heap.size + 3, 0, none⟩) 3 3) 3 (rowsC (rowsSig τ c V.heap.size (V.heap.size + 1) (V.heap.size + 2))) (some (V.heap.size + 3)) → W.cell? ⟨V.heap.size, 0, none⟩ = some (.int .i64 1) → W.cell? ⟨V.heap.size + 1, 0, none⟩ = some (.int .i64 2) → W.cell? ⟨V.heap.size + 2, 0, none⟩ = some (.int .i64 3) → Calls Tryz.prog 76 #[.pointer (some ⟨b, 0, none⟩), .int .u8 c.toNat, .slice (some ⟨V.heap.size + 3, 0, none⟩) 3 3] W fun e w' => e = .returned (.bool q) ∧ AtP S0 w0 x b (τ.sigs c).1 w') := by
      rintro W V q rfl hW hz hs k1 k2 k3
      exact takenSig S0 w0 x b τ W K hW okf hK c _ _ _ _ _ _ hs k1 k2 k3 (by omega) (by omega) (by omega)
    have HLm : Hid (∀ (W : World) (d : UInt8), Calls Tryz.prog 80 #[] W fun e w' => e = .returned (.slice (some ⟨W.heap.size, 0, none⟩) 9 9) ∧ W.grownBy w' none ∧ Sl w' 127 4 (.slice (some ⟨W.heap.size, 0, none⟩) 9 9) 9 (rowsC (rowsLine τ d)) (some W.heap.size)) := fun W d => lineMeanings_any τ W d
    have HTl : Hid (∀ (W : World) (g : Nat) (d : UInt8) (di : Int), di = (d.toNat : Int) → AtP S0 w0 x b τ W → Sl W 127 4 (.slice (some ⟨g, 0, none⟩) 9 9) 9 (rowsC (rowsLine τ d)) (some g) → Calls Tryz.prog 76 #[.pointer (some ⟨b, 0, none⟩), .int .u8 di, .slice (some ⟨g, 0, none⟩) 9 9] W fun e w' => (∃ q, e = .returned (.bool q)) ∧ AtP S0 w0 x b (τ.line d) w') := by
      rintro W g d di rfl hW hs; exact takenLine S0 w0 x b τ W K hW okf (by omega) d _ _ _ hs
    have HI : Hid (∀ k, τ.I k = σ.I k) := by
      intro k
      have : τ.ss = σ.ss := by rw [e3]; split <;> rfl
      unfold St.I St.i; rw [this]
    have HLt : Hid (τ.late c = if ((c.toNat : Int) == 13) && bit σ.i 64 then τ else if ((c.toNat : Int) == 13) && bit σ.i 128 then τ.line 10 else if ((c.toNat : Int) == 10) && bit σ.i 32 then τ.line 13 else τ.line c) := by
      show τ.late c = _
      unfold St.late; rw [HI.out, HI.out, HI.out]; rfl
    clear hF HTF hfa hfb HH hτ e2 ok okf
    cases hA : (bit σ.i 512 && bit σ.i 1024) with
    | true =>
      rw [hA] at a1536
      have HST : Hid (τ = { σ with stopped := false }) := by show τ = _; rw [e3, if_pos (show (σ.I 512 && σ.I 1024) = true from hA)]
      clear hA e3
      cases hS : (τ.sigs c).2 with
      | true =>
        have e4 : Hid (σ.heed c = (τ.sigs c).1) := by show σ.heed c = _; rw [e1.out, if_pos hS]
        clear e1 HLt HLm HTl a64 a128 a32
        go_enter Tryz.func55, Tryz.ntmps55
        go_wp2_with (first
          | (go_at_call 77; refine (HFl.out _).mono ?_; rintro e W1 ⟨rfl, hg1, hs1⟩; have hR1 := h.same hg1)
          | (go_at_call 52; refine (Has_any _ _ _).mono ?_; rintro e w' ⟨rfl, hw⟩; subst hw)
          | (go_at_call 78; refine (goOn_any S0 w0 x b σ _ hR2 _).mono ?_; rintro e W3 ⟨rfl, hR3⟩; rw [← HST.out] at hR3)
          | (go_at_call 76; refine (HTf.out _ _ hR1 hs1).mono ?_; clear hR1 hs1; rintro e W2 ⟨rfl, hR2⟩)
          | (go_at_call 79; refine (HSm.out _).mono ?_; rintro e W4 ⟨rfl, hg4, hs4, k1, k2, k3, hz4⟩; have hR4 := hR3.same hg4; have HZ := hid_of hz4; clear hz4)
          | (go_at_call 76; refine (HTs.out _ _ true hS hR4 HZ.out.symm hs4 k1 k2 k3).mono ?_; clear hR4 hs4; rintro e W5 ⟨rfl, hR5⟩))
        refine bodyPost_ret (results_none rfl _ _ _) rfl ?_
        exact ⟨rfl, by rw [e4.out]; exact hR5⟩
      | false =>
        have e4 : Hid (σ.heed c = τ.late c) := by show σ.heed c = _; rw [e1.out, if_neg (by rw [hS]; decide)]
        have HSn : Hid ((τ.sigs c).1 = τ) := sigs_no τ c hS
        clear e1
        cases h13 : ((c.toNat : Int) == 13) with
        | true =>
          have h10 : ((c.toNat : Int) == 10) = false := by simp at h13 ⊢; omega
          rw [h13, h10] at HLt
          cases h64 : bit σ.i 64 with
          | true =>
            have e5 : Hid (τ.late c = τ) := by show τ.late c = _; rw [HLt.out, h64]; rfl
            rw [h64] at a64
            clear HLt h64 HLm HTl
            go_enter Tryz.func55, Tryz.ntmps55
            go_wp2_with (first
              | (go_at_call 77; refine (HFl.out _).mono ?_; rintro e W1 ⟨rfl, hg1, hs1⟩; have hR1 := h.same hg1)
              | (go_at_call 52; refine (Has_any _ _ _).mono ?_; rintro e w' ⟨rfl, hw⟩; subst hw)
              | (go_at_call 78; refine (goOn_any S0 w0 x b σ _ hR2 _).mono ?_; rintro e W3 ⟨rfl, hR3⟩; rw [← HST.out] at hR3)
              | (go_at_call 76; refine (HTf.out _ _ hR1 hs1).mono ?_; clear hR1 hs1; rintro e W2 ⟨rfl, hR2⟩)
              | (go_at_call 79; refine (HSm.out _).mono ?_; rintro e W4 ⟨rfl, hg4, hs4, k1, k2, k3, hz4⟩; have hR4 := hR3.same hg4; have HZ := hid_of hz4; clear hz4)
              | (go_at_call 76; refine (HTs.out _ _ false hS hR4 HZ.out.symm hs4 k1 k2 k3).mono ?_; clear hR4 hs4; rintro e W5 ⟨rfl, hR5⟩; rw [HSn.out] at hR5))
            refine bodyPost_ret (results_none rfl _ _ _) rfl ?_
            exact ⟨rfl, by rw [e4.out, e5.out]; exact hR5⟩
          | false =>
            rw [h64] at a64 HLt
            clear h64
            cases h128 : bit σ.i 128 with
            | true =>
              have e5 : Hid (τ.late c = τ.line 10) := by show τ.late c = _; rw [HLt.out, h128]; rfl
              rw [h128] at a128
              clear HLt h128
              go_enter Tryz.func55, Tryz.ntmps55
              go_wp2_with (first
                | (go_at_call 77; refine (HFl.out _).mono ?_; rintro e W1 ⟨rfl, hg1, hs1⟩; have hR1 := h.same hg1)
                | (go_at_call 52; refine (Has_any _ _ _).mono ?_; rintro e w' ⟨rfl, hw⟩; subst hw)
                | (go_at_call 78; refine (goOn_any S0 w0 x b σ _ hR2 _).mono ?_; rintro e W3 ⟨rfl, hR3⟩; rw [← HST.out] at hR3)
                | (go_at_call 76; refine (HTf.out _ _ hR1 hs1).mono ?_; clear hR1 hs1; rintro e W2 ⟨rfl, hR2⟩)
                | (go_at_call 79; refine (HSm.out _).mono ?_; rintro e W4 ⟨rfl, hg4, hs4, k1, k2, k3, hz4⟩; have hR4 := hR3.same hg4; have HZ := hid_of hz4; clear hz4)
                | (go_at_call 76; refine (HTs.out _ _ false hS hR4 HZ.out.symm hs4 k1 k2 k3).mono ?_; clear hR4 hs4; rintro e W5 ⟨rfl, hR5⟩; rw [HSn.out] at hR5)
                | (go_at_call 80; refine (HLm.out _ 10).mono ?_; rintro e W6 ⟨rfl, hg6, hs6⟩; have hR6 := hR5.same hg6)
                | (go_at_call 76; refine (HTl.out _ _ 10 _ rfl hR6 hs6).mono ?_; rintro e W7 ⟨⟨q7, rfl⟩, hR7⟩))
              go_end0
              exact ⟨rfl, by rw [e4.out, e5.out]; exact hR7⟩
            | false =>
              have e5 : Hid (τ.late c = τ.line c) := by show τ.late c = _; rw [HLt.out, h128]; rfl
              rw [h128] at a128
              clear HLt h128
              go_enter Tryz.func55, Tryz.ntmps55
              go_wp2_with (first
                | (go_at_call 77; refine (HFl.out _).mono ?_; rintro e W1 ⟨rfl, hg1, hs1⟩; have hR1 := h.same hg1)
                | (go_at_call 52; refine (Has_any _ _ _).mono ?_; rintro e w' ⟨rfl, hw⟩; subst hw)
                | (go_at_call 78; refine (goOn_any S0 w0 x b σ _ hR2 _).mono ?_; rintro e W3 ⟨rfl, hR3⟩; rw [← HST.out] at hR3)
                | (go_at_call 76; refine (HTf.out _ _ hR1 hs1).mono ?_; clear hR1 hs1; rintro e W2 ⟨rfl, hR2⟩)
                | (go_at_call 79; refine (HSm.out _).mono ?_; rintro e W4 ⟨rfl, hg4, hs4, k1, k2, k3, hz4⟩; have hR4 := hR3.same hg4; have HZ := hid_of hz4; clear hz4)
                | (go_at_call 76; refine (HTs.out _ _ false hS hR4 HZ.out.symm hs4 k1 k2 k3).mono ?_; clear hR4 hs4; rintro e W5 ⟨rfl, hR5⟩; rw [HSn.out] at hR5)
                | (go_at_call 80; refine (HLm.out _ c).mono ?_; rintro e W6 ⟨rfl, hg6, hs6⟩; have hR6 := hR5.same hg6)
                | (go_at_call 76; refine (HTl.out _ _ c _ rfl hR6 hs6).mono ?_; rintro e W7 ⟨⟨q7, rfl⟩, hR7⟩))
              go_end0
              exact ⟨rfl, by rw [e4.out, e5.out]; exact hR7⟩
        | false =>
          rw [h13] at HLt
          cases h10 : ((c.toNat : Int) == 10) with
          | true =>
            rw [h10] at HLt
            cases h32 : bit σ.i 32 with
            | true =>
              have e5 : Hid (τ.late c = τ.line 13) := by show τ.late c = _; rw [HLt.out, h32]; rfl
              rw [h32] at a32
              clear HLt h32
              go_enter Tryz.func55, Tryz.ntmps55
              go_wp2_with (first
                | (go_at_call 77; refine (HFl.out _).mono ?_; rintro e W1 ⟨rfl, hg1, hs1⟩; have hR1 := h.same hg1)
                | (go_at_call 52; refine (Has_any _ _ _).mono ?_; rintro e w' ⟨rfl, hw⟩; subst hw)
                | (go_at_call 78; refine (goOn_any S0 w0 x b σ _ hR2 _).mono ?_; rintro e W3 ⟨rfl, hR3⟩; rw [← HST.out] at hR3)
                | (go_at_call 76; refine (HTf.out _ _ hR1 hs1).mono ?_; clear hR1 hs1; rintro e W2 ⟨rfl, hR2⟩)
                | (go_at_call 79; refine (HSm.out _).mono ?_; rintro e W4 ⟨rfl, hg4, hs4, k1, k2, k3, hz4⟩; have hR4 := hR3.same hg4; have HZ := hid_of hz4; clear hz4)
                | (go_at_call 76; refine (HTs.out _ _ false hS hR4 HZ.out.symm hs4 k1 k2 k3).mono ?_; clear hR4 hs4; rintro e W5 ⟨rfl, hR5⟩; rw [HSn.out] at hR5)
                | (go_at_call 80; refine (HLm.out _ 13).mono ?_; rintro e W6 ⟨rfl, hg6, hs6⟩; have hR6 := hR5.same hg6)
                | (go_at_call 76; refine (HTl.out _ _ 13 _ rfl hR6 hs6).mono ?_; rintro e W7 ⟨⟨q7, rfl⟩, hR7⟩))
              go_end0
              exact ⟨rfl, by rw [e4.out, e5.out]; exact hR7⟩
            | false =>
              have e5 : Hid (τ.late c = τ.line c) := by show τ.late c = _; rw [HLt.out, h32]; rfl
              rw [h32] at a32
              clear HLt h32
              go_enter Tryz.func55, Tryz.ntmps55
              go_wp2_with (first
                | (go_at_call 77; refine (HFl.out _).mono ?_; rintro e W1 ⟨rfl, hg1, hs1⟩; have hR1 := h.same hg1)
                | (go_at_call 52; refine (Has_any _ _ _).mono ?_; rintro e w' ⟨rfl, hw⟩; subst hw)
                | (go_at_call 78; refine (goOn_any S0 w0 x b σ _ hR2 _).mono ?_; rintro e W3 ⟨rfl, hR3⟩; rw [← HST.out] at hR3)
                | (go_at_call 76; refine (HTf.out _ _ hR1 hs1).mono ?_; clear hR1 hs1; rintro e W2 ⟨rfl, hR2⟩)
                | (go_at_call 79; refine (HSm.out _).mono ?_; rintro e W4 ⟨rfl, hg4, hs4, k1, k2, k3, hz4⟩; have hR4 := hR3.same hg4; have HZ := hid_of hz4; clear hz4)
                | (go_at_call 76; refine (HTs.out _ _ false hS hR4 HZ.out.symm hs4 k1 k2 k3).mono ?_; clear hR4 hs4; rintro e W5 ⟨rfl, hR5⟩; rw [HSn.out] at hR5)
                | (go_at_call 80; refine (HLm.out _ c).mono ?_; rintro e W6 ⟨rfl, hg6, hs6⟩; have hR6 := hR5.same hg6)
                | (go_at_call 76; refine (HTl.out _ _ c _ rfl hR6 hs6).mono ?_; rintro e W7 ⟨⟨q7, rfl⟩, hR7⟩))
              go_end0
              exact ⟨rfl, by rw [e4.out, e5.out]; exact hR7⟩
          | false =>
            rw [h10] at HLt
            have e5 : Hid (τ.late c = τ.line c) := by show τ.late c = _; rw [HLt.out]; rfl
            clear HLt
            go_enter Tryz.func55, Tryz.ntmps55
            go_wp2_with (first
              | (go_at_call 77; refine (HFl.out _).mono ?_; rintro e W1 ⟨rfl, hg1, hs1⟩; have hR1 := h.same hg1)
              | (go_at_call 52; refine (Has_any _ _ _).mono ?_; rintro e w' ⟨rfl, hw⟩; subst hw)
              | (go_at_call 78; refine (goOn_any S0 w0 x b σ _ hR2 _).mono ?_; rintro e W3 ⟨rfl, hR3⟩; rw [← HST.out] at hR3)
              | (go_at_call 76; refine (HTf.out _ _ hR1 hs1).mono ?_; clear hR1 hs1; rintro e W2 ⟨rfl, hR2⟩)
              | (go_at_call 79; refine (HSm.out _).mono ?_; rintro e W4 ⟨rfl, hg4, hs4, k1, k2, k3, hz4⟩; have hR4 := hR3.same hg4; have HZ := hid_of hz4; clear hz4)
              | (go_at_call 76; refine (HTs.out _ _ false hS hR4 HZ.out.symm hs4 k1 k2 k3).mono ?_; clear hR4 hs4; rintro e W5 ⟨rfl, hR5⟩; rw [HSn.out] at hR5)
              | (go_at_call 80; refine (HLm.out _ c).mono ?_; rintro e W6 ⟨rfl, hg6, hs6⟩; have hR6 := hR5.same hg6)
              | (go_at_call 76; refine (HTl.out _ _ c _ rfl hR6 hs6).mono ?_; rintro e W7 ⟨⟨q7, rfl⟩, hR7⟩))
            go_end0
            exact ⟨rfl, by rw [e4.out, e5.out]; exact hR7⟩
    | false =>
      rw [hA] at a1536
      have HST : Hid (τ = σ) := by show τ = _; rw [e3, if_neg (by rw [show (σ.I 512 && σ.I 1024) = false from hA]; decide)]
      clear hA e3
      cases hS : (τ.sigs c).2 with
      | true =>
        have e4 : Hid (σ.heed c = (τ.sigs c).1) := by show σ.heed c = _; rw [e1.out, if_pos hS]
        clear e1 HLt HLm HTl a64 a128 a32
        go_enter Tryz.func55, Tryz.ntmps55
        go_wp2_with (first
          | (go_at_call 77; refine (HFl.out _).mono ?_; rintro e W1 ⟨rfl, hg1, hs1⟩; have hR1 := h.same hg1)
          | (go_at_call 52; refine (Has_any _ _ _).mono ?_; rintro e w' ⟨rfl, hw⟩; subst hw)
          | (go_at_call 76; refine (HTf.out _ _ hR1 hs1).mono ?_; clear hR1 hs1; rintro e W2 ⟨rfl, hR2⟩; have hR3 : AtP S0 w0 x b τ W2 := (by rw [HST.out]; exact hR2))
          | (go_at_call 79; refine (HSm.out _).mono ?_; rintro e W4 ⟨rfl, hg4, hs4, k1, k2, k3, hz4⟩; have hR4 := hR3.same hg4; have HZ := hid_of hz4; clear hz4)
          | (go_at_call 76; refine (HTs.out _ _ true hS hR4 HZ.out.symm hs4 k1 k2 k3).mono ?_; clear hR4 hs4; rintro e W5 ⟨rfl, hR5⟩))
        refine bodyPost_ret (results_none rfl _ _ _) rfl ?_
        exact ⟨rfl, by rw [e4.out]; exact hR5⟩
      | false =>
        have e4 : Hid (σ.heed c = τ.late c) := by show σ.heed c = _; rw [e1.out, if_neg (by rw [hS]; decide)]
        have HSn : Hid ((τ.sigs c).1 = τ) := sigs_no τ c hS
        clear e1
        cases h13 : ((c.toNat : Int) == 13) with
        | true =>
          have h10 : ((c.toNat : Int) == 10) = false := by simp at h13 ⊢; omega
          rw [h13, h10] at HLt
          cases h64 : bit σ.i 64 with
          | true =>
            have e5 : Hid (τ.late c = τ) := by show τ.late c = _; rw [HLt.out, h64]; rfl
            rw [h64] at a64
            clear HLt h64 HLm HTl
            go_enter Tryz.func55, Tryz.ntmps55
            go_wp2_with (first
              | (go_at_call 77; refine (HFl.out _).mono ?_; rintro e W1 ⟨rfl, hg1, hs1⟩; have hR1 := h.same hg1)
              | (go_at_call 52; refine (Has_any _ _ _).mono ?_; rintro e w' ⟨rfl, hw⟩; subst hw)
              | (go_at_call 76; refine (HTf.out _ _ hR1 hs1).mono ?_; clear hR1 hs1; rintro e W2 ⟨rfl, hR2⟩; have hR3 : AtP S0 w0 x b τ W2 := (by rw [HST.out]; exact hR2))
              | (go_at_call 79; refine (HSm.out _).mono ?_; rintro e W4 ⟨rfl, hg4, hs4, k1, k2, k3, hz4⟩; have hR4 := hR3.same hg4; have HZ := hid_of hz4; clear hz4)
              | (go_at_call 76; refine (HTs.out _ _ false hS hR4 HZ.out.symm hs4 k1 k2 k3).mono ?_; clear hR4 hs4; rintro e W5 ⟨rfl, hR5⟩; rw [HSn.out] at hR5))
            refine bodyPost_ret (results_none rfl _ _ _) rfl ?_
            exact ⟨rfl, by rw [e4.out, e5.out]; exact hR5⟩
          | false =>
            rw [h64] at a64 HLt
            clear h64
            cases h128 : bit σ.i 128 with
            | true =>
              have e5 : Hid (τ.late c = τ.line 10) := by show τ.late c = _; rw [HLt.out, h128]; rfl
              rw [h128] at a128
              clear HLt h128
              go_enter Tryz.func55, Tryz.ntmps55
              go_wp2_with (first
                | (go_at_call 77; refine (HFl.out _).mono ?_; rintro e W1 ⟨rfl, hg1, hs1⟩; have hR1 := h.same hg1)
                | (go_at_call 52; refine (Has_any _ _ _).mono ?_; rintro e w' ⟨rfl, hw⟩; subst hw)
                | (go_at_call 76; refine (HTf.out _ _ hR1 hs1).mono ?_; clear hR1 hs1; rintro e W2 ⟨rfl, hR2⟩; have hR3 : AtP S0 w0 x b τ W2 := (by rw [HST.out]; exact hR2))
                | (go_at_call 79; refine (HSm.out _).mono ?_; rintro e W4 ⟨rfl, hg4, hs4, k1, k2, k3, hz4⟩; have hR4 := hR3.same hg4; have HZ := hid_of hz4; clear hz4)
                | (go_at_call 76; refine (HTs.out _ _ false hS hR4 HZ.out.symm hs4 k1 k2 k3).mono ?_; clear hR4 hs4; rintro e W5 ⟨rfl, hR5⟩; rw [HSn.out] at hR5)
                | (go_at_call 80; refine (HLm.out _ 10).mono ?_; rintro e W6 ⟨rfl, hg6, hs6⟩; have hR6 := hR5.same hg6)
                | (go_at_call 76; refine (HTl.out _ _ 10 _ rfl hR6 hs6).mono ?_; rintro e W7 ⟨⟨q7, rfl⟩, hR7⟩))
              go_end0
              exact ⟨rfl, by rw [e4.out, e5.out]; exact hR7⟩
            | false =>
              have e5 : Hid (τ.late c = τ.line c) := by show τ.late c = _; rw [HLt.out, h128]; rfl
              rw [h128] at a128
              clear HLt h128
              go_enter Tryz.func55, Tryz.ntmps55
              go_wp2_with (first
                | (go_at_call 77; refine (HFl.out _).mono ?_; rintro e W1 ⟨rfl, hg1, hs1⟩; have hR1 := h.same hg1)
                | (go_at_call 52; refine (Has_any _ _ _).mono ?_; rintro e w' ⟨rfl, hw⟩; subst hw)
                | (go_at_call 76; refine (HTf.out _ _ hR1 hs1).mono ?_; clear hR1 hs1; rintro e W2 ⟨rfl, hR2⟩; have hR3 : AtP S0 w0 x b τ W2 := (by rw [HST.out]; exact hR2))
                | (go_at_call 79; refine (HSm.out _).mono ?_; rintro e W4 ⟨rfl, hg4, hs4, k1, k2, k3, hz4⟩; have hR4 := hR3.same hg4; have HZ := hid_of hz4; clear hz4)
                | (go_at_call 76; refine (HTs.out _ _ false hS hR4 HZ.out.symm hs4 k1 k2 k3).mono ?_; clear hR4 hs4; rintro e W5 ⟨rfl, hR5⟩; rw [HSn.out] at hR5)
                | (go_at_call 80; refine (HLm.out _ c).mono ?_; rintro e W6 ⟨rfl, hg6, hs6⟩; have hR6 := hR5.same hg6)
                | (go_at_call 76; refine (HTl.out _ _ c _ rfl hR6 hs6).mono ?_; rintro e W7 ⟨⟨q7, rfl⟩, hR7⟩))
              go_end0
              exact ⟨rfl, by rw [e4.out, e5.out]; exact hR7⟩
        | false =>
          rw [h13] at HLt
          cases h10 : ((c.toNat : Int) == 10) with
          | true =>
            rw [h10] at HLt
            cases h32 : bit σ.i 32 with
            | true =>
              have e5 : Hid (τ.late c = τ.line 13) := by show τ.late c = _; rw [HLt.out, h32]; rfl
              rw [h32] at a32
              clear HLt h32
              go_enter Tryz.func55, Tryz.ntmps55
              go_wp2_with (first
                | (go_at_call 77; refine (HFl.out _).mono ?_; rintro e W1 ⟨rfl, hg1, hs1⟩; have hR1 := h.same hg1)
                | (go_at_call 52; refine (Has_any _ _ _).mono ?_; rintro e w' ⟨rfl, hw⟩; subst hw)
                | (go_at_call 76; refine (HTf.out _ _ hR1 hs1).mono ?_; clear hR1 hs1; rintro e W2 ⟨rfl, hR2⟩; have hR3 : AtP S0 w0 x b τ W2 := (by rw [HST.out]; exact hR2))
                | (go_at_call 79; refine (HSm.out _).mono ?_; rintro e W4 ⟨rfl, hg4, hs4, k1, k2, k3, hz4⟩; have hR4 := hR3.same hg4; have HZ := hid_of hz4; clear hz4)
                | (go_at_call 76; refine (HTs.out _ _ false hS hR4 HZ.out.symm hs4 k1 k2 k3).mono ?_; clear hR4 hs4; rintro e W5 ⟨rfl, hR5⟩; rw [HSn.out] at hR5)
                | (go_at_call 80; refine (HLm.out _ 13).mono ?_; rintro e W6 ⟨rfl, hg6, hs6⟩; have hR6 := hR5.same hg6)
                | (go_at_call 76; refine (HTl.out _ _ 13 _ rfl hR6 hs6).mono ?_; rintro e W7 ⟨⟨q7, rfl⟩, hR7⟩))
              go_end0
              exact ⟨rfl, by rw [e4.out, e5.out]; exact hR7⟩
            | false =>
              have e5 : Hid (τ.late c = τ.line c) := by show τ.late c = _; rw [HLt.out, h32]; rfl
              rw [h32] at a32
              clear HLt h32
              go_enter Tryz.func55, Tryz.ntmps55
              go_wp2_with (first
                | (go_at_call 77; refine (HFl.out _).mono ?_; rintro e W1 ⟨rfl, hg1, hs1⟩; have hR1 := h.same hg1)
                | (go_at_call 52; refine (Has_any _ _ _).mono ?_; rintro e w' ⟨rfl, hw⟩; subst hw)
                | (go_at_call 76; refine (HTf.out _ _ hR1 hs1).mono ?_; clear hR1 hs1; rintro e W2 ⟨rfl, hR2⟩; have hR3 : AtP S0 w0 x b τ W2 := (by rw [HST.out]; exact hR2))
                | (go_at_call 79; refine (HSm.out _).mono ?_; rintro e W4 ⟨rfl, hg4, hs4, k1, k2, k3, hz4⟩; have hR4 := hR3.same hg4; have HZ := hid_of hz4; clear hz4)
                | (go_at_call 76; refine (HTs.out _ _ false hS hR4 HZ.out.symm hs4 k1 k2 k3).mono ?_; clear hR4 hs4; rintro e W5 ⟨rfl, hR5⟩; rw [HSn.out] at hR5)
                | (go_at_call 80; refine (HLm.out _ c).mono ?_; rintro e W6 ⟨rfl, hg6, hs6⟩; have hR6 := hR5.same hg6)
                | (go_at_call 76; refine (HTl.out _ _ c _ rfl hR6 hs6).mono ?_; rintro e W7 ⟨⟨q7, rfl⟩, hR7⟩))
              go_end0
              exact ⟨rfl, by rw [e4.out, e5.out]; exact hR7⟩
          | false =>
            rw [h10] at HLt
            have e5 : Hid (τ.late c = τ.line c) := by show τ.late c = _; rw [HLt.out]; rfl
            clear HLt
            go_enter Tryz.func55, Tryz.ntmps55
            go_wp2_with (first
              | (go_at_call 77; refine (HFl.out _).mono ?_; rintro e W1 ⟨rfl, hg1, hs1⟩; have hR1 := h.same hg1)
              | (go_at_call 52; refine (Has_any _ _ _).mono ?_; rintro e w' ⟨rfl, hw⟩; subst hw)
              | (go_at_call 76; refine (HTf.out _ _ hR1 hs1).mono ?_; clear hR1 hs1; rintro e W2 ⟨rfl, hR2⟩; have hR3 : AtP S0 w0 x b τ W2 := (by rw [HST.out]; exact hR2))
              | (go_at_call 79; refine (HSm.out _).mono ?_; rintro e W4 ⟨rfl, hg4, hs4, k1, k2, k3, hz4⟩; have hR4 := hR3.same hg4; have HZ := hid_of hz4; clear hz4)
              | (go_at_call 76; refine (HTs.out _ _ false hS hR4 HZ.out.symm hs4 k1 k2 k3).mono ?_; clear hR4 hs4; rintro e W5 ⟨rfl, hR5⟩; rw [HSn.out] at hR5)
              | (go_at_call 80; refine (HLm.out _ c).mono ?_; rintro e W6 ⟨rfl, hg6, hs6⟩; have hR6 := hR5.same hg6)
              | (go_at_call 76; refine (HTl.out _ _ c _ rfl hR6 hs6).mono ?_; rintro e W7 ⟨⟨q7, rfl⟩, hR7⟩))
            go_end0
            exact ⟨rfl, by rw [e4.out, e5.out]; exact hR7⟩
end
end Go.Proofs.YtfnglkhhmplejaaGreat
