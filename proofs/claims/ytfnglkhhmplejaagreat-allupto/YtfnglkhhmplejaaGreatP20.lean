/- Walks: the program: a byte becomes urgent; the signals are told. -/
import Derived.Test.YtfnglkhhmplejaaGreatP16
import Derived.Test.YtfnglkhhmplejaaGreatBase2
import Derived.Test.YtfnglkhhmplejaaGreatP9
namespace Go.Proofs.YtfnglkhhmplejaaGreat
open Go Go.RowKit Go.Clk

section
variable (S0 : List Nat) (w0 : World) (x : List Nat) (b : Nat) (σ : St) (w : World) (K : Int)

set_option maxHeartbeats 1000000 in
set_option maxRecDepth 100000 in
theorem PSignals_any (h : AtP S0 w0 x b σ w) :
    Calls Tryz.prog 130 #[.pointer (some ⟨b, 0, none⟩)] w fun e w' => ∃ v o, e = .returned v ∧ Sl w' 3 1 v σ.noted.length (i64s σ.noted) o ∧ (∀ g, o = some g → g ≠ b ∧ g ∉ x ∧ (g ∈ S0 ∨ w0.heap.size ≤ g)) ∧ AtP S0 w0 (o.toList ++ x) b { σ with noted := [] } w' := by
  obtain ⟨vi, vu, vo, vs, hV⟩ := h
  obtain ⟨o, hs, hg, hN⟩ := hV.give_sig
  have hs' := hs.set ⟨b, 26, none⟩ (.slice none 0 0) fun g e => (hg g e).1
  have k24 := hV.c_sig
  have f24 := hV.frozen 26
  have hR := hN.r
  clear hs hV hN
  go_enter Tryz.func130, Tryz.ntmps130
  go_wp2
  go_ret
  exact ⟨vs, o, rfl, hs', hg, hR⟩

set_option maxHeartbeats 1000000 in
set_option maxRecDepth 100000 in
theorem Urge_any (h : AtP S0 w0 x b σ w) (hu : (σ.urg.length : Int) ≤ 2199023255552) (n : Int) (c : UInt8) (hc : (c.toNat : Int) = n) :
    Calls Tryz.prog 117 #[.pointer (some ⟨b, 18, none⟩), .slice (some ⟨w.heap.size, 0, none⟩) 1 1] (w.alloc (.cells #[.int .u8 n] 5)) fun e w' => e = .returned (.tuple #[]) ∧ AtP S0 w0 x b { σ with urg := σ.urg ++ [c] } w' := by
  obtain ⟨i0, hi, hz0, hz1, hz2⟩ := info_parts info_u8
  obtain ⟨vi, vu, vo, vs, hV⟩ := h
  have hlt := hV.lt
  have h' := hV.alloc (.cells #[.int .u8 n] 5)
  obtain ⟨oo, hs, hob, _, hput⟩ := h'.lens_urg
  obtain ⟨a, cap, rfl, hl1, hl2⟩ := hs.shape
  have k19 := h'.c_urg
  have f19 := h'.frozen 18
  have HC : Hid ((c.toNat : Int) = n) := hc
  clear hc
  go_enter Tryz.func117, Tryz.ntmps117
  go_wp2_with (at_builtin; refine wpList_append_sl rfl (.tmp 8) (.tmp 9) 70 33 rfl hs rfl i0 (.int .u8 0) 1 Tryz.underlying70 hi hz0 hz1 hz2 rfl (.slice (some ⟨w.heap.size, 0, none⟩) 1 1) 1 [.int .u8 n] rfl ?src ?b1 ?b2 ?next)
  case src => exact (Sl.made w [.int .u8 n] 1 5 1 rfl (by simp [maxLen])).src Tryz.underlying33 (by intro u hu; simp at hu; subst hu; rfl)
  case b1 => unfold maxLen; omega
  case b2 => omega
  case next =>
    intro a' cap' w1 oz hs1 hg1 ho1
    obtain ⟨q2, q3, hW⟩ := hput w1 (.slice a' (σ.urg.length + 1) cap') (σ.urg ++ [c]) oz hg1 (by rw [bys_app, List.length_append]; show Sl w1 _ 1 _ _ (bys σ.urg ++ [.int .u8 (c.toNat : Int)]) oz; rw [HC.out]; exact hs1) (by rcases ho1 with h1 | ⟨h1, _⟩; exact .inr (.inl h1); exact .inr (.inr ⟨_, h1, by simp⟩))
    clear hput hs hs1 hg1 ho1 h' hV k19 f19
    go_wp2
    go_end0
    exact ⟨rfl, hW.r⟩

set_option maxHeartbeats 1000000 in
set_option maxRecDepth 100000 in
theorem purge_any (h : AtP S0 w0 x b σ w) (ok : Inv K σ) (hK : K ≤ 1099511627776) (k : Nat) (hk : k < 14) (n : Int) (hn : n = (k : Int)) :
    Calls Tryz.prog 86 #[.pointer (some ⟨b, 0, none⟩), .int .i64 n] w fun e w' => e = .returned (.tuple #[]) ∧ AtP S0 w0 x b (σ.urge k) w' := by
  subst hn
  obtain ⟨vi, vu, vo, vs, hV⟩ := h
  have kc : w.cell? ⟨b, 3 + k, none⟩ = some (.int .i64 (σ.ch k)) := hV.head (3 + k) (by omega)
  have hc := ok.s.ch k
  have c0 : 0 ≤ σ.ch k := hc.1
  have c1 : σ.ch k < 256 := hc.2
  have hu := ok.urg
  have hR := hV.r
  have HB : Hid (((UInt8.ofNat (σ.ch k).toNat).toNat : Int) = σ.ch k) := byte_of _ c0 c1
  clear ok hc hV
  by_cases hz : σ.ch k = 0
  · have e1 : σ.urge k = σ := by unfold St.urge; rw [if_pos hz]
    rw [e1]
    rw [hz] at kc
    go_enter Tryz.func86, Tryz.ntmps86
    go_wp2
    go_end0
    exact ⟨rfl, hR⟩
  · have e1 : σ.urge k = { σ with urg := σ.urg ++ [UInt8.ofNat (σ.ch k).toNat] } := by unfold St.urge; rw [if_neg hz]
    rw [e1]
    have hnz : (σ.ch k != 0) = true := by simpa using hz
    have hm : σ.ch k % 256 = σ.ch k := Int.emod_eq_of_lt c0 c1
    go_enter Tryz.func86, Tryz.ntmps86
    go_wp2_with (go_at_call 117; refine (Urge_any S0 w0 x b σ w hR (by omega) _ _ HB.out).mono ?_; rintro e w' ⟨rfl, hW⟩)
    go_end0
    exact ⟨rfl, hW⟩
end
end Go.Proofs.YtfnglkhhmplejaaGreat
namespace Go.Proofs.YtfnglkhhmplejaaGreat
open Go Go.RowKit Go.Clk

section
variable (S0 : List Nat) (w0 : World) (x : List Nat) (b : Nat) (σ : St) (w : World) (K : Int)

set_option maxHeartbeats 2000000 in
set_option maxRecDepth 100000 in
theorem Forget_any (h : AtP S0 w0 x b σ w) (hil : σ.inq.length ≤ 256) :
    Calls Tryz.prog 74 #[.pointer (some ⟨b, 17, none⟩)] w fun e w' => e = .returned (.tuple #[]) ∧ AtP S0 w0 x b { σ with inq := St.forget σ.inq } w' := by
  obtain ⟨t0, hti, htz0, htz1, htz2⟩ := info_parts info_pent
  obtain ⟨vi, vu, vo, vs, hV⟩ := h
  obtain ⟨oi, hsi, _, _, _⟩ := hV.lens_in
  obtain ⟨ai, ci, rfl, hl1, hl2⟩ := hsi.shape
  have k17 := hV.c_in
  clear hsi
  go_enter Tryz.func74, Tryz.ntmps74
  go_wp2_with fail
  go_loopg [2, 4, 9] σ.inq.length (fun k lv pv iv wz => ∃ (j ℓ : Nat) (a : Option Addr) (cap : Nat) (ol : Option Nat), j + k = σ.inq.length ∧ lv = .slice a ℓ cap ∧ iv = .int .i64 j ∧ Sl wz 112 4 (.slice a ℓ cap) ℓ (pents (St.forget (σ.inq.take j))) ol ∧ (∀ g, ol = some g → w0.heap.size ≤ g ∧ g ∉ x) ∧
    PV S0 w0 (ol.toList ++ x) b σ (.slice ai σ.inq.length ci) vu vo vs wz ∧ ℓ ≤ j)
  case atStart => exact ⟨0, 0, none, 0, none, by omega, rfl, rfl, Sl.nil _ _ _, (fun g h => by cases h), hV, by omega⟩
  case round =>
    clear hV k17
    obtain ⟨j, ℓ, a, cap, ol, hj, rfl, rfl, hsl, hol, hY, hℓ⟩ := hrel
    obtain ⟨oi, hsi, _, _, _⟩ := hY.lens_in
    have z17 := hY.c_in
    by_cases hlt : j < σ.inq.length
    · obtain ⟨ug, uoff, uc, he, rfl⟩ := hsi.addr (by omega)
      cases he
      have HT : Hid (σ.inq.take (j + 1) = σ.inq.take j ++ [σ.inq[j]]) := List.take_succ_eq_append_getElem hlt
      obtain ⟨en, hen⟩ : ∃ en, σ.inq[j] = en := ⟨_, rfl⟩
      rw [hen] at HT
      have zb := (hsi.cells rfl (j * 4 + 0) (u := .int .u8 (en.b.toNat : Int)) (by rw [pents_get σ.inq j hlt 0 (by omega), hen]; rfl)).1
      have zf := (hsi.cells rfl (j * 4 + 1) (u := .bool en.file) (by rw [pents_get σ.inq j hlt 1 (by omega), hen]; rfl)).1
      have ze := (hsi.cells rfl (j * 4 + 2) (u := .bool en.fin) (by rw [pents_get σ.inq j hlt 2 (by omega), hen]; rfl)).1
      have zc := (hsi.cells rfl (j * 4 + 3) (u := .int .i64 en.cells) (by rw [pents_get σ.inq j hlt 3 (by omega), hen]; rfl)).1
      simp only [← Nat.add_assoc, Nat.add_zero] at zb zf ze zc
      clear hsi hen
      go_wp2_with (refine wpList_store_whole rfl (.tmp 4) (.tmp 12) 112 rfl wr.heap.size rfl [.int .u8 en.b.toNat, .bool en.file, .bool en.fin, .int .i64 en.cells] rfl 112 [.int .u8 0, .bool false, .bool false, .int .i64 0] (Blk.new wr _ _) rfl rfl (by intro u hu; simp at hu; rcases hu with rfl | rfl | rfl | rfl <;> rfl) ?_)
      intro W hbk hgW hsz
      have hY1 : PV S0 w0 (wr.heap.size :: (ol.toList ++ x)) b σ (.slice (some ⟨ug, uoff, none⟩) σ.inq.length ci) vu vo vs W := by
        have h0 := hY.boxed (.cells #[.int .u8 0, .bool false, .bool false, .int .i64 0] 112)
        exact ⟨h0.1, h0.2.grown hgW fun g e => by cases e; exact ⟨by simp, hY.2.kp.size⟩⟩
      have hs1 : Sl W 112 4 (.slice a ℓ cap) ℓ (pents (St.forget (σ.inq.take j))) ol := by
        have h0 := hsl.alloc (.cells #[.int .u8 0, .bool false, .bool false, .int .i64 0] 112)
        obtain ⟨_, _, _, _, hb⟩ := hgW
        exact h0.same fun g e => hb g (h0.lt e) (by have := hsl.lt e; intro hc; cases hc; omega)
      have hlW := hbk.lt
      have b0 := hbk.cell 0 rfl
      have b1 := hbk.cell 1 rfl
      have hk0 := hY.2.kp.size
      have hbel : ∀ g, g ∈ x → g < W.heap.size := fun g hg => hY1.2.below (by simp [hg])
      have hY2 : PV S0 w0 (ol.toList ++ x) b σ (.slice (some ⟨ug, uoff, none⟩) σ.inq.length ci) vu vo vs W := hY1.weaken fun g hg => by simp at hg ⊢; exact .inr hg
      have hWs : w0.heap.size ≤ W.heap.size := hY2.2.kp.size
      clear hY hsl hgW hsz hY1 zb zf ze zc z17 hbk
      cases hfile : en.file with
      | true =>
        rw [hfile] at b1
        have HF : Hid (St.forget (σ.inq.take (j + 1)) = St.forget (σ.inq.take j)) := by show St.forget (σ.inq.take (j + 1)) = _; rw [HT.out, forget_snoc_file _ _ hfile]
        clear HT
        go_wp2
        go_roundg (gk - 1)
        case measure => omega
        case rel => exact ⟨j + 1, ℓ, a, cap, ol, by omega, rfl, by go_num, by rw [HF.out]; exact hs1, hol, hY2, by omega⟩
      | false =>
        rw [hfile] at b1
        have HF : Hid (St.forget (σ.inq.take (j + 1)) = St.forget (σ.inq.take j) ++ [⟨en.b, false, false, 0⟩]) := by show St.forget (σ.inq.take (j + 1)) = _; rw [HT.out, forget_snoc_byte _ _ hfile]
        have hY3 := hY2.alloc (.cells #[.int .u8 en.b.toNat, .bool false, .bool false, .int .i64 0] 112)
        have hs2 := hs1.alloc (.cells #[.int .u8 en.b.toNat, .bool false, .bool false, .int .i64 0] 112)
        clear HT hY2 hs1
        go_wp2_with (at_builtin; refine wpList_append_sl rfl (.tmp 16) (.tmp 20) 69 69 rfl hs2 rfl t0 _ 16 Tryz.underlying69 hti htz0 htz1 htz2 rfl (.slice (some ⟨W.heap.size, 0, none⟩) 1 1) 1 [.int .u8 en.b.toNat, .bool false, .bool false, .int .i64 0] rfl ?srca ?b1a ?b2a ?nexta)
        case srca => exact (Sl.made W [.int .u8 en.b.toNat, .bool false, .bool false, .int .i64 0] 1 112 4 rfl (by simp [maxLen])).src Tryz.underlying69 (by intro u hu; simp at hu; rcases hu with rfl | rfl | rfl | rfl <;> rfl)
        case b1a => unfold maxLen; omega
        case b2a => omega
        case nexta =>
          intro a1 cap1 w1 ol1 hs4 hg1 ho1
          have hY4 := hY3.local (x := x) hg1 (ol' := ol1) (by simpa using ho1) (fun g h => (hol g h).1)
          have hol1 : ∀ g, ol1 = some g → w0.heap.size ≤ g ∧ g ∉ x := by
            intro g h
            rcases ho1 with h1 | ⟨h1, _⟩
            · exact hol g (by rw [← h1, h])
            · rw [h1] at h; cases h
              refine ⟨by first | omega | (simp; omega), fun hc => ?_⟩
              have := hbel _ hc
              first | omega | (simp at this; omega)
          clear hY3 hs2 hol ho1 hg1 hbel b0 b1
          go_wp2
          go_roundg (gk - 1)
          case measure => omega
          case rel => exact ⟨j + 1, ℓ + 1, a1, cap1, ol1, by omega, rfl, by go_num, by rw [HF.out, pents_app]; exact hs4, hol1, hY4, by omega⟩
    · have HT : Hid (St.forget (σ.inq.take j) = St.forget σ.inq) := by show St.forget (σ.inq.take j) = _; rw [List.take_of_length_le (by omega)]
      rw [HT.out] at hsl
      have hlen : ℓ = (St.forget σ.inq).length := by have := hsl.1; rw [pents_len] at this; omega
      subst hlen
      have hZ := hY.adopt_in (.slice a (St.forget σ.inq).length cap) (St.forget σ.inq) ol x hsl (fun g h => ⟨by simp [h], .inr (hol g h).1, (hol g h).2⟩) (fun z hz => by simp [hz])
      have f17 := hY.frozen 17
      have hR := hZ.r
      clear hZ hY hsl hol hsi HT
      go_wp2
      go_end0
      exact ⟨rfl, hR⟩
end
end Go.Proofs.YtfnglkhhmplejaaGreat
namespace Go.Proofs.YtfnglkhhmplejaaGreat
open Go Go.RowKit Go.Clk

theorem i64_xor_nat (a b : Nat) (ha : a < 8192) (hb : b < 8192) : bits .xor .i64 (a : Int) (b : Int) = ((a ^^^ b : Nat) : Int) := by
  have hx : a ^^^ b < 2 ^ 13 := Nat.xor_lt_two_pow (by omega) (by omega)
  have e1 : ∀ n : Nat, n < 8192 → (BitVec.ofInt 64 (n : Int)).toNat = n := fun n hn => by
    rw [BitVec.ofInt_natCast, BitVec.toNat_ofNat]; exact Nat.mod_eq_of_lt (by omega)
  show IntKind.i64.wrap ((BitVec.ofInt 64 (a : Int) ^^^ BitVec.ofInt 64 (b : Int)).toNat : Int) = _
  rw [BitVec.toNat_xor, e1 a ha, e1 b hb]
  exact wrap_small _ (by omega) (by omega)
theorem bit2_nat (a : Nat) : bit (a : Int) 2 = a.testBit 1 := by
  unfold bit
  rw [Nat.testBit_eq_decide_div_mod_eq]
  have e : ((a : Int) / 2 % 2) = ((a / 2 % 2 : Nat) : Int) := by omega
  rw [e]
  have h1 : a / 2 ^ 1 = a / 2 := by simp
  rw [h1, Bool.eq_iff_iff]
  simp
  omega
theorem xor_two (a b : Int) (a0 : 0 ≤ a) (a1 : a < 8192) (b0 : 0 ≤ b) (b1 : b < 8192) : hasB (bits .xor .i64 a b) 2 = (bit a 2 ^^ bit b 2) := by
  obtain ⟨A, rfl⟩ := Int.eq_ofNat_of_zero_le a0
  obtain ⟨B, rfl⟩ := Int.eq_ofNat_of_zero_le b0
  have hx : A ^^^ B < 2 ^ 13 := Nat.xor_lt_two_pow (by omega) (by omega)
  rw [i64_xor_nat A B (by omega) (by omega), has2 _ (by omega) (by omega), bit2_nat, Nat.testBit_xor, ← bit2_nat, ← bit2_nat]

theorem lit17 (s : List Int) (hs : s.length = 17) : i64s s = [.int .i64 (gt s 0), .int .i64 (gt s 1), .int .i64 (gt s 2), .int .i64 (gt s 3), .int .i64 (gt s 4), .int .i64 (gt s 5), .int .i64 (gt s 6), .int .i64 (gt s 7), .int .i64 (gt s 8), .int .i64 (gt s 9), .int .i64 (gt s 10), .int .i64 (gt s 11), .int .i64 (gt s 12), .int .i64 (gt s 13), .int .i64 (gt s 14), .int .i64 (gt s 15), .int .i64 (gt s 16)] := by
  match s, hs with
  | [a0, a1, a2, a3, a4, a5, a6, a7, a8, a9, a10, a11, a12, a13, a14, a15, a16], _ => rfl

theorem PV.s_all {S0 : List Nat} {w0 w : World} {x : List Nat} {b : Nat} {σ : St} {vi vu vo vs : Value} (h : PV S0 w0 x b σ vi vu vo vs w) (s : List Int) (hs : s.length = 17) : PV S0 w0 x b { σ with ss := s } vi vu vo vs (w.setCells b 0 (i64s s)) := by
  have h3 := h.2.sets (i64s s) 0
  have h4 : setAll (i64s σ.ss ++ ptl σ vi vu vo vs) 0 (i64s s) = i64s s ++ ptl σ vi vu vo vs := setAll_mid (i64s s) [] (i64s σ.ss) (ptl σ vi vu vo vs) (by rw [i64s_len, i64s_len, hs, h.1])
  rw [h4] at h3
  exact ⟨hs, h3⟩

/-- The settings are changed; those that come are clean already. -/
def chg (σ : St) (s : List Int) : St := { σ with ss := s, inq := if bit σ.l 2 = bit (gt s 2) 2 then σ.inq else St.forget σ.inq, quoted := bit (gt s 2) 2 && σ.quoted }

section
variable (S0 : List Nat) (w0 : World) (x : List Nat) (b : Nat) (σ : St) (w : World)

set_option maxHeartbeats 2000000 in
set_option maxRecDepth 100000 in
theorem change_any (h : AtP S0 w0 x b σ w) (hil : σ.inq.length ≤ 256) (l0 : 0 ≤ σ.l) (l1 : σ.l < 8192) (s : List Int) (hs : s.length = 17) (s0 : 0 ≤ gt s 2) (s1 : gt s 2 < 8192) :
    Calls Tryz.prog 50 #[.pointer (some ⟨b, 0, none⟩), .agg (i64s s).toArray] w fun e w' => e = .returned (.tuple #[]) ∧ AtP S0 w0 x b (chg σ s) w' := by
  obtain ⟨vi, vu, vo, vs, hV⟩ := h
  have hx2 := xor_two (gt s 2) σ.l s0 s1 l0 l1
  have ha2 := has2 (gt s 2) s0 s1
  have hlen : (i64s s).length = 17 := by rw [i64s_len, hs]
  have hi : (Tryz.prog.info? 29).map (·.size) = some (i64s s).length := by rw [hlen]; exact size_settings
  go_enter Tryz.func50, Tryz.ntmps50
  go_wp2_with (refine wpList_box rfl (.tmp 1) 29 rfl (i64s s) rfl ?_)
  intro W B hid
  have hB : PV S0 w0 (B :: x) b σ vi vu vo vs W := by obtain ⟨rfl, rfl⟩ := hid.out; exact hV.boxed _
  have hblk : Blk W B 29 (i64s s) := by obtain ⟨rfl, rfl⟩ := hid.out; exact Blk.new w _ _
  have hne : B ≠ b := hB.2.ne (by simp)
  have b2 : W.cell? ⟨B, 2, none⟩ = some (.int .i64 (gt s 2)) := hblk.cell 2 (by simp [i64s, gt, List.getD, List.getElem?_eq_getElem (show 2 < s.length by omega)])
  have k2 := hB.cl
  clear hid hV
  go_wp2_with fail
  go_cut [12] (fun s12 wx => s12 = .bool (bit (gt s 2) 2 ^^ bit σ.l 2) ∧ AtP S0 w0 (B :: x) b σ wx ∧ Blk wx B 29 (i64s s))
  case first =>
    have hm1 : AtP S0 w0 (B :: x) b σ W.drew := (hB.drew).r
    have hm2 : Blk W.drew B 29 (i64s s) := hblk
    go_region_with (go_at_call 52; refine (Has_any _ _ _).mono ?_; rintro e w' ⟨rfl, rfl⟩)
    all_goals (go_wp2_with fail; go_meet; exact ⟨rfl, hm1, hm2⟩)
  case rest =>
  clear hB hblk b2 k2 hx2
  obtain ⟨rfl, hR, hblk⟩ := hcut
  by_cases hsame : bit σ.l 2 = bit (gt s 2) 2
  · have hd : (bit (gt s 2) 2 ^^ bit σ.l 2) = false := by rw [hsame]; simp
    have HI : Hid (chg σ s = { σ with ss := s, quoted := bit (gt s 2) 2 && σ.quoted }) := by show chg σ s = _; unfold chg; rw [if_pos hsame]
    rw [hd]
    clear hd hsame
    obtain ⟨vi, vu, vo, vs, hD⟩ := hR
    have hDb := hblk
    have d2 := hDb.cell 2 (v := .int .i64 (gt s 2)) (by simp [i64s, gt, List.getD, List.getElem?_eq_getElem (show 2 < s.length by omega)])
    clear hblk
    cases hq : bit (gt s 2) 2
    · rw [hq] at ha2
      have k23 := hD.c_quo
      have f23 := hD.frozen 28
      have hO := hD.s_quo false
      have hOb := hDb.other ⟨b, 28, none⟩ (.bool false) hne
      clear hD hDb
      go_wp2_with (first | (go_at_call 52; refine (Has_any _ _ _).mono ?_; rintro e w' ⟨rfl, hw⟩; have hw := hw.symm; subst hw) | refine wpList_load_part rfl (.tmp 3) 29 rfl B 0 rfl (i64s s) _ ?hcpa Tryz.underlying29 rfl hi ?nextpa | refine wpList_store_part rfl (.tmp 27) (.tmp 25) 29 rfl b 0 rfl (i64s s) rfl 76 _ hO.2.blk ?hlpa hi (i64s_one _) ?_)
      case hcpa =>
        intro j v hv
        rw [Nat.zero_add]
        exact hOb.cell j hv
      case hlpa => have h17 : σ.ss.length = 17 := hO.1; first | (simp only [i64s_len]; omega) | (simp only [List.length_append, i64s_len]; omega)
      intro W2 hW2
      have hE := (hO.s_all s hs).r
      rw [← hW2.out] at hE
      clear hW2 hO hOb
      go_wp2
      go_end0
      have hE2 := hE.weaken (y := x) (fun g hg => by simp [hg])
      exact ⟨rfl, by rw [HI.out, hq]; exact hE2⟩
    · rw [hq] at ha2
      have hO := hD
      have hOb := hDb
      clear hD hDb
      go_wp2_with (first | (go_at_call 52; refine (Has_any _ _ _).mono ?_; rintro e w' ⟨rfl, hw⟩; have hw := hw.symm; subst hw) | refine wpList_load_part rfl (.tmp 3) 29 rfl B 0 rfl (i64s s) _ ?hcpb Tryz.underlying29 rfl hi ?nextpb | refine wpList_store_part rfl (.tmp 27) (.tmp 25) 29 rfl b 0 rfl (i64s s) rfl 76 _ hO.2.blk ?hlpb hi (i64s_one _) ?_)
      case hcpb =>
        intro j v hv
        rw [Nat.zero_add]
        exact hOb.cell j hv
      case hlpb => have h17 : σ.ss.length = 17 := hO.1; first | (simp only [i64s_len]; omega) | (simp only [List.length_append, i64s_len]; omega)
      intro W2 hW2
      have hE := (hO.s_all s hs).r
      rw [← hW2.out] at hE
      clear hW2 hO hOb
      go_wp2
      go_end0
      have hE2 := hE.weaken (y := x) (fun g hg => by simp [hg])
      exact ⟨rfl, by rw [HI.out, hq]; exact hE2⟩
  · have hd : (bit (gt s 2) 2 ^^ bit σ.l 2) = true := by revert hsame; cases bit (gt s 2) 2 <;> cases bit σ.l 2 <;> simp
    have HI : Hid (chg σ s = { σ with ss := s, inq := St.forget σ.inq, quoted := bit (gt s 2) 2 && σ.quoted }) := by show chg σ s = _; unfold chg; rw [if_neg hsame]
    rw [hd]
    clear hd hsame
    obtain ⟨S, hSR, hS1, hS2, hS3, hback⟩ := hR.rebase
    have hBS : B ∉ S := hS2 B (by simp)
    go_wp2_with fail
    refine (Forget_any S _ (B :: x) b σ _ hSR hil).mono ?_
    rintro r V ⟨rfl, hE⟩
    have hDb := hE.kp.blk hblk hBS
    obtain ⟨vi, vu, vo, vs, hD⟩ := hback _ _ hE
    clear hback hE hSR hS1 hS2 hS3 hBS hR hblk
    have d2 := hDb.cell 2 (v := .int .i64 (gt s 2)) (by simp [i64s, gt, List.getD, List.getElem?_eq_getElem (show 2 < s.length by omega)])
    cases hq : bit (gt s 2) 2
    · rw [hq] at ha2
      have k23 := hD.c_quo
      have f23 := hD.frozen 28
      have hO := hD.s_quo false
      have hOb := hDb.other ⟨b, 28, none⟩ (.bool false) hne
      clear hD hDb
      go_wp2_with (first | (go_at_call 52; refine (Has_any _ _ _).mono ?_; rintro e w' ⟨rfl, hw⟩; have hw := hw.symm; subst hw) | refine wpList_load_part rfl (.tmp 3) 29 rfl B 0 rfl (i64s s) _ ?hcqa Tryz.underlying29 rfl hi ?nextqa | refine wpList_store_part rfl (.tmp 27) (.tmp 25) 29 rfl b 0 rfl (i64s s) rfl 76 _ hO.2.blk ?hlqa hi (i64s_one _) ?_)
      case hcqa =>
        intro j v hv
        rw [Nat.zero_add]
        exact hOb.cell j hv
      case hlqa => have h17 : σ.ss.length = 17 := hO.1; first | (simp only [i64s_len]; omega) | (simp only [List.length_append, i64s_len]; omega)
      intro W2 hW2
      have hE := (hO.s_all s hs).r
      rw [← hW2.out] at hE
      clear hW2 hO hOb
      go_wp2
      go_end0
      have hE2 := hE.weaken (y := x) (fun g hg => by simp [hg])
      exact ⟨rfl, by rw [HI.out, hq]; exact hE2⟩
    · rw [hq] at ha2
      have hO := hD
      have hOb := hDb
      clear hD hDb
      go_wp2_with (first | (go_at_call 52; refine (Has_any _ _ _).mono ?_; rintro e w' ⟨rfl, hw⟩; have hw := hw.symm; subst hw) | refine wpList_load_part rfl (.tmp 3) 29 rfl B 0 rfl (i64s s) _ ?hcqb Tryz.underlying29 rfl hi ?nextqb | refine wpList_store_part rfl (.tmp 27) (.tmp 25) 29 rfl b 0 rfl (i64s s) rfl 76 _ hO.2.blk ?hlqb hi (i64s_one _) ?_)
      case hcqb =>
        intro j v hv
        rw [Nat.zero_add]
        exact hOb.cell j hv
      case hlqb => have h17 : σ.ss.length = 17 := hO.1; first | (simp only [i64s_len]; omega) | (simp only [List.length_append, i64s_len]; omega)
      intro W2 hW2
      have hE := (hO.s_all s hs).r
      rw [← hW2.out] at hE
      clear hW2 hO hOb
      go_wp2
      go_end0
      have hE2 := hE.weaken (y := x) (fun g hg => by simp [hg])
      exact ⟨rfl, by rw [HI.out, hq]; exact hE2⟩
end
end Go.Proofs.YtfnglkhhmplejaaGreat
