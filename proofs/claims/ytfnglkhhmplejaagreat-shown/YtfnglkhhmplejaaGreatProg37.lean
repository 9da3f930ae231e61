/- Walks: the program: the line is shown anew. -/
import Derived.Test.YtfnglkhhmplejaaGreatProg36
namespace Go.Clk
open Go Go.RowKit
theorem hid_of {p : Prop} (h : p) : Hid p := h
theorem wpList_cutA {P : Program} {w : World} {ops : Array Oper} {rest : List Oper} {op : Oper} {act : Act} {Q : Exit → Act → World → Prop} (hgd : op.guard = none) (x : Operand) (lo : Operand) (t : TypeId)
    (hop : op.op = .slice t x (some lo) none none) {e : TypeId} {size : Nat} (i : TypeInfo) (ht : P.underlying t = some (.slice e)) (hi : P.info? e = some i) (hsize : i.size = size)
    {a : Option Addr} {n cap : Nat} {xs : List Value} {o : Option Nat} (hx : act.eval x = .slice a n cap) (h : Sl w e size (.slice a n cap) n xs o) (k : Int) (hlo : act.eval lo = .int .i64 k) (hk0 : 0 ≤ k) (hk : k ≤ n)
    (hK : ∀ a' cap', (∀ g off, a = some ⟨g, off, none⟩ → k.toNat < cap → a' = some ⟨g, off + k.toNat * size, none⟩) → Sl w e size (.slice a' (n - k.toNat) cap') (n - k.toNat) (xs.drop (k.toNat * size)) o → wpList P ops Q rest (act.put op.dst (.slice a' (n - k.toNat) cap')) w) : wpList P ops Q (op :: rest) act w := by
  refine wpList_plain hgd fun K hK' => ?_
  have h1 := h.cut k.toNat (by omega)
  obtain ⟨_, _, _, hnc, hcm⟩ := h.shape
  unfold Oper.wp
  have hr : (Instr.sliceAt t (.slice a n cap) (some (.int .i64 k)) none none).run P w = .ok (.slice (if cap = k.toNat then a else a.map (·.add (k.toNat * size))) (n - k.toNat) (cap - k.toNat)) w := by
    have hle : k ≤ (n : Int) := hk
    simp [Instr.sliceAt, Instr.slice, run_underlying ht, Instr.sliceBounds, Instr.sliceBound, asIntOf, hk0, hle, sizeOf, typeInfo, hi, hsize]
  simp [execOp, hop, hx, hlo, hr, Result.andThen]
  refine hK' _ _ (hK _ _ ?_ h1)
  rintro g off rfl hlt
  rw [if_neg (by omega)]
  simp [Addr.add_lit]
end Go.Clk
namespace Go.Proofs.YtfnglkhhmplejaaGreat
open Go Go.RowKit Go.Clk
section
variable (S0 : List Nat) (w0 : World) (x : List Nat) (b : Nat) (σ : St) (w : World) (K : Int)

set_option maxHeartbeats 1000000 in
set_option maxRecDepth 100000 in
theorem Pending_at (v : Value) (l : List Ent) (o : Option Nat) (hs : Sl w 112 4 v l.length (pents l) o) (hl : l.length ≤ 256) :
    Calls Tryz.prog 138 #[v] w fun e w' => w' = w ∧ ∃ a cap, e = .returned (.slice a (pend l) cap) ∧ Sl w 112 4 (.slice a (pend l) cap) (pend l) (pents (l.drop (l.length - pend l))) o ∧ (∀ g off ci, v = .slice (some ⟨g, off, none⟩) l.length ci → 0 < pend l → a = some ⟨g, off + (l.length - pend l) * 4, none⟩) := by
  obtain ⟨t0, hti, htz0, htz1, htz2⟩ := info_parts info_pent
  obtain ⟨ai, ci, rfl, hl1, hl2⟩ := hs.shape
  have hpl := pend_le l
  have HP : Hid (∀ (j q : Nat) (h : q < l.length), j < pend l → q + 1 + j = l.length → l[q].fin = false) := fun j q _ hj hq => pend_in l j q hj hq
  have HQ : Hid (∀ (q : Nat) (h : q < l.length), q + 1 + pend l = l.length → l[q].fin = true) := fun q _ hq => pend_end l q hq
  obtain ⟨p, hp⟩ : ∃ p, pend l = p := ⟨_, rfl⟩
  rw [hp] at hpl HP HQ ⊢
  have HS : Hid (Sl w 112 4 (.slice ai l.length ci) l.length (pents l) o) := hs
  clear hp
  go_enter Tryz.func138, Tryz.ntmps138
  go_wp2_with fail
  go_loopg [3] p (fun k fv wr => ∃ (f j : Nat), f + j = l.length ∧ j + k = p ∧ fv = .int .i64 f ∧ wr = w)
  case atStart => exact ⟨l.length, 0, by omega, by omega, rfl, rfl⟩
  case round =>
    obtain ⟨f, j, hf, hj, rfl, rfl⟩ := hrel
    have fin : ∀ q : Nat, q + p = l.length → ∀ a' cap', Sl wr 112 4 (.slice a' (l.length - q) cap') (l.length - q) ((pents l).drop (q * 4)) o → Sl wr 112 4 (.slice a' p cap') p (pents (l.drop (l.length - p))) o := by
      intro q hq a' cap' h
      have e1 : l.length - q = p := by omega
      have e2 : l.length - p = q := by omega
      rw [e1] at h
      rw [e2, pents_drop]; exact h
    have HFin : Hid (∀ q : Nat, q + p = l.length → ∀ a' cap', Sl wr 112 4 (.slice a' (l.length - q) cap') (l.length - q) ((pents l).drop (q * 4)) o → Sl wr 112 4 (.slice a' p cap') p (pents (l.drop (l.length - p))) o) := fin
    clear fin
    by_cases hz : 0 < f
    · obtain ⟨q, rfl⟩ : ∃ q, f = q + 1 := ⟨f - 1, by omega⟩
      have hql : q < l.length := by omega
      obtain ⟨ug, uoff, uc, he, rfl⟩ := hs.addr (by omega)
      cases he
      have kc := (hs.cells rfl (q * 4 + 2) (u := .bool l[q].fin) (by rw [pents_get l q hql 2 (by omega)]; rfl)).1
      simp only [← Nat.add_assoc] at kc
      by_cases hjp : j < p
      · rw [HP.out j q hql hjp (by omega)] at kc
        clear HP HQ
        go_wp2
        go_roundg (gk - 1)
        case measure => omega
        case rel => exact ⟨q, j + 1, by omega, by omega, by go_num, rfl⟩
      · obtain rfl : j = p := by omega
        rw [HQ.out q hql (by omega)] at kc
        clear HP HQ
        go_wp2_with (refine wpList_cutA rfl (.tmp 19) (.tmp 20) 69 rfl t0 Tryz.underlying69 hti htz1 rfl HS.out ((q + 1 : Nat) : Int) (by first | rfl | simp [Act.eval]) (by omega) (by omega) ?_)
        intro a2 cap2 hA hs2
        have HA := hid_of hA
        clear hA
        have hfin := HFin.out (q + 1) (by omega) a2 cap2 (by simpa using hs2)
        clear hs2 HFin
        go_wp2
        go_ret
        exact ⟨rfl, a2, cap2, by rw [show j = l.length - (q + 1) by omega]; rfl, hfin, fun g off c e h0 => by cases e; have := HA.out (by omega); rw [this, show l.length - j = q + 1 by omega]⟩
    · obtain rfl : f = 0 := by omega
      obtain rfl : j = p := by omega
      clear HP HQ
      go_wp2_with (refine wpList_cutA rfl (.tmp 19) (.tmp 20) 69 rfl t0 Tryz.underlying69 hti htz1 rfl HS.out 0 (by first | rfl | simp [Act.eval]) (by omega) (by omega) ?_)
      intro a2 cap2 hA hs2
      have HA := hid_of hA
      clear hA
      have hfin := HFin.out 0 (by omega) a2 cap2 (by simpa using hs2)
      clear hs2 HFin
      go_wp2
      go_ret
      exact ⟨rfl, a2, cap2, by rw [show j = l.length by omega]; rfl, hfin, fun g off c e h0 => by cases e; have := HA.out g off rfl (by omega); rw [this]; simp; try omega⟩

set_option maxHeartbeats 2000000 in
set_option maxRecDepth 100000 in
theorem reprint_any (h : AtP S0 w0 x b σ w) (ok : Inv K σ) (hK : K ≤ 1099511627776) (c : UInt8) (ci : Int) (hc : ci = (c.toNat : Int)) :
    Calls Tryz.prog 112 #[.pointer (some ⟨b, 0, none⟩), .int .u8 ci] w fun e w' => e = .returned (.tuple #[]) ∧ AtP S0 w0 x b (σ.reprint c) w' := by
  subst hc
  have HR : Hid (σ.reprint c = St.reps (pend σ.inq) (σ.inq.length - pend σ.inq) ((σ.echo1 c).put [10]).1) := rfl
  have hq : ((σ.echo1 c).put [10]).1.inq = σ.inq := by
    obtain ⟨o1, k1, e1⟩ := put_frame (σ.echo1 c) [10]
    obtain ⟨o2, k2, e2⟩ := echo1_frame σ c
    rw [e1, e2]
  have ok1 := ok.echo1 c
  have ok2 := ok1.put [10]
  obtain ⟨τ0, hτ0⟩ : ∃ τ0, ((σ.echo1 c).put [10]).1 = τ0 := ⟨_, rfl⟩
  have hech := PEcho_any S0 w0 x b σ w K h ok hK c _ rfl
  have HPN : Hid (∀ W, AtP S0 w0 x b (σ.echo1 c) W → Calls Tryz.prog 60 #[.pointer (some ⟨b, 0, none⟩), .slice (some ⟨W.heap.size, 0, none⟩) 1 1] (W.alloc (.cells #[.int .u8 10] 5)) fun e w' => e = .returned (.bool ((σ.echo1 c).put [10]).2) ∧ AtP S0 w0 x b τ0 w') := by
    intro W hW; rw [← hτ0]; exact putOut_new S0 w0 x b _ W K hW ok1 hK [10] (by simp) _ rfl 1 rfl
  rw [hτ0] at HR hq ok2
  rw [← hq] at HR
  clear hτ0 hq ok ok1 h
  have hil := ok2.inq
  have hpl := pend_le τ0.inq
  go_enter Tryz.func112, Tryz.ntmps112
  go_wp2_with (go_at_call 103; refine hech.mono ?_; rintro e W1 ⟨rfl, hW1⟩)
  refine (HPN.out W1 hW1).mono ?_
  rintro e W2 ⟨rfl, hW2⟩
  obtain ⟨vi, o, kin, hsi, hgo, hQ⟩ := hW2.held
  obtain ⟨ai, cc, rfl, hl1, hl2⟩ := hsi.shape
  have hpd := Pending_at W2 _ τ0.inq o hsi hil
  obtain ⟨p, hp⟩ : ∃ p, pend τ0.inq = p := ⟨_, rfl⟩
  rw [hp] at hpd hpl HR
  obtain ⟨L, hL⟩ : ∃ L, τ0.inq.length = L := ⟨_, rfl⟩
  rw [hL] at hpl HR hil hl1
  have HSI : Hid (Sl W2 112 4 (.slice ai τ0.inq.length cc) τ0.inq.length (pents τ0.inq) o) := hsi
  have HL : Hid (τ0.inq.length = L) := hL
  clear hp hech HPN hW1 hW2 hsi hL
  go_wp2_with (go_at_call 138; refine hpd.mono ?_; rintro e W ⟨hw, a, cap, rfl, hs2, haddr⟩; subst hw)
  obtain ⟨m, hm⟩ : ∃ m, L - p = m := ⟨_, rfl⟩
  have hmp : m + p = L := by omega
  have HAD : Hid (∀ g off, ai = some ⟨g, off, none⟩ → 0 < p → a = some ⟨g, off + m * 4, none⟩) := fun g off e h0 => by
    have := haddr g off cc (by rw [e]) h0
    rw [HL.out, hm] at this; exact this
  rw [hm] at HR
  clear haddr hpd hs2 kin hm
  go_loopg [5, 19] p (fun k _ iv wr => ∃ (j : Nat) (τ : St), j + k = p ∧ iv = .int .i64 j ∧ AtQ S0 w0 (o.toList ++ x) b { τ with inq := [] } (.slice ai τ0.inq.length cc) (.slice none 0 0) wr ∧ Sl wr 112 4 (.slice ai τ0.inq.length cc) τ0.inq.length (pents τ.inq) o ∧ Hid (τ.inq.length = L) ∧ Hid (Inv K τ) ∧ Hid (St.reps p m τ0 = St.reps (p - j) (m + j) τ))
  case atStart => exact ⟨0, τ0, by omega, rfl, hQ, HSI.out, HL, ok2, rfl⟩
  case round =>
    clear hQ HSI
    obtain ⟨j, τ, hj, rfl, hQ, hs, hτl, okτ, hreps⟩ := hrel
    by_cases hlt : j < p
    · have hL0 : 0 < τ0.inq.length := by have := HL.out; omega
      have hql : m + j < τ.inq.length := by have := hτl.out; omega
      obtain ⟨ug, uoff, uc, he, rfl⟩ := hs.addr hL0
      cases he
      have ha := HAD.out ug uoff rfl (by omega)
      subst ha
      obtain ⟨en, hen⟩ : ∃ en, τ.inq[m + j] = en := ⟨_, rfl⟩
      have HEn : Hid (τ.inq[m + j]? = some en) := by show τ.inq[m + j]? = some en; rw [List.getElem?_eq_getElem hql, hen]
      have zb : wr.cell? ⟨ug, uoff + m * 4 + j * 4, none⟩ = some (.int .u8 (en.b.toNat : Int)) := by
        have := (hs.cells rfl ((m + j) * 4 + 0) (u := .int .u8 (en.b.toNat : Int)) (by rw [pents_get τ.inq (m + j) hql 0 (by omega), hen]; rfl)).1
        rw [show uoff + m * 4 + j * 4 = uoff + ((m + j) * 4 + 0) by omega]; exact this
      obtain ⟨S, hSQ, hS1, hS2, hS3, hback⟩ := hQ.rebase
      have hgS : ug ∉ S := hS2 ug (by simp)
      have hec := echo_q S wr (ug :: x) b _ _ _ wr K hSQ (okτ.out.inq_ [] (by simp) (by simp)) hK en.b _ rfl
      rw [cells_inq, echo1_inq] at hec
      have hcb := cells_bound okτ.out en.b
      have HRep : Hid (τ.rep (m + j) = { τ.echo1 en.b with inq := τ.inq.set (m + j) { en with cells := τ.cellsOf en.b } }) := by
        show τ.rep (m + j) = _; unfold St.rep; rw [HEn.out]
      have HI2 : Hid (Inv K (τ.rep (m + j))) := okτ.out.rep (m + j)
      have HRp2 : Hid (St.reps p m τ0 = St.reps (p - (j + 1)) (m + (j + 1)) (τ.rep (m + j))) := by
        show St.reps p m τ0 = _
        rw [hreps.out, show p - j = (p - (j + 1)) + 1 by omega]; rfl
      have HPS : Hid ((pents τ.inq).set ((m + j) * 4 + 3) (.int .i64 (τ.cellsOf en.b)) = pents (τ.rep (m + j)).inq) := by
        show (pents τ.inq).set ((m + j) * 4 + 3) _ = _
        rw [HRep.out]
        have := pents_set τ.inq (m + j) hql (τ.cellsOf en.b)
        rw [hen] at this
        exact this.symm
      have HLn : Hid ((τ.rep (m + j)).inq.length = L) := by
        show (τ.rep (m + j)).inq.length = L
        rw [HRep.out]; dsimp only; rw [List.length_set]; exact hτl.out
      obtain ⟨cv, hcv⟩ : ∃ cv, τ.cellsOf en.b = cv := ⟨_, rfl⟩
      rw [hcv] at hec HPS hcb HRep
      have hg0 := (hgo ug rfl).2.2
      have HQ3 : Hid (({ τ.rep (m + j) with inq := [] } : St) = { τ.echo1 en.b with inq := [] }) := by
        show ({ τ.rep (m + j) with inq := [] } : St) = _; rw [HRep.out]
      clear hQ hSQ hreps okτ HEn HRep hcv hS1 hS2 hS3
      have hoff : Hid (uoff + m * 4 + j * 4 + 3 = uoff + ((m + j) * 4 + 3)) := by show _ = _; omega
      go_wp2_with (go_at_call 103; refine hec.mono ?_; rintro e W4 ⟨rfl, hQ4⟩; have hs4 : Sl W4 112 4 (.slice (some ⟨ug, uoff, none⟩) τ0.inq.length cc) τ0.inq.length (pents τ.inq) (some ug) := hs.same (fun g e => by cases e; exact hQ4.kp.block ug (hs.lt rfl) hgS); have hQ5 := hback _ _ hQ4; have zc : W4.cell? ⟨ug, uoff + m * 4 + j * 4 + 3, none⟩ = some (.int .i64 en.cells) := (by rw [hoff.out]; exact (hs4.cells rfl ((m + j) * 4 + 3) (u := .int .i64 en.cells) (by rw [pents_get τ.inq (m + j) hql 3 (by omega), hen]; rfl)).1); have fc : W4.frozen? ⟨ug, uoff + m * 4 + j * 4 + 3, none⟩ = false := hs4.frozenAt rfl _)
      have hQ6 := hQ5.poke (g := ug) (by simp) hg0 (uoff + m * 4 + j * 4 + 3) (.int .i64 cv)
      have hs6 := hs4.poke ((m + j) * 4 + 3) (.int .i64 cv)
      rw [← hoff.out, HPS.out] at hs6
      rw [← HQ3.out] at hQ6
      go_roundg (gk - 1)
      case measure => omega
      case rel => exact ⟨j + 1, τ.rep (m + j), by omega, by go_num, hQ6, hs6, HLn, HI2, HRp2⟩
    · obtain rfl : j = p := by omega
      have HE : Hid (σ.reprint c = τ) := by
        show σ.reprint c = τ
        rw [HR.out, hreps.out, Nat.sub_self]; rfl
      have hs3 : Sl wr 112 4 (.slice ai τ0.inq.length cc) τ.inq.length (pents τ.inq) o := by
        rw [show τ.inq.length = τ0.inq.length by rw [HL.out, hτl.out]]; exact hs
      have hB : AtP S0 w0 x b τ wr := hQ.back (l := τ.inq) hs3 hgo
      clear hQ hs hs3 hreps HR HAD
      go_wp2
      go_end0
      exact ⟨rfl, by rw [HE.out]; exact hB⟩
end
end Go.Proofs.YtfnglkhhmplejaaGreat
