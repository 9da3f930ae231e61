/- Walks: the program: the pending line; entries are rubbed out of the queue. -/
import Derived.Test.YtfnglkhhmplejaaGreatProg16
namespace Go.Proofs.YtfnglkhhmplejaaGreat
open Go Go.RowKit Go.Clk

section
variable (S0 : List Nat) (w0 : World) (x : List Nat) (b : Nat) (σ : St) (w : World) (K : Int)

set_option maxHeartbeats 1000000 in
set_option maxRecDepth 100000 in
theorem Pending_any (v : Value) (l : List Ent) (o : Option Nat) (hs : Sl w 112 4 v l.length (pents l) o) (hl : l.length ≤ 256) :
    Calls Tryz.prog 138 #[v] w fun e w' => w' = w ∧ ∃ a cap, e = .returned (.slice a (pend l) cap) ∧ Sl w 112 4 (.slice a (pend l) cap) (pend l) (pents (l.drop (l.length - pend l))) o := by
  obtain ⟨t0, hti, htz0, htz1, htz2⟩ := info_parts info_pent
  obtain ⟨ai, ci, rfl, hl1, hl2⟩ := hs.shape
  have hpl := pend_le l
  have HP : Hid (∀ (j q : Nat) (h : q < l.length), j < pend l → q + 1 + j = l.length → l[q].fin = false) := fun j q _ hj hq => pend_in l j q hj hq
  have HQ : Hid (∀ (q : Nat) (h : q < l.length), q + 1 + pend l = l.length → l[q].fin = true) := fun q _ hq => pend_end l q hq
  obtain ⟨p, hp⟩ : ∃ p, pend l = p := ⟨_, rfl⟩
  rw [hp] at hpl HP HQ ⊢
  have HS : Hid (Sl w 112 4 (.slice ai l.length ci) l.length (pents l) o) := hs
  clear hp
  go_enter Tryz.func138, Tryz.ntmps138
  go_wp2_with fail
  go_loopg [3] p (fun k fv wr => ∃ (f j : Nat), f + j = l.length ∧ j + k = p ∧ fv = .int .i64 f ∧ wr = w)
  case atStart => exact ⟨l.length, 0, by omega, by omega, rfl, rfl⟩
  case round =>
    obtain ⟨f, j, hf, hj, rfl, rfl⟩ := hrel
    have fin : ∀ q : Nat, q + p = l.length → ∀ a' cap', Sl wr 112 4 (.slice a' (l.length - q) cap') (l.length - q) ((pents l).drop (q * 4)) o → Sl wr 112 4 (.slice a' p cap') p (pents (l.drop (l.length - p))) o := by
      intro q hq a' cap' h
      have e1 : l.length - q = p := by omega
      have e2 : l.length - p = q := by omega
      rw [e1] at h
      rw [e2, pents_drop]; exact h
    have HFin : Hid (∀ q : Nat, q + p = l.length → ∀ a' cap', Sl wr 112 4 (.slice a' (l.length - q) cap') (l.length - q) ((pents l).drop (q * 4)) o → Sl wr 112 4 (.slice a' p cap') p (pents (l.drop (l.length - p))) o) := fin
    clear fin
    by_cases hz : 0 < f
    · obtain ⟨q, rfl⟩ : ∃ q, f = q + 1 := ⟨f - 1, by omega⟩
      have hql : q < l.length := by omega
      obtain ⟨ug, uoff, uc, he, rfl⟩ := hs.addr (by omega)
      cases he
      have kc := (hs.cells rfl (q * 4 + 2) (u := .bool l[q].fin) (by rw [pents_get l q hql 2 (by omega)]; rfl)).1
      simp only [← Nat.add_assoc] at kc
      by_cases hjp : j < p
      · rw [HP.out j q hql hjp (by omega)] at kc
        clear HP HQ
        go_wp2
        go_roundg (gk - 1)
        case measure => omega
        case rel => exact ⟨q, j + 1, by omega, by omega, by go_num, rfl⟩
      · obtain rfl : j = p := by omega
        rw [HQ.out q hql (by omega)] at kc
        clear HP HQ
        go_wp2_with (refine wpList_cut rfl (.tmp 19) (.tmp 20) 69 rfl t0 Tryz.underlying69 hti htz1 rfl HS.out ((q + 1 : Nat) : Int) (by first | rfl | simp [Act.eval]) (by omega) (by omega) ?_)
        intro a2 cap2 hs2
        have hfin := HFin.out (q + 1) (by omega) a2 cap2 (by simpa using hs2)
        clear hs2 HFin
        go_wp2
        go_ret
        exact ⟨rfl, a2, cap2, by rw [show j = l.length - (q + 1) by omega]; rfl, hfin⟩
    · obtain rfl : f = 0 := by omega
      obtain rfl : j = p := by omega
      clear HP HQ
      go_wp2_with (refine wpList_cut rfl (.tmp 19) (.tmp 20) 69 rfl t0 Tryz.underlying69 hti htz1 rfl HS.out 0 (by first | rfl | simp [Act.eval]) (by omega) (by omega) ?_)
      intro a2 cap2 hs2
      have hfin := HFin.out 0 (by omega) a2 cap2 (by simpa using hs2)
      clear hs2 HFin
      go_wp2
      go_ret
      exact ⟨rfl, a2, cap2, by rw [show j = l.length by omega]; rfl, hfin⟩
end
end Go.Proofs.YtfnglkhhmplejaaGreat
