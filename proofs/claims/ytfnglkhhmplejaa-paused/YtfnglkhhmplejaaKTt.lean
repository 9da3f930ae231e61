/- Walks: two terminals beside one another; stop and start. -/
import Derived.Test.YtfnglkhhmplejaaKW
import Derived.Test.YtfnglkhhmplejaaKeep12
namespace Go.Clk
open Go
theorem AtO.stay0 {T : List Nat} {w w' : World} {b : Nat} {e : TypeId} {cs : List Value} {fs : List Fld} (h : AtO T w [] b e cs fs w) (_hs : w.heap.size ≤ w'.heap.size) (hb : ∀ k, k < w.heap.size → k ∈ T → w'.heap[k]? = w.heap[k]?) : AtO T w' [] b e cs fs w' := by
  obtain ⟨os, h1, _, hbS, ht, _⟩ := h
  have lt : ∀ j g, os[j]? = some (some g) → g < w.heap.size := fun j g hj => by
    have hjl : j < fs.length := by rw [← h1.len]; exact (List.getElem?_eq_some_iff.1 hj).1
    exact (h1.sl j fs[j] (some g) (List.getElem?_eq_getElem hjl) hj).lt rfl
  have inS : ∀ j g, os[j]? = some (some g) → g ∈ T := fun j g hj => (ht j g hj).resolve_right (by have := lt j g hj; omega)
  have bS : b ∈ T := hbS.resolve_right (by have := h1.blk.lt; omega)
  refine ⟨os, ⟨?_, h1.len, fun k f o hf ho => (h1.sl k f o hf ho).same fun g e => ?_, h1.notB, h1.inj⟩, Kp.refl _ _, .inl bS, fun k g hg => .inl (inS k g hg), fun g hg => by cases hg⟩
  · unfold Blk; rw [hb b h1.blk.lt bS]; exact h1.blk
  · have hg : os[k]? = some (some g) := by rw [ho, e]
    exact hb g (lt k g hg) (inS k g hg)
theorem str_app (a b : List UInt8) : str a ++ str b = str (a ++ b) := by
  apply ByteArray.ext
  rw [ByteArray.data_append]
  simp [str]
theorem Pa.char_eq {o : List UInt8} {c : Int} {s : Bool} {σ : St} (h : Pa o c s σ) (d : UInt8) (b : Bool) (hd : d = 19 ∧ b = true ∨ d = 17 ∧ b = false) : (σ.good d).look = { σ with stopped := b } := by
  have hi : σ.i = 640 := by unfold St.i; rw [h.ss]; rfl
  have hch : ∀ k, σ.ch k = gt firstS (3 + k) := fun k => by unfold St.ch; rw [h.ss]
  have hI : ∀ k, σ.I k = bit 640 k := fun k => by unfold St.I; rw [hi]
  have b1 : σ.I 16 = false := by rw [hI]; decide
  have b2 : σ.I 8 = false := by rw [hI]; decide
  have b3 : σ.I 256 = false := by rw [hI]; decide
  have b4 : σ.I 512 = true := by rw [hI]; decide
  have a1 : σ.good d = σ.good2 d := by unfold St.good St.small; simp [b1, b2, b3]
  have a2 : σ.good2 d = σ.heed d := by unfold St.good2; simp [h.quoted]
  have hfl : σ.flows d = ({ σ with stopped := b }, true) := by
    rcases hd with ⟨rfl, rfl⟩ | ⟨rfl, rfl⟩
    · have i8 : σ.isC 19 8 = false := isC_false σ 19 8 (.inr (by rw [hch]; show (19 : Int) ≠ 17; decide))
      have i9 : σ.isC 19 9 = true := (isC_iff σ 19 9).2 ⟨by decide, by rw [hch]; rfl⟩
      unfold St.flows; simp [b4, i8, i9]
    · have i8 : σ.isC 17 8 = true := (isC_iff σ 17 8).2 ⟨by decide, by rw [hch]; rfl⟩
      unfold St.flows; simp [b4, i8]
  have a3 : σ.heed d = { σ with stopped := b } := by unfold St.heed; simp [hfl]
  rw [a1, a2, a3]
  exact look_idle _ h.reads h.held (by show σ.I 2048 = false; rw [hI]; decide)
end Go.Clk
namespace Go.Proofs.Ytfnglkhhmplejaa
open Go Go.RowKit Go.Clk
theorem AtT.stay0 {T : List Nat} {w w' : World} {b : Nat} {σ : St} (h : AtT T w [] b σ w) (hs : w.heap.size ≤ w'.heap.size) (hb : ∀ k, k < w.heap.size → k ∈ T → w'.heap[k]? = w.heap[k]?) : AtT T w' [] b σ w' := by
  obtain ⟨ρ, hsm, ⟨vi, vu, vo, vs, h⟩⟩ := h; exact ⟨ρ, hsm, vi, vu, vo, vs, h.1, h.2.stay0 hs hb⟩
/-- Two terminals beside one another, both new since w0. -/
def Tt (w0 w : World) (b1 b2 : Nat) (σ τ : St) : Prop := ∃ S T, AtT S w [] b1 σ w ∧ AtT T w [] b2 τ w ∧ (∀ k, k ∈ S → k < w.heap.size ∧ w0.heap.size ≤ k) ∧ (∀ k, k ∈ T → k < w.heap.size ∧ w0.heap.size ≤ k) ∧ (∀ k, k ∈ S → k ∉ T) ∧ Kp [] w0 w
section
variable {w0 w : World} {b1 b2 : Nat} {σ τ σ' : St}
theorem Tt.swap (h : Tt w0 w b1 b2 σ τ) : Tt w0 w b2 b1 τ σ := by
  obtain ⟨S, T, h1, h2, h3, h4, h5, h6⟩ := h
  exact ⟨T, S, h2, h1, h4, h3, fun k hk hc => h5 k hc hk, h6⟩
theorem Tt.kp (h : Tt w0 w b1 b2 σ τ) : Kp [] w0 w := by obtain ⟨S, T, h1, h2, h3, h4, h5, h6⟩ := h; exact h6
theorem Tt.one {f : Nat} {args : Array Value} {r : Ending} (h : Tt w0 w b1 b2 σ τ) (H : ∀ S u, AtT S u [] b1 σ w → Calls Try.prog f args w fun e w' => e = r ∧ AtT S u [] b1 σ' w') :
    Calls Try.prog f args w fun e w' => e = r ∧ Tt w0 w' b1 b2 σ' τ := by
  obtain ⟨S, T, h1, h2, h3, h4, h5, h6⟩ := h
  refine (H S w h1).mono fun e w' ⟨he, q⟩ => ⟨he, ?_⟩
  obtain ⟨S', a1, a2, _, a4, _⟩ := q.rebase
  have hk := q.kp
  refine ⟨S', T, a1, h2.stay0 hk.size fun k hk1 hk2 => hk.block k hk1 fun hc => h5 k hc hk2, fun k hk' => ⟨a2 k hk', ?_⟩, fun k hk' => ⟨Nat.lt_of_lt_of_le (h4 k hk').1 hk.size, (h4 k hk').2⟩, fun k hk' hc => ?_, h6.trans hk fun x hx => .inr (h3 x hx).2⟩
  · rcases a4 k hk' with h | h
    · exact (h3 k h).2
    · exact Nat.le_trans h6.size h
  · rcases a4 k hk' with h | h
    · exact h5 k h hc
    · have := (h4 k hc).1; omega
theorem Tt.two {f : Nat} {args : Array Value} {r : Ending} {τ' : St} (h : Tt w0 w b1 b2 σ τ) (H : ∀ S u, AtT S u [] b2 τ w → Calls Try.prog f args w fun e w' => e = r ∧ AtT S u [] b2 τ' w') :
    Calls Try.prog f args w fun e w' => e = r ∧ Tt w0 w' b1 b2 σ τ' := (h.swap.one H).mono fun _ _ ⟨h1, h2⟩ => ⟨h1, h2.swap⟩
theorem Tt.made {w1 : World} (h : AtT [] w0 [] b1 σ w1) {w2 : World} (k : AtT [] w1 [] b2 τ w2) : Tt w0 w2 b1 b2 σ τ := by
  obtain ⟨S, a1, a2, _, a4, _⟩ := h.rebase
  obtain ⟨T, c1, c2, _, c4, _⟩ := k.rebase
  have hk := k.kp
  have h6 : Kp [] w0 w1 := h.kp
  refine ⟨S, T, a1.stay0 hk.size fun i hi _ => hk.block i hi (by simp), c1, fun i hi => ⟨Nat.lt_of_lt_of_le (a2 i hi) hk.size, ?_⟩, fun i hi => ⟨c2 i hi, ?_⟩, fun i hi hc => ?_, h6.trans hk fun x hx => by cases hx⟩
  · rcases a4 i hi with q | q
    · cases q
    · exact q
  · rcases c4 i hi with q | q
    · cases q
    · exact Nat.le_trans h6.size q
  · have := a2 i hi
    rcases c4 i hc with q | q
    · cases q
    · omega
theorem Tt.below (h : Tt w0 w b1 b2 σ τ) : Below w0.heap.size w0 w := ⟨h.kp.os, h.kp.tape, h.kp.output, h.kp.size, fun q hq => h.kp.block q hq (by simp)⟩
end
section
variable (S0 : List Nat) (w0 : World) (x : List Nat) (b : Nat) (σ : St) (w : World) (K : Int)
set_option maxHeartbeats 1000000 in
theorem kstop_any (h : AtT S0 w0 x b σ w) (ok : Inv K σ) (hK : K + 4098 ≤ 1099511627776) (hw : Well σ) (q : Bool) (σ' : St) (e1 : (σ.good 19).look = σ') (e2 : (σ.flow 1).1 = σ') :
    Calls Try.prog 24 #[.pointer (some ⟨b, 0, none⟩), .bool q] w fun e w' => e = .returned (.tuple #[]) ∧ AtT S0 w0 x b σ' w' := by
  cases q with
  | true =>
    have hr := TReceive S0 w0 x b σ w K h ok hw 0 ⟨#[19]⟩ (by simp [maxLen, ByteArray.size]) (by simp [ByteArray.size]; omega)
    rw [show σ.receive 0 (⟨#[19]⟩ : ByteArray).data.toList = ((σ.good 19).look, 0) from rfl, e1] at hr
    clear e1 e2 ok
    go_enter Try.func24, Try.ntmps24
    go_wp2_with (go_at_call 13; refine hr.mono ?_; rintro e W ⟨rfl, hW⟩)
    go_end0
    exact ⟨rfl, hW⟩
  | false =>
    have hr := TFlow S0 w0 x b σ w K h ok (by omega) 1
    rw [show (σ.flow 1).2 = 0 from rfl, e2] at hr
    clear e1 e2 ok
    go_enter Try.func24, Try.ntmps24
    go_wp2_with (go_at_call 30; refine hr.mono ?_; rintro e W ⟨rfl, hW⟩)
    go_end0
    exact ⟨rfl, hW⟩
set_option maxHeartbeats 1000000 in
theorem kstart_any (h : AtT S0 w0 x b σ w) (ok : Inv K σ) (hK : K + 4098 ≤ 1099511627776) (hw : Well σ) (q : Bool) (σ' : St) (e1 : (σ.good 17).look = σ') (e2 : (σ.flow 2).1 = σ') :
    Calls Try.prog 26 #[.pointer (some ⟨b, 0, none⟩), .bool q] w fun e w' => e = .returned (.tuple #[]) ∧ AtT S0 w0 x b σ' w' := by
  cases q with
  | true =>
    have hr := TReceive S0 w0 x b σ w K h ok hw 0 ⟨#[17]⟩ (by simp [maxLen, ByteArray.size]) (by simp [ByteArray.size]; omega)
    rw [show σ.receive 0 (⟨#[17]⟩ : ByteArray).data.toList = ((σ.good 17).look, 0) from rfl, e1] at hr
    clear e1 e2 ok
    go_enter Try.func26, Try.ntmps26
    go_wp2_with (go_at_call 13; refine hr.mono ?_; rintro e W ⟨rfl, hW⟩)
    go_end0
    exact ⟨rfl, hW⟩
  | false =>
    have hr := TFlow S0 w0 x b σ w K h ok (by omega) 2
    rw [show (σ.flow 2).2 = 0 from rfl, e2] at hr
    clear e1 e2 ok
    go_enter Try.func26, Try.ntmps26
    go_wp2_with (go_at_call 30; refine hr.mono ?_; rintro e W ⟨rfl, hW⟩)
    go_end0
    exact ⟨rfl, hW⟩
end
end Go.Proofs.Ytfnglkhhmplejaa
