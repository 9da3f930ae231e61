/-
  No cell of these rows narrows 'for every input' (looked for: loops, veiled, ifaces, maps, wideKeys, modest, calm, conditions, laid).
  DERIVED. THE GIVEN ROWS OF THIS SEAT. 6 by the template 'for every input the law returns true; each argument reads behind the call as it read before'; 0 by the template 'total and deterministic' (their statements: YtfnglkhhmplejaaTotals.lean).
  GIVEN WITH THE SEED: the statements are not yours to turn. If you find one false, say at which input.
  Laid BY PROGRAM, IN A SANDBOX (cutbox-rows.mjs): the forced cells as the released guide's own fill.sh prints them over the translation 31cf0292b98912ef… (all of the seat's roots in one cut). By AI agents, Wed Nov 11 2026. No macro, syntax, notation, axiom, sorry.
-/
import Derived.Test.YtfnglkhhmplejaaChecked
import GoSem.Claim
import GoSem.ClaimJoined
import GoSem.ClaimMapViews
import Derived.JoinedTies
import Derived.KernelRfl
namespace Go.Proofs.Ytfnglkhhmplejaa
/- THE CELL 'sum', in the pinned program and in every row, IS THE sha256 OF THE DUMP (.gsa) THAT YtfnglkhhmplejaaProg.lean LOADS. Nothing in Lean hashes anything: it is a label: what it is worth is what the hold of that sum in a sandbox is worth. -/
noncomputable def Try.pinned : Pinned := { name := "ytfnglkhhmplejaa", sum := "31cf0292b98912ef98cdea36cfb353cf1ba8e853d5d60da5572a1167a66ae677", checked := Try.checked }
namespace Rows
def none {H : Type} : Left H := { results := [], args := [] }

/-- 'clackkeep.Edited': WHATEVER THE INPUT: true; the input reads as it did. -/
def editedSpec : ChangeSpec := { name := "edited", fn := fun _ => fun
  | [d1, d2] => { results := [.lit (.bool true)], args := [d1, d2] }
  | _ => none }
def editedRow : OpenClaim := { program := "ytfnglkhhmplejaa", sum := "31cf0292b98912ef98cdea36cfb353cf1ba8e853d5d60da5572a1167a66ae677", func := "clack/clackkeep.Edited", spec := "edited", inPlace := ["internal/bytealg.MakeNoZero"], unfollowed := true, recurses := true, apart := false }
def EditedSaid : Prop := editedRow.holds Try.pinned (OpenSpec.ofChange editedSpec)

/-- ITS FALSE NEIGHBOUR: 'it returns false'. Refute it at one input. -/
def editedWrong : ChangeSpec := { name := "edited", fn := fun _ => fun
  | [d1, d2] => { results := [.lit (.bool false)], args := [d1, d2] }
  | _ => none }
def EditedWrongFalsely : Prop := editedRow.holds Try.pinned (OpenSpec.ofChange editedWrong)

/-- 'clackkeep.Timed': WHATEVER THE INPUT: true; the input reads as it did. -/
def timedSpec : ChangeSpec := { name := "timed", fn := fun _ => fun
  | [d1, d2, d3, d4, d5] => { results := [.lit (.bool true)], args := [d1, d2, d3, d4, d5] }
  | _ => none }
def timedRow : OpenClaim := { program := "ytfnglkhhmplejaa", sum := "31cf0292b98912ef98cdea36cfb353cf1ba8e853d5d60da5572a1167a66ae677", func := "clack/clackkeep.Timed", spec := "timed", inPlace := ["internal/bytealg.MakeNoZero"], unfollowed := true, recurses := true, apart := false }
def TimedSaid : Prop := timedRow.holds Try.pinned (OpenSpec.ofChange timedSpec)

/-- ITS FALSE NEIGHBOUR: 'it returns false'. Refute it at one input. -/
def timedWrong : ChangeSpec := { name := "timed", fn := fun _ => fun
  | [d1, d2, d3, d4, d5] => { results := [.lit (.bool false)], args := [d1, d2, d3, d4, d5] }
  | _ => none }
def TimedWrongFalsely : Prop := timedRow.holds Try.pinned (OpenSpec.ofChange timedWrong)

/-- 'clackkeep.Raised': WHATEVER THE INPUT: true; the input reads as it did. -/
def raisedSpec : ChangeSpec := { name := "raised", fn := fun _ => fun
  | [d1, d2] => { results := [.lit (.bool true)], args := [d1, d2] }
  | _ => none }
def raisedRow : OpenClaim := { program := "ytfnglkhhmplejaa", sum := "31cf0292b98912ef98cdea36cfb353cf1ba8e853d5d60da5572a1167a66ae677", func := "clack/clackkeep.Raised", spec := "raised", inPlace := ["internal/bytealg.MakeNoZero"], unfollowed := true, recurses := true, apart := false }
def RaisedSaid : Prop := raisedRow.holds Try.pinned (OpenSpec.ofChange raisedSpec)

/-- ITS FALSE NEIGHBOUR: 'it returns false'. Refute it at one input. -/
def raisedWrong : ChangeSpec := { name := "raised", fn := fun _ => fun
  | [d1, d2] => { results := [.lit (.bool false)], args := [d1, d2] }
  | _ => none }
def RaisedWrongFalsely : Prop := raisedRow.holds Try.pinned (OpenSpec.ofChange raisedWrong)

/-- 'clackkeep.Paused': WHATEVER THE INPUT: true; the input reads as it did. -/
def pausedSpec : ChangeSpec := { name := "paused", fn := fun _ => fun
  | [d1, d2] => { results := [.lit (.bool true)], args := [d1, d2] }
  | _ => none }
def pausedRow : OpenClaim := { program := "ytfnglkhhmplejaa", sum := "31cf0292b98912ef98cdea36cfb353cf1ba8e853d5d60da5572a1167a66ae677", func := "clack/clackkeep.Paused", spec := "paused", inPlace := ["internal/bytealg.MakeNoZero"], unfollowed := true, recurses := true, apart := false }
def PausedSaid : Prop := pausedRow.holds Try.pinned (OpenSpec.ofChange pausedSpec)

/-- ITS FALSE NEIGHBOUR: 'it returns false'. Refute it at one input. -/
def pausedWrong : ChangeSpec := { name := "paused", fn := fun _ => fun
  | [d1, d2] => { results := [.lit (.bool false)], args := [d1, d2] }
  | _ => none }
def PausedWrongFalsely : Prop := pausedRow.holds Try.pinned (OpenSpec.ofChange pausedWrong)

/-- 'clackkeep.Turns': WHATEVER THE INPUT: true; the input reads as it did. -/
def turnsSpec : ChangeSpec := { name := "turns", fn := fun _ => fun
  | [d1, d2] => { results := [.lit (.bool true)], args := [d1, d2] }
  | _ => none }
def turnsRow : OpenClaim := { program := "ytfnglkhhmplejaa", sum := "31cf0292b98912ef98cdea36cfb353cf1ba8e853d5d60da5572a1167a66ae677", func := "clack/clackkeep.Turns", spec := "turns", inPlace := ["internal/bytealg.MakeNoZero"], unfollowed := true, recurses := true, apart := false }
def TurnsSaid : Prop := turnsRow.holds Try.pinned (OpenSpec.ofChange turnsSpec)

/-- ITS FALSE NEIGHBOUR: 'it returns false'. Refute it at one input. -/
def turnsWrong : ChangeSpec := { name := "turns", fn := fun _ => fun
  | [d1, d2] => { results := [.lit (.bool false)], args := [d1, d2] }
  | _ => none }
def TurnsWrongFalsely : Prop := turnsRow.holds Try.pinned (OpenSpec.ofChange turnsWrong)

/-- 'clackkeep.Bounded': WHATEVER THE INPUT: true; the input reads as it did. -/
def boundedSpec : ChangeSpec := { name := "bounded", fn := fun _ => fun
  | [d] => { results := [.lit (.bool true)], args := [d] }
  | _ => none }
def boundedRow : OpenClaim := { program := "ytfnglkhhmplejaa", sum := "31cf0292b98912ef98cdea36cfb353cf1ba8e853d5d60da5572a1167a66ae677", func := "clack/clackkeep.Bounded", spec := "bounded", inPlace := ["internal/bytealg.MakeNoZero"], unfollowed := true, recurses := true, apart := false }
def BoundedSaid : Prop := boundedRow.holds Try.pinned (OpenSpec.ofChange boundedSpec)

/-- ITS FALSE NEIGHBOUR: 'it returns false'. Refute it at one input. -/
def boundedWrong : ChangeSpec := { name := "bounded", fn := fun _ => fun
  | [d] => { results := [.lit (.bool false)], args := [d] }
  | _ => none }
def BoundedWrongFalsely : Prop := boundedRow.holds Try.pinned (OpenSpec.ofChange boundedWrong)

/- THE SECOND FORM. 'bulk': how many values and letters a reading holds, each counted each time it is reached (what is shared counts as often as it is met; a slice's spare places count too). A statement '..UptoSaid' is the law's where the arguments, and the package variables that the reading takes, are together of bulk at most 1048576: NARROWER than '..Said'. Prove '..Said' where nothing that the law and all that it calls make is longer than what came in: it says more and counts as full. Else prove '..UptoSaid'. A law counts once. -/
mutual
def uptoBulk {H : Type} : DataW H → Nat
  | .lit (.string bytes) => bytes.length + 1
  | .lit _ => 1
  | .nil => 1
  | .ptr d => uptoBulk d + 1
  | .slice elems spare => uptoBulkAll elems + uptoBulkAll spare + 1
  | .agg parts => uptoBulkAll parts + 1
  | .iface _ d => uptoBulk d + 1
  | .map entries => uptoBulkEntries entries + 1
  | .held _ => 1
def uptoBulkAll {H : Type} : List (DataW H) → Nat
  | [] => 0
  | d :: r => uptoBulk d + uptoBulkAll r
def uptoBulkEntries {H : Type} : List (Lit × DataW H) → Nat
  | [] => 0
  | x :: r => uptoBulkEntry x + uptoBulkEntries r
def uptoBulkEntry {H : Type} : Lit × DataW H → Nat
  | (.string bytes, d) => bytes.length + uptoBulk d + 1
  | (_, d) => uptoBulk d + 1
 end
def uptoSmall : (H : Type) → List (DataW H) → Bool := fun _ ds => decide (uptoBulkAll ds ≤ 1048576)
def OpenSpec.upto (s : _root_.Go.ChangeSpec) : _root_.Go.OpenSpec := { _root_.Go.OpenSpec.ofChange s with cond := some uptoSmall }

/-- 'clackkeep.Edited', WHERE WHAT IT READS IS OF BULK AT MOST 1048576: true; the input reads as it did. -/
def editedUptoRow : OpenClaim := { program := "ytfnglkhhmplejaa", sum := "31cf0292b98912ef98cdea36cfb353cf1ba8e853d5d60da5572a1167a66ae677", func := "clack/clackkeep.Edited", spec := "edited", inPlace := ["internal/bytealg.MakeNoZero"], unfollowed := true, recurses := true, apart := false, narrowed := true }
def EditedUptoSaid : Prop := editedUptoRow.holds Try.pinned (OpenSpec.upto editedSpec)

/-- 'clackkeep.Timed', WHERE WHAT IT READS IS OF BULK AT MOST 1048576: true; the input reads as it did. -/
def timedUptoRow : OpenClaim := { program := "ytfnglkhhmplejaa", sum := "31cf0292b98912ef98cdea36cfb353cf1ba8e853d5d60da5572a1167a66ae677", func := "clack/clackkeep.Timed", spec := "timed", inPlace := ["internal/bytealg.MakeNoZero"], unfollowed := true, recurses := true, apart := false, narrowed := true }
def TimedUptoSaid : Prop := timedUptoRow.holds Try.pinned (OpenSpec.upto timedSpec)

/-- 'clackkeep.Raised', WHERE WHAT IT READS IS OF BULK AT MOST 1048576: true; the input reads as it did. -/
def raisedUptoRow : OpenClaim := { program := "ytfnglkhhmplejaa", sum := "31cf0292b98912ef98cdea36cfb353cf1ba8e853d5d60da5572a1167a66ae677", func := "clack/clackkeep.Raised", spec := "raised", inPlace := ["internal/bytealg.MakeNoZero"], unfollowed := true, recurses := true, apart := false, narrowed := true }
def RaisedUptoSaid : Prop := raisedUptoRow.holds Try.pinned (OpenSpec.upto raisedSpec)

/-- 'clackkeep.Paused', WHERE WHAT IT READS IS OF BULK AT MOST 1048576: true; the input reads as it did. -/
def pausedUptoRow : OpenClaim := { program := "ytfnglkhhmplejaa", sum := "31cf0292b98912ef98cdea36cfb353cf1ba8e853d5d60da5572a1167a66ae677", func := "clack/clackkeep.Paused", spec := "paused", inPlace := ["internal/bytealg.MakeNoZero"], unfollowed := true, recurses := true, apart := false, narrowed := true }
def PausedUptoSaid : Prop := pausedUptoRow.holds Try.pinned (OpenSpec.upto pausedSpec)

/-- 'clackkeep.Turns', WHERE WHAT IT READS IS OF BULK AT MOST 1048576: true; the input reads as it did. -/
def turnsUptoRow : OpenClaim := { program := "ytfnglkhhmplejaa", sum := "31cf0292b98912ef98cdea36cfb353cf1ba8e853d5d60da5572a1167a66ae677", func := "clack/clackkeep.Turns", spec := "turns", inPlace := ["internal/bytealg.MakeNoZero"], unfollowed := true, recurses := true, apart := false, narrowed := true }
def TurnsUptoSaid : Prop := turnsUptoRow.holds Try.pinned (OpenSpec.upto turnsSpec)

/-- 'clackkeep.Bounded', WHERE WHAT IT READS IS OF BULK AT MOST 1048576: true; the input reads as it did. -/
def boundedUptoRow : OpenClaim := { program := "ytfnglkhhmplejaa", sum := "31cf0292b98912ef98cdea36cfb353cf1ba8e853d5d60da5572a1167a66ae677", func := "clack/clackkeep.Bounded", spec := "bounded", inPlace := ["internal/bytealg.MakeNoZero"], unfollowed := true, recurses := true, apart := false, narrowed := true }
def BoundedUptoSaid : Prop := boundedUptoRow.holds Try.pinned (OpenSpec.upto boundedSpec)

end Rows
end Go.Proofs.Ytfnglkhhmplejaa
