/-
  No cell of these rows narrows 'for every input' (looked for: loops, veiled, ifaces, maps, wideKeys, modest, calm, conditions, laid).
  DERIVED. THE GIVEN ROWS OF THIS SEAT. 6 by the template 'for every input the law returns true; each argument reads behind the call as it read before'; 0 by the template 'total and deterministic' (their statements: YtfnglkhhmplejaaGreatTotals.lean).
  GIVEN WITH THE SEED: the statements are not yours to turn. If you find one false, say at which input.
  Laid BY PROGRAM, IN A SANDBOX (cutbox-rows.mjs): the forced cells as the released guide's own fill.sh prints them over the translation 31653feb09b8cbf5… (all of the seat's roots in one cut). By AI agents, Wed Nov 11 2026. No macro, syntax, notation, axiom, sorry.
-/
import Derived.Test.YtfnglkhhmplejaaGreatChecked
import GoSem.Claim
import GoSem.ClaimJoined
import GoSem.ClaimMapViews
import Derived.JoinedTies
import Derived.KernelRfl
namespace Go.Proofs.YtfnglkhhmplejaaGreat
/- THE CELL 'sum', in the pinned program and in every row, IS THE sha256 OF THE DUMP (.gsa) THAT YtfnglkhhmplejaaGreatProg.lean LOADS. Nothing in Lean hashes anything: it is a label: what it is worth is what the hold of that sum in a sandbox is worth. -/
noncomputable def Tryz.pinned : Pinned := { name := "ytfnglkhhmplejaagreat", sum := "31653feb09b8cbf525225cf7fca25d58fb47be46fc4333a6def14cf26ae0fa33", checked := Tryz.checked }
namespace Rows
def none {H : Type} : Left H := { results := [], args := [] }

/-- 'clacklaw.Puts': WHATEVER THE INPUT: true; the input reads as it did. -/
def putsSpec : ChangeSpec := { name := "puts", fn := fun _ => fun
  | [d] => { results := [.lit (.bool true)], args := [d] }
  | _ => none }
def putsRow : OpenClaim := { program := "ytfnglkhhmplejaagreat", sum := "31653feb09b8cbf525225cf7fca25d58fb47be46fc4333a6def14cf26ae0fa33", func := "clack/clacklaw.Puts", spec := "puts", inPlace := ["internal/bytealg.MakeNoZero"], unfollowed := true, recurses := true, apart := false }
def PutsSaid : Prop := putsRow.holds Tryz.pinned (OpenSpec.ofChange putsSpec)

/-- ITS FALSE NEIGHBOUR: 'it returns false'. Refute it at one input. -/
def putsWrong : ChangeSpec := { name := "puts", fn := fun _ => fun
  | [d] => { results := [.lit (.bool false)], args := [d] }
  | _ => none }
def PutsWrongFalsely : Prop := putsRow.holds Tryz.pinned (OpenSpec.ofChange putsWrong)

/-- 'clacklaw.Comes': WHATEVER THE INPUT: true; the input reads as it did. -/
def comesSpec : ChangeSpec := { name := "comes", fn := fun _ => fun
  | [d] => { results := [.lit (.bool true)], args := [d] }
  | _ => none }
def comesRow : OpenClaim := { program := "ytfnglkhhmplejaagreat", sum := "31653feb09b8cbf525225cf7fca25d58fb47be46fc4333a6def14cf26ae0fa33", func := "clack/clacklaw.Comes", spec := "comes", inPlace := ["internal/bytealg.MakeNoZero"], unfollowed := true, recurses := true, apart := false }
def ComesSaid : Prop := comesRow.holds Tryz.pinned (OpenSpec.ofChange comesSpec)

/-- ITS FALSE NEIGHBOUR: 'it returns false'. Refute it at one input. -/
def comesWrong : ChangeSpec := { name := "comes", fn := fun _ => fun
  | [d] => { results := [.lit (.bool false)], args := [d] }
  | _ => none }
def ComesWrongFalsely : Prop := comesRow.holds Tryz.pinned (OpenSpec.ofChange comesWrong)

/-- 'clacklaw.Sets': WHATEVER THE INPUT: true; the input reads as it did. -/
def setsSpec : ChangeSpec := { name := "sets", fn := fun _ => fun
  | [d] => { results := [.lit (.bool true)], args := [d] }
  | _ => none }
def setsRow : OpenClaim := { program := "ytfnglkhhmplejaagreat", sum := "31653feb09b8cbf525225cf7fca25d58fb47be46fc4333a6def14cf26ae0fa33", func := "clack/clacklaw.Sets", spec := "sets", inPlace := ["internal/bytealg.MakeNoZero"], unfollowed := true, recurses := true, apart := false }
def SetsSaid : Prop := setsRow.holds Tryz.pinned (OpenSpec.ofChange setsSpec)

/-- ITS FALSE NEIGHBOUR: 'it returns false'. Refute it at one input. -/
def setsWrong : ChangeSpec := { name := "sets", fn := fun _ => fun
  | [d] => { results := [.lit (.bool false)], args := [d] }
  | _ => none }
def SetsWrongFalsely : Prop := setsRow.holds Tryz.pinned (OpenSpec.ofChange setsWrong)

/-- 'clacklaw.Reads': WHATEVER THE INPUT: true; the input reads as it did. -/
def readsSpec : ChangeSpec := { name := "reads", fn := fun _ => fun
  | [d] => { results := [.lit (.bool true)], args := [d] }
  | _ => none }
def readsRow : OpenClaim := { program := "ytfnglkhhmplejaagreat", sum := "31653feb09b8cbf525225cf7fca25d58fb47be46fc4333a6def14cf26ae0fa33", func := "clack/clacklaw.Reads", spec := "reads", inPlace := ["internal/bytealg.MakeNoZero"], unfollowed := true, recurses := true, apart := false }
def ReadsSaid : Prop := readsRow.holds Tryz.pinned (OpenSpec.ofChange readsSpec)

/-- ITS FALSE NEIGHBOUR: 'it returns false'. Refute it at one input. -/
def readsWrong : ChangeSpec := { name := "reads", fn := fun _ => fun
  | [d] => { results := [.lit (.bool false)], args := [d] }
  | _ => none }
def ReadsWrongFalsely : Prop := readsRow.holds Tryz.pinned (OpenSpec.ofChange readsWrong)

/-- 'clackkeep.Shown': WHATEVER THE INPUT: true; the input reads as it did. -/
def shownSpec : ChangeSpec := { name := "shown", fn := fun _ => fun
  | [d1, d2] => { results := [.lit (.bool true)], args := [d1, d2] }
  | _ => none }
def shownRow : OpenClaim := { program := "ytfnglkhhmplejaagreat", sum := "31653feb09b8cbf525225cf7fca25d58fb47be46fc4333a6def14cf26ae0fa33", func := "clack/clackkeep.Shown", spec := "shown", inPlace := ["internal/bytealg.MakeNoZero"], unfollowed := true, recurses := true, apart := false }
def ShownSaid : Prop := shownRow.holds Tryz.pinned (OpenSpec.ofChange shownSpec)

/-- ITS FALSE NEIGHBOUR: 'it returns false'. Refute it at one input. -/
def shownWrong : ChangeSpec := { name := "shown", fn := fun _ => fun
  | [d1, d2] => { results := [.lit (.bool false)], args := [d1, d2] }
  | _ => none }
def ShownWrongFalsely : Prop := shownRow.holds Tryz.pinned (OpenSpec.ofChange shownWrong)

/-- 'clacklaw.All': WHATEVER THE INPUT: true; the input reads as it did. -/
def allSpec : ChangeSpec := { name := "all", fn := fun _ => fun
  | [d] => { results := [.lit (.bool true)], args := [d] }
  | _ => none }
def allRow : OpenClaim := { program := "ytfnglkhhmplejaagreat", sum := "31653feb09b8cbf525225cf7fca25d58fb47be46fc4333a6def14cf26ae0fa33", func := "clack/clacklaw.All", spec := "all", inPlace := ["internal/bytealg.MakeNoZero"], unfollowed := true, recurses := true, apart := false }
def AllSaid : Prop := allRow.holds Tryz.pinned (OpenSpec.ofChange allSpec)

/-- ITS FALSE NEIGHBOUR: 'it returns false'. Refute it at one input. -/
def allWrong : ChangeSpec := { name := "all", fn := fun _ => fun
  | [d] => { results := [.lit (.bool false)], args := [d] }
  | _ => none }
def AllWrongFalsely : Prop := allRow.holds Tryz.pinned (OpenSpec.ofChange allWrong)

/- THE SECOND FORM. 'bulk': how many values and letters a reading holds, each counted each time it is reached (what is shared counts as often as it is met; a slice's spare places count too). A statement '..UptoSaid' is the law's where the arguments, and the package variables that the reading takes, are together of bulk at most 1048576: NARROWER than '..Said'. Prove '..Said' where nothing that the law and all that it calls make is longer than what came in: it says more and counts as full. Else prove '..UptoSaid'. A law counts once. -/
mutual
def uptoBulk {H : Type} : DataW H → Nat
  | .lit (.string bytes) => bytes.length + 1
  | .lit _ => 1
  | .nil => 1
  | .ptr d => uptoBulk d + 1
  | .slice elems spare => uptoBulkAll elems + uptoBulkAll spare + 1
  | .agg parts => uptoBulkAll parts + 1
  | .iface _ d => uptoBulk d + 1
  | .map entries => uptoBulkEntries entries + 1
  | .held _ => 1
def uptoBulkAll {H : Type} : List (DataW H) → Nat
  | [] => 0
  | d :: r => uptoBulk d + uptoBulkAll r
def uptoBulkEntries {H : Type} : List (Lit × DataW H) → Nat
  | [] => 0
  | x :: r => uptoBulkEntry x + uptoBulkEntries r
def uptoBulkEntry {H : Type} : Lit × DataW H → Nat
  | (.string bytes, d) => bytes.length + uptoBulk d + 1
  | (_, d) => uptoBulk d + 1
 end
def uptoSmall : (H : Type) → List (DataW H) → Bool := fun _ ds => decide (uptoBulkAll ds ≤ 1048576)
def OpenSpec.upto (s : _root_.Go.ChangeSpec) : _root_.Go.OpenSpec := { _root_.Go.OpenSpec.ofChange s with cond := some uptoSmall }

/-- 'clacklaw.Puts', WHERE WHAT IT READS IS OF BULK AT MOST 1048576: true; the input reads as it did. -/
def putsUptoRow : OpenClaim := { program := "ytfnglkhhmplejaagreat", sum := "31653feb09b8cbf525225cf7fca25d58fb47be46fc4333a6def14cf26ae0fa33", func := "clack/clacklaw.Puts", spec := "puts", inPlace := ["internal/bytealg.MakeNoZero"], unfollowed := true, recurses := true, apart := false, narrowed := true }
def PutsUptoSaid : Prop := putsUptoRow.holds Tryz.pinned (OpenSpec.upto putsSpec)

/-- 'clacklaw.Comes', WHERE WHAT IT READS IS OF BULK AT MOST 1048576: true; the input reads as it did. -/
def comesUptoRow : OpenClaim := { program := "ytfnglkhhmplejaagreat", sum := "31653feb09b8cbf525225cf7fca25d58fb47be46fc4333a6def14cf26ae0fa33", func := "clack/clacklaw.Comes", spec := "comes", inPlace := ["internal/bytealg.MakeNoZero"], unfollowed := true, recurses := true, apart := false, narrowed := true }
def ComesUptoSaid : Prop := comesUptoRow.holds Tryz.pinned (OpenSpec.upto comesSpec)

/-- 'clacklaw.Sets', WHERE WHAT IT READS IS OF BULK AT MOST 1048576: true; the input reads as it did. -/
def setsUptoRow : OpenClaim := { program := "ytfnglkhhmplejaagreat", sum := "31653feb09b8cbf525225cf7fca25d58fb47be46fc4333a6def14cf26ae0fa33", func := "clack/clacklaw.Sets", spec := "sets", inPlace := ["internal/bytealg.MakeNoZero"], unfollowed := true, recurses := true, apart := false, narrowed := true }
def SetsUptoSaid : Prop := setsUptoRow.holds Tryz.pinned (OpenSpec.upto setsSpec)

/-- 'clacklaw.Reads', WHERE WHAT IT READS IS OF BULK AT MOST 1048576: true; the input reads as it did. -/
def readsUptoRow : OpenClaim := { program := "ytfnglkhhmplejaagreat", sum := "31653feb09b8cbf525225cf7fca25d58fb47be46fc4333a6def14cf26ae0fa33", func := "clack/clacklaw.Reads", spec := "reads", inPlace := ["internal/bytealg.MakeNoZero"], unfollowed := true, recurses := true, apart := false, narrowed := true }
def ReadsUptoSaid : Prop := readsUptoRow.holds Tryz.pinned (OpenSpec.upto readsSpec)

/-- 'clackkeep.Shown', WHERE WHAT IT READS IS OF BULK AT MOST 1048576: true; the input reads as it did. -/
def shownUptoRow : OpenClaim := { program := "ytfnglkhhmplejaagreat", sum := "31653feb09b8cbf525225cf7fca25d58fb47be46fc4333a6def14cf26ae0fa33", func := "clack/clackkeep.Shown", spec := "shown", inPlace := ["internal/bytealg.MakeNoZero"], unfollowed := true, recurses := true, apart := false, narrowed := true }
def ShownUptoSaid : Prop := shownUptoRow.holds Tryz.pinned (OpenSpec.upto shownSpec)

/-- 'clacklaw.All', WHERE WHAT IT READS IS OF BULK AT MOST 1048576: true; the input reads as it did. -/
def allUptoRow : OpenClaim := { program := "ytfnglkhhmplejaagreat", sum := "31653feb09b8cbf525225cf7fca25d58fb47be46fc4333a6def14cf26ae0fa33", func := "clack/clacklaw.All", spec := "all", inPlace := ["internal/bytealg.MakeNoZero"], unfollowed := true, recurses := true, apart := false, narrowed := true }
def AllUptoSaid : Prop := allUptoRow.holds Tryz.pinned (OpenSpec.upto allSpec)

end Rows
end Go.Proofs.YtfnglkhhmplejaaGreat
