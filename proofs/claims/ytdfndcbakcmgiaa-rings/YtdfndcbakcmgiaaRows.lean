/-
  No cell of these rows narrows 'for every input' (looked for: loops, veiled, ifaces, maps, wideKeys, modest, calm, conditions, laid).
  DERIVED. THE GIVEN ROWS OF THIS SEAT. 11 by the template 'for every input the law returns true; each argument reads behind the call as it read before'; 0 by the template 'total and deterministic' (their statements: YtdfndcbakcmgiaaTotals.lean).
  GIVEN WITH THE SEED: the statements are not yours to turn. If you find one false, say at which input.
  Laid BY PROGRAM, IN A SANDBOX (cutbox-rows.mjs): the forced cells as the released guide's own fill.sh prints them over the translation 0f6374a2551a853e… (all of the seat's roots in one cut). By AI agents, Wed Nov 11 2026. No macro, syntax, notation, axiom, sorry.
-/
import Derived.Test.YtdfndcbakcmgiaaChecked
import GoSem.Claim
import GoSem.ClaimJoined
import GoSem.ClaimMapViews
import Derived.JoinedTies
import Derived.KernelRfl
namespace Go.Proofs.Ytdfndcbakcmgiaa
/- THE CELL 'sum', in the pinned program and in every row, IS THE sha256 OF THE DUMP (.gsa) THAT YtdfndcbakcmgiaaProg.lean LOADS. Nothing in Lean hashes anything: it is a label: what it is worth is what the hold of that sum in a sandbox is worth. -/
noncomputable def Try.pinned : Pinned := { name := "ytdfndcbakcmgiaa", sum := "0f6374a2551a853e7519f9ccc475a4ed56916fe79a4821420717856ef47fa2ad", checked := Try.checked }
namespace Rows
def none {H : Type} : Left H := { results := [], args := [] }

/-- 'embracelaw.Checks': WHATEVER THE INPUT: true; the input reads as it did. -/
def checksSpec : ChangeSpec := { name := "checks", fn := fun _ => fun
  | [d] => { results := [.lit (.bool true)], args := [d] }
  | _ => none }
def checksRow : OpenClaim := { program := "ytdfndcbakcmgiaa", sum := "0f6374a2551a853e7519f9ccc475a4ed56916fe79a4821420717856ef47fa2ad", func := "embrace/embracelaw.Checks", spec := "checks", apart := false }
def ChecksSaid : Prop := checksRow.holds Try.pinned (OpenSpec.ofChange checksSpec)

/-- ITS FALSE NEIGHBOUR: 'it returns false'. Refute it at one input. -/
def checksWrong : ChangeSpec := { name := "checks", fn := fun _ => fun
  | [d] => { results := [.lit (.bool false)], args := [d] }
  | _ => none }
def ChecksWrongFalsely : Prop := checksRow.holds Try.pinned (OpenSpec.ofChange checksWrong)

/-- 'embracelaw.Runs': WHATEVER THE INPUT: true; the input reads as it did. -/
def runsSpec : ChangeSpec := { name := "runs", fn := fun _ => fun
  | [d1, d2, d3] => { results := [.lit (.bool true)], args := [d1, d2, d3] }
  | _ => none }
def runsRow : OpenClaim := { program := "ytdfndcbakcmgiaa", sum := "0f6374a2551a853e7519f9ccc475a4ed56916fe79a4821420717856ef47fa2ad", func := "embrace/embracelaw.Runs", spec := "runs", apart := false }
def RunsSaid : Prop := runsRow.holds Try.pinned (OpenSpec.ofChange runsSpec)

/-- ITS FALSE NEIGHBOUR: 'it returns false'. Refute it at one input. -/
def runsWrong : ChangeSpec := { name := "runs", fn := fun _ => fun
  | [d1, d2, d3] => { results := [.lit (.bool false)], args := [d1, d2, d3] }
  | _ => none }
def RunsWrongFalsely : Prop := runsRow.holds Try.pinned (OpenSpec.ofChange runsWrong)

/-- 'embracelaw.Replays': WHATEVER THE INPUT: true; the input reads as it did. -/
def replaysSpec : ChangeSpec := { name := "replays", fn := fun _ => fun
  | [d1, d2] => { results := [.lit (.bool true)], args := [d1, d2] }
  | _ => none }
def replaysRow : OpenClaim := { program := "ytdfndcbakcmgiaa", sum := "0f6374a2551a853e7519f9ccc475a4ed56916fe79a4821420717856ef47fa2ad", func := "embrace/embracelaw.Replays", spec := "replays", apart := false }
def ReplaysSaid : Prop := replaysRow.holds Try.pinned (OpenSpec.ofChange replaysSpec)

/-- ITS FALSE NEIGHBOUR: 'it returns false'. Refute it at one input. -/
def replaysWrong : ChangeSpec := { name := "replays", fn := fun _ => fun
  | [d1, d2] => { results := [.lit (.bool false)], args := [d1, d2] }
  | _ => none }
def ReplaysWrongFalsely : Prop := replaysRow.holds Try.pinned (OpenSpec.ofChange replaysWrong)

/-- 'embracelaw.Asked': WHATEVER THE INPUT: true; the input reads as it did. -/
def askedSpec : ChangeSpec := { name := "asked", fn := fun _ => fun
  | [d1, d2] => { results := [.lit (.bool true)], args := [d1, d2] }
  | _ => none }
def askedRow : OpenClaim := { program := "ytdfndcbakcmgiaa", sum := "0f6374a2551a853e7519f9ccc475a4ed56916fe79a4821420717856ef47fa2ad", func := "embrace/embracelaw.Asked", spec := "asked", apart := false }
def AskedSaid : Prop := askedRow.holds Try.pinned (OpenSpec.ofChange askedSpec)

/-- ITS FALSE NEIGHBOUR: 'it returns false'. Refute it at one input. -/
def askedWrong : ChangeSpec := { name := "asked", fn := fun _ => fun
  | [d1, d2] => { results := [.lit (.bool false)], args := [d1, d2] }
  | _ => none }
def AskedWrongFalsely : Prop := askedRow.holds Try.pinned (OpenSpec.ofChange askedWrong)

/-- 'embracelaw.Befores': WHATEVER THE INPUT: true; the input reads as it did. -/
def beforesSpec : ChangeSpec := { name := "befores", fn := fun _ => fun
  | [d1, d2, d3, d4] => { results := [.lit (.bool true)], args := [d1, d2, d3, d4] }
  | _ => none }
def beforesRow : OpenClaim := { program := "ytdfndcbakcmgiaa", sum := "0f6374a2551a853e7519f9ccc475a4ed56916fe79a4821420717856ef47fa2ad", func := "embrace/embracelaw.Befores", spec := "befores", apart := false }
def BeforesSaid : Prop := beforesRow.holds Try.pinned (OpenSpec.ofChange beforesSpec)

/-- ITS FALSE NEIGHBOUR: 'it returns false'. Refute it at one input. -/
def beforesWrong : ChangeSpec := { name := "befores", fn := fun _ => fun
  | [d1, d2, d3, d4] => { results := [.lit (.bool false)], args := [d1, d2, d3, d4] }
  | _ => none }
def BeforesWrongFalsely : Prop := beforesRow.holds Try.pinned (OpenSpec.ofChange beforesWrong)

/-- 'embracelaw.Closes': WHATEVER THE INPUT: true; the input reads as it did. -/
def closesSpec : ChangeSpec := { name := "closes", fn := fun _ => fun
  | [d1, d2, d3] => { results := [.lit (.bool true)], args := [d1, d2, d3] }
  | _ => none }
def closesRow : OpenClaim := { program := "ytdfndcbakcmgiaa", sum := "0f6374a2551a853e7519f9ccc475a4ed56916fe79a4821420717856ef47fa2ad", func := "embrace/embracelaw.Closes", spec := "closes", apart := false }
def ClosesSaid : Prop := closesRow.holds Try.pinned (OpenSpec.ofChange closesSpec)

/-- ITS FALSE NEIGHBOUR: 'it returns false'. Refute it at one input. -/
def closesWrong : ChangeSpec := { name := "closes", fn := fun _ => fun
  | [d1, d2, d3] => { results := [.lit (.bool false)], args := [d1, d2, d3] }
  | _ => none }
def ClosesWrongFalsely : Prop := closesRow.holds Try.pinned (OpenSpec.ofChange closesWrong)

/-- 'embracelaw.Predicts': WHATEVER THE INPUT: true; the input reads as it did. -/
def predictsSpec : ChangeSpec := { name := "predicts", fn := fun _ => fun
  | [d1, d2, d3] => { results := [.lit (.bool true)], args := [d1, d2, d3] }
  | _ => none }
def predictsRow : OpenClaim := { program := "ytdfndcbakcmgiaa", sum := "0f6374a2551a853e7519f9ccc475a4ed56916fe79a4821420717856ef47fa2ad", func := "embrace/embracelaw.Predicts", spec := "predicts", recurses := true, apart := false }
def PredictsSaid : Prop := predictsRow.holds Try.pinned (OpenSpec.ofChange predictsSpec)

/-- ITS FALSE NEIGHBOUR: 'it returns false'. Refute it at one input. -/
def predictsWrong : ChangeSpec := { name := "predicts", fn := fun _ => fun
  | [d1, d2, d3] => { results := [.lit (.bool false)], args := [d1, d2, d3] }
  | _ => none }
def PredictsWrongFalsely : Prop := predictsRow.holds Try.pinned (OpenSpec.ofChange predictsWrong)

/-- 'embracelaw.Whole': WHATEVER THE INPUT: true; the input reads as it did. -/
def wholeSpec : ChangeSpec := { name := "whole", fn := fun _ => fun
  | [d1, d2] => { results := [.lit (.bool true)], args := [d1, d2] }
  | _ => none }
def wholeRow : OpenClaim := { program := "ytdfndcbakcmgiaa", sum := "0f6374a2551a853e7519f9ccc475a4ed56916fe79a4821420717856ef47fa2ad", func := "embrace/embracelaw.Whole", spec := "whole", apart := false }
def WholeSaid : Prop := wholeRow.holds Try.pinned (OpenSpec.ofChange wholeSpec)

/-- ITS FALSE NEIGHBOUR: 'it returns false'. Refute it at one input. -/
def wholeWrong : ChangeSpec := { name := "whole", fn := fun _ => fun
  | [d1, d2] => { results := [.lit (.bool false)], args := [d1, d2] }
  | _ => none }
def WholeWrongFalsely : Prop := wholeRow.holds Try.pinned (OpenSpec.ofChange wholeWrong)

/-- 'embracelaw.Fenced': WHATEVER THE INPUT: true; the input reads as it did. -/
def fencedSpec : ChangeSpec := { name := "fenced", fn := fun _ => fun
  | [d1, d2] => { results := [.lit (.bool true)], args := [d1, d2] }
  | _ => none }
def fencedRow : OpenClaim := { program := "ytdfndcbakcmgiaa", sum := "0f6374a2551a853e7519f9ccc475a4ed56916fe79a4821420717856ef47fa2ad", func := "embrace/embracelaw.Fenced", spec := "fenced", apart := false }
def FencedSaid : Prop := fencedRow.holds Try.pinned (OpenSpec.ofChange fencedSpec)

/-- ITS FALSE NEIGHBOUR: 'it returns false'. Refute it at one input. -/
def fencedWrong : ChangeSpec := { name := "fenced", fn := fun _ => fun
  | [d1, d2] => { results := [.lit (.bool false)], args := [d1, d2] }
  | _ => none }
def FencedWrongFalsely : Prop := fencedRow.holds Try.pinned (OpenSpec.ofChange fencedWrong)

/-- 'embracelaw.Closed': WHATEVER THE INPUT: true; the input reads as it did. -/
def closedSpec : ChangeSpec := { name := "closed", fn := fun _ => fun
  | [d1, d2, d3] => { results := [.lit (.bool true)], args := [d1, d2, d3] }
  | _ => none }
def closedRow : OpenClaim := { program := "ytdfndcbakcmgiaa", sum := "0f6374a2551a853e7519f9ccc475a4ed56916fe79a4821420717856ef47fa2ad", func := "embrace/embracelaw.Closed", spec := "closed", apart := false }
def ClosedSaid : Prop := closedRow.holds Try.pinned (OpenSpec.ofChange closedSpec)

/-- ITS FALSE NEIGHBOUR: 'it returns false'. Refute it at one input. -/
def closedWrong : ChangeSpec := { name := "closed", fn := fun _ => fun
  | [d1, d2, d3] => { results := [.lit (.bool false)], args := [d1, d2, d3] }
  | _ => none }
def ClosedWrongFalsely : Prop := closedRow.holds Try.pinned (OpenSpec.ofChange closedWrong)

/-- 'embracelaw.Rings': WHATEVER THE INPUT: true; the input reads as it did. -/
def ringsSpec : ChangeSpec := { name := "rings", fn := fun _ => fun
  | [d1, d2, d3, d4] => { results := [.lit (.bool true)], args := [d1, d2, d3, d4] }
  | _ => none }
def ringsRow : OpenClaim := { program := "ytdfndcbakcmgiaa", sum := "0f6374a2551a853e7519f9ccc475a4ed56916fe79a4821420717856ef47fa2ad", func := "embrace/embracelaw.Rings", spec := "rings", recurses := true, apart := false }
def RingsSaid : Prop := ringsRow.holds Try.pinned (OpenSpec.ofChange ringsSpec)

/-- ITS FALSE NEIGHBOUR: 'it returns false'. Refute it at one input. -/
def ringsWrong : ChangeSpec := { name := "rings", fn := fun _ => fun
  | [d1, d2, d3, d4] => { results := [.lit (.bool false)], args := [d1, d2, d3, d4] }
  | _ => none }
def RingsWrongFalsely : Prop := ringsRow.holds Try.pinned (OpenSpec.ofChange ringsWrong)

/- THE SECOND FORM. 'bulk': how many values and letters a reading holds, each counted each time it is reached (what is shared counts as often as it is met; a slice's spare places count too). A statement '..UptoSaid' is the law's where the arguments, and the package variables that the reading takes, are together of bulk at most 1048576: NARROWER than '..Said'. Prove '..Said' where nothing that the law and all that it calls make is longer than what came in: it says more and counts as full. Else prove '..UptoSaid'. A law counts once. -/
mutual
def uptoBulk {H : Type} : DataW H → Nat
  | .lit (.string bytes) => bytes.length + 1
  | .lit _ => 1
  | .nil => 1
  | .ptr d => uptoBulk d + 1
  | .slice elems spare => uptoBulkAll elems + uptoBulkAll spare + 1
  | .agg parts => uptoBulkAll parts + 1
  | .iface _ d => uptoBulk d + 1
  | .map entries => uptoBulkEntries entries + 1
  | .held _ => 1
def uptoBulkAll {H : Type} : List (DataW H) → Nat
  | [] => 0
  | d :: r => uptoBulk d + uptoBulkAll r
def uptoBulkEntries {H : Type} : List (Lit × DataW H) → Nat
  | [] => 0
  | x :: r => uptoBulkEntry x + uptoBulkEntries r
def uptoBulkEntry {H : Type} : Lit × DataW H → Nat
  | (.string bytes, d) => bytes.length + uptoBulk d + 1
  | (_, d) => uptoBulk d + 1
 end
def uptoSmall : (H : Type) → List (DataW H) → Bool := fun _ ds => decide (uptoBulkAll ds ≤ 1048576)
def OpenSpec.upto (s : _root_.Go.ChangeSpec) : _root_.Go.OpenSpec := { _root_.Go.OpenSpec.ofChange s with cond := some uptoSmall }

/-- 'embracelaw.Checks', WHERE WHAT IT READS IS OF BULK AT MOST 1048576: true; the input reads as it did. -/
def checksUptoRow : OpenClaim := { program := "ytdfndcbakcmgiaa", sum := "0f6374a2551a853e7519f9ccc475a4ed56916fe79a4821420717856ef47fa2ad", func := "embrace/embracelaw.Checks", spec := "checks", apart := false, narrowed := true }
def ChecksUptoSaid : Prop := checksUptoRow.holds Try.pinned (OpenSpec.upto checksSpec)

/-- 'embracelaw.Runs', WHERE WHAT IT READS IS OF BULK AT MOST 1048576: true; the input reads as it did. -/
def runsUptoRow : OpenClaim := { program := "ytdfndcbakcmgiaa", sum := "0f6374a2551a853e7519f9ccc475a4ed56916fe79a4821420717856ef47fa2ad", func := "embrace/embracelaw.Runs", spec := "runs", apart := false, narrowed := true }
def RunsUptoSaid : Prop := runsUptoRow.holds Try.pinned (OpenSpec.upto runsSpec)

/-- 'embracelaw.Replays', WHERE WHAT IT READS IS OF BULK AT MOST 1048576: true; the input reads as it did. -/
def replaysUptoRow : OpenClaim := { program := "ytdfndcbakcmgiaa", sum := "0f6374a2551a853e7519f9ccc475a4ed56916fe79a4821420717856ef47fa2ad", func := "embrace/embracelaw.Replays", spec := "replays", apart := false, narrowed := true }
def ReplaysUptoSaid : Prop := replaysUptoRow.holds Try.pinned (OpenSpec.upto replaysSpec)

/-- 'embracelaw.Asked', WHERE WHAT IT READS IS OF BULK AT MOST 1048576: true; the input reads as it did. -/
def askedUptoRow : OpenClaim := { program := "ytdfndcbakcmgiaa", sum := "0f6374a2551a853e7519f9ccc475a4ed56916fe79a4821420717856ef47fa2ad", func := "embrace/embracelaw.Asked", spec := "asked", apart := false, narrowed := true }
def AskedUptoSaid : Prop := askedUptoRow.holds Try.pinned (OpenSpec.upto askedSpec)

/-- 'embracelaw.Befores', WHERE WHAT IT READS IS OF BULK AT MOST 1048576: true; the input reads as it did. -/
def beforesUptoRow : OpenClaim := { program := "ytdfndcbakcmgiaa", sum := "0f6374a2551a853e7519f9ccc475a4ed56916fe79a4821420717856ef47fa2ad", func := "embrace/embracelaw.Befores", spec := "befores", apart := false, narrowed := true }
def BeforesUptoSaid : Prop := beforesUptoRow.holds Try.pinned (OpenSpec.upto beforesSpec)

/-- 'embracelaw.Closes', WHERE WHAT IT READS IS OF BULK AT MOST 1048576: true; the input reads as it did. -/
def closesUptoRow : OpenClaim := { program := "ytdfndcbakcmgiaa", sum := "0f6374a2551a853e7519f9ccc475a4ed56916fe79a4821420717856ef47fa2ad", func := "embrace/embracelaw.Closes", spec := "closes", apart := false, narrowed := true }
def ClosesUptoSaid : Prop := closesUptoRow.holds Try.pinned (OpenSpec.upto closesSpec)

/-- 'embracelaw.Predicts', WHERE WHAT IT READS IS OF BULK AT MOST 1048576: true; the input reads as it did. -/
def predictsUptoRow : OpenClaim := { program := "ytdfndcbakcmgiaa", sum := "0f6374a2551a853e7519f9ccc475a4ed56916fe79a4821420717856ef47fa2ad", func := "embrace/embracelaw.Predicts", spec := "predicts", recurses := true, apart := false, narrowed := true }
def PredictsUptoSaid : Prop := predictsUptoRow.holds Try.pinned (OpenSpec.upto predictsSpec)

/-- 'embracelaw.Whole', WHERE WHAT IT READS IS OF BULK AT MOST 1048576: true; the input reads as it did. -/
def wholeUptoRow : OpenClaim := { program := "ytdfndcbakcmgiaa", sum := "0f6374a2551a853e7519f9ccc475a4ed56916fe79a4821420717856ef47fa2ad", func := "embrace/embracelaw.Whole", spec := "whole", apart := false, narrowed := true }
def WholeUptoSaid : Prop := wholeUptoRow.holds Try.pinned (OpenSpec.upto wholeSpec)

/-- 'embracelaw.Fenced', WHERE WHAT IT READS IS OF BULK AT MOST 1048576: true; the input reads as it did. -/
def fencedUptoRow : OpenClaim := { program := "ytdfndcbakcmgiaa", sum := "0f6374a2551a853e7519f9ccc475a4ed56916fe79a4821420717856ef47fa2ad", func := "embrace/embracelaw.Fenced", spec := "fenced", apart := false, narrowed := true }
def FencedUptoSaid : Prop := fencedUptoRow.holds Try.pinned (OpenSpec.upto fencedSpec)

/-- 'embracelaw.Closed', WHERE WHAT IT READS IS OF BULK AT MOST 1048576: true; the input reads as it did. -/
def closedUptoRow : OpenClaim := { program := "ytdfndcbakcmgiaa", sum := "0f6374a2551a853e7519f9ccc475a4ed56916fe79a4821420717856ef47fa2ad", func := "embrace/embracelaw.Closed", spec := "closed", apart := false, narrowed := true }
def ClosedUptoSaid : Prop := closedUptoRow.holds Try.pinned (OpenSpec.upto closedSpec)

/-- 'embracelaw.Rings', WHERE WHAT IT READS IS OF BULK AT MOST 1048576: true; the input reads as it did. -/
def ringsUptoRow : OpenClaim := { program := "ytdfndcbakcmgiaa", sum := "0f6374a2551a853e7519f9ccc475a4ed56916fe79a4821420717856ef47fa2ad", func := "embrace/embracelaw.Rings", spec := "rings", recurses := true, apart := false, narrowed := true }
def RingsUptoSaid : Prop := ringsUptoRow.holds Try.pinned (OpenSpec.upto ringsSpec)

end Rows
end Go.Proofs.Ytdfndcbakcmgiaa
