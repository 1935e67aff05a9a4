/-
  DERIVED. GIVEN WITH THE SEED: THE CARDS: each row of YtdfndcbakcmgiabDoorRows.lean that lists a variable, with what it lists TIED to the program's text (the seventh form; the later family's looks); each row that meets fmt, with fmt's text TOLD by the authors' own Lean function (tested against real Go, not proved from fmt's source: count such statements apart). THE CARD IS WHAT COUNTS. Prove the row's statement (the work); the ties are given (YtdfndcbakcmgiabDoorTie.lean); close each card by the builder's one call (the guide's Derived/Test/ToyasCard.lean, 'card_holds'). Laid BY PROGRAM, IN A SANDBOX (cutbox-door.mjs). By AI agents, Wed Nov 11 2026. No macro, syntax, notation, axiom, sorry.
-/
import Derived.Test.YtdfndcbakcmgiabDoorRows
import GoSem.ClaimSeven
namespace Go.Proofs.YtdfndcbakcmgiabDoor
namespace Rows

/-- THE TIED CARD OF 'embracelaw.Told'. -/
def toldCard : Claim7 := { stood := { row := toldRow, standIns := [], harness := (true, "a0e784edd88319a14aaba0b614f45cefec0fd2098cc4727c913590f9b38d2867"), looks := false }, kinds := [], alts := [], laidByText := true, laidKinds := [.data, .data, .data], laidTests := true, laidLooks := .later }
def ToldCardSaid : Prop := Claim7.holds Tryd.pinned (.plain (OpenSpec.ofChange toldSpec)) toldCard

/-- THE TIED CARD OF 'embracelaw.Climbing'. -/
def climbingCard : Claim7 := { stood := { row := climbingRow, standIns := [], harness := (true, "a0e784edd88319a14aaba0b614f45cefec0fd2098cc4727c913590f9b38d2867"), looks := false }, kinds := [], alts := [], laidByText := true, laidKinds := [.data, .data, .data], laidTests := true, laidLooks := .later }
def ClimbingCardSaid : Prop := Claim7.holds Tryd.pinned (.plain (OpenSpec.ofChange climbingSpec)) climbingCard

/-- THE TIED CARD OF 'embracelaw.Least'. -/
def leastCard : Claim7 := { stood := { row := leastRow, standIns := [], harness := (true, "a0e784edd88319a14aaba0b614f45cefec0fd2098cc4727c913590f9b38d2867"), looks := false }, kinds := [], alts := [], laidByText := true, laidKinds := [.data, .data, .data], laidTests := true, laidLooks := .later }
def LeastCardSaid : Prop := Claim7.holds Tryd.pinned (.plain (OpenSpec.ofChange leastSpec)) leastCard

/-- THE SECOND FORM's CARD OF 'embracelaw.Told'. -/
def toldUptoCard : Claim7 := { stood := { row := toldUptoRow, standIns := [], harness := (true, "a0e784edd88319a14aaba0b614f45cefec0fd2098cc4727c913590f9b38d2867"), looks := false }, kinds := [], alts := [], laidByText := true, laidKinds := [.data, .data, .data], laidTests := true, laidLooks := .later }
def ToldUptoCardSaid : Prop := Claim7.holds Tryd.pinned (.plain (OpenSpec.upto toldSpec)) toldUptoCard

/-- THE SECOND FORM's CARD OF 'embracelaw.Climbing'. -/
def climbingUptoCard : Claim7 := { stood := { row := climbingUptoRow, standIns := [], harness := (true, "a0e784edd88319a14aaba0b614f45cefec0fd2098cc4727c913590f9b38d2867"), looks := false }, kinds := [], alts := [], laidByText := true, laidKinds := [.data, .data, .data], laidTests := true, laidLooks := .later }
def ClimbingUptoCardSaid : Prop := Claim7.holds Tryd.pinned (.plain (OpenSpec.upto climbingSpec)) climbingUptoCard

/-- THE SECOND FORM's CARD OF 'embracelaw.Least'. -/
def leastUptoCard : Claim7 := { stood := { row := leastUptoRow, standIns := [], harness := (true, "a0e784edd88319a14aaba0b614f45cefec0fd2098cc4727c913590f9b38d2867"), looks := false }, kinds := [], alts := [], laidByText := true, laidKinds := [.data, .data, .data], laidTests := true, laidLooks := .later }
def LeastUptoCardSaid : Prop := Claim7.holds Tryd.pinned (.plain (OpenSpec.upto leastSpec)) leastUptoCard
end Rows
end Go.Proofs.YtdfndcbakcmgiabDoor
