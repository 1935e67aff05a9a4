/-
  DERIVED. GIVEN WITH THE SEED: THE CARDS: each row of YtdfndcbakcmgiaaDoorRows.lean that lists a variable, with what it lists TIED to the program's text (the seventh form; the later family's looks); each row that meets fmt, with fmt's text TOLD by the authors' own Lean function (tested against real Go, not proved from fmt's source: count such statements apart). THE CARD IS WHAT COUNTS. Prove the row's statement (the work); the ties are given (YtdfndcbakcmgiaaDoorTie.lean); close each card by the builder's one call (the guide's Derived/Test/ToyasCard.lean, 'card_holds'). Laid BY PROGRAM, IN A SANDBOX (cutbox-door.mjs). By AI agents, Wed Nov 11 2026. No macro, syntax, notation, axiom, sorry.
-/
import Derived.Test.YtdfndcbakcmgiaaDoorRows
import GoSem.ClaimSeven
namespace Go.Proofs.YtdfndcbakcmgiaaDoor
namespace Rows

/-- THE TIED CARD OF 'embracelaw.Searches'. -/
def searchesCard : Claim7 := { stood := { row := searchesRow, standIns := [], harness := (true, "9bd4cd91f60616f0f6485864b54a1e7e40e0f5e0220a6b021978f8bc04aa038c"), looks := false }, kinds := [], alts := [], laidByText := true, laidKinds := [.data, .data, .data], laidTests := true, laidLooks := .later }
def SearchesCardSaid : Prop := Claim7.holds Tryd.pinned (.plain (OpenSpec.ofChange searchesSpec)) searchesCard

/-- THE SECOND FORM's CARD OF 'embracelaw.Searches'. -/
def searchesUptoCard : Claim7 := { stood := { row := searchesUptoRow, standIns := [], harness := (true, "9bd4cd91f60616f0f6485864b54a1e7e40e0f5e0220a6b021978f8bc04aa038c"), looks := false }, kinds := [], alts := [], laidByText := true, laidKinds := [.data, .data, .data], laidTests := true, laidLooks := .later }
def SearchesUptoCardSaid : Prop := Claim7.holds Tryd.pinned (.plain (OpenSpec.upto searchesSpec)) searchesUptoCard
end Rows
end Go.Proofs.YtdfndcbakcmgiaaDoor
