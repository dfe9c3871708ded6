/-
  DERIVED. GIVEN WITH THE SEED: THE CARDS: each row of YtkmojpfpfoaloaaGreatDoorRows.lean that lists a variable, with what it lists TIED to the program's text (the seventh form; the later family's looks); each row that meets fmt, with fmt's text TOLD by the authors' own Lean function (tested against real Go, not proved from fmt's source: count such statements apart). THE CARD IS WHAT COUNTS. Prove the row's statement (the work); the ties are given (YtkmojpfpfoaloaaGreatDoorTie.lean); close each card by the builder's one call (the guide's Derived/Test/ToyasCard.lean, 'card_holds'). Laid BY PROGRAM, IN A SANDBOX (cutbox-door.mjs). By AI agents, Wed Nov 11 2026. No macro, syntax, notation, axiom, sorry.
-/
import Derived.Test.YtkmojpfpfoaloaaGreatDoorRows
import GoSem.ClaimSeven
namespace Go.Proofs.YtkmojpfpfoaloaaGreatDoor
namespace Rows

/-- THE TIED CARD OF 'realskeep.Nested'. -/
def nestedCard : Claim7 := { stood := { row := nestedRow, standIns := [], harness := (true, "4ca1ca7670ba9df0648efcd20f7c07e27ea5b94187310f73f2d494fb6784315c"), looks := false }, kinds := [], alts := [], laidByText := true, laidKinds := [.data, .data, .data], laidTests := true, laidLooks := .later }
def NestedCardSaid : Prop := Claim7.holds Tryz.pinned (.plain (OpenSpec.ofChange nestedSpec)) nestedCard

/-- THE SECOND FORM's CARD OF 'realskeep.Nested'. -/
def nestedUptoCard : Claim7 := { stood := { row := nestedUptoRow, standIns := [], harness := (true, "4ca1ca7670ba9df0648efcd20f7c07e27ea5b94187310f73f2d494fb6784315c"), looks := false }, kinds := [], alts := [], laidByText := true, laidKinds := [.data, .data, .data], laidTests := true, laidLooks := .later }
def NestedUptoCardSaid : Prop := Claim7.holds Tryz.pinned (.plain (OpenSpec.upto nestedSpec)) nestedUptoCard
end Rows
end Go.Proofs.YtkmojpfpfoaloaaGreatDoor
