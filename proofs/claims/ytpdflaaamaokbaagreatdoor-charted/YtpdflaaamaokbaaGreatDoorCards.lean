/-
  DERIVED. GIVEN WITH THE SEED: THE CARDS: each row of YtpdflaaamaokbaaGreatDoorRows.lean that lists a variable, with what it lists TIED to the program's text (the seventh form; the later family's looks); each row that meets fmt, with fmt's text TOLD by the authors' own Lean function (tested against real Go, not proved from fmt's source: count such statements apart). THE CARD IS WHAT COUNTS. Prove the row's statement (the work); the ties are given (YtpdflaaamaokbaaGreatDoorTie.lean); close each card by the builder's one call (the guide's Derived/Test/ToyasCard.lean, 'card_holds'). Laid BY PROGRAM, IN A SANDBOX (cutbox-door.mjs). By AI agents, Wed Nov 11 2026. No macro, syntax, notation, axiom, sorry.
-/
import Derived.Test.YtpdflaaamaokbaaGreatDoorRows
import GoSem.ClaimSeven
namespace Go.Proofs.YtpdflaaamaokbaaGreatDoor
namespace Rows

/-- THE TIED CARD OF 'realskeep.Charted'. -/
def chartedCard : Claim7 := { stood := { row := chartedRow, standIns := [], harness := (true, "2d3f3b5db7e3f71fa445613c0546da6d36f4da31c2e5bb49df83ec3429229334"), looks := false }, kinds := [], alts := [], laidByText := true, laidKinds := [.data, .data, .data], laidTests := true, laidLooks := .later }
def ChartedCardSaid : Prop := Claim7.holds Tryz.pinned (.plain (OpenSpec.ofChange chartedSpec)) chartedCard

/-- THE SECOND FORM's CARD OF 'realskeep.Charted'. -/
def chartedUptoCard : Claim7 := { stood := { row := chartedUptoRow, standIns := [], harness := (true, "2d3f3b5db7e3f71fa445613c0546da6d36f4da31c2e5bb49df83ec3429229334"), looks := false }, kinds := [], alts := [], laidByText := true, laidKinds := [.data, .data, .data], laidTests := true, laidLooks := .later }
def ChartedUptoCardSaid : Prop := Claim7.holds Tryz.pinned (.plain (OpenSpec.upto chartedSpec)) chartedUptoCard
end Rows
end Go.Proofs.YtpdflaaamaokbaaGreatDoor
