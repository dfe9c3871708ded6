/-
  DERIVED. GIVEN WITH THE SEED: THE CARDS: each row of YthhffdeihoofiaaGreatDoorRows.lean that lists a variable, with what it lists TIED to the program's text (the seventh form; the later family's looks); each row that meets fmt, with fmt's text TOLD by the authors' own Lean function (tested against real Go, not proved from fmt's source: count such statements apart). THE CARD IS WHAT COUNTS. Prove the row's statement (the work); the ties are given (YthhffdeihoofiaaGreatDoorTie.lean); close each card by the builder's one call (the guide's Derived/Test/ToyasCard.lean, 'card_holds'). Laid BY PROGRAM, IN A SANDBOX (cutbox-door.mjs). By AI agents, Wed Nov 11 2026. No macro, syntax, notation, axiom, sorry.
-/
import Derived.Test.YthhffdeihoofiaaGreatDoorRows
import GoSem.ClaimSeven
namespace Go.Proofs.YthhffdeihoofiaaGreatDoor
namespace Rows

/-- THE TIED CARD OF 'realskeep.Fuelled'. -/
def fuelledCard : Claim7 := { stood := { row := fuelledRow, standIns := [], harness := (true, "e71db4c37f80aa06c63a20552f4b6a016faa35273686973195f9ae72135bf336"), looks := false }, kinds := [], alts := [], laidByText := true, laidKinds := [.data, .data, .data], laidTests := true, laidLooks := .later }
def FuelledCardSaid : Prop := Claim7.holds Tryz.pinned (.plain (OpenSpec.ofChange fuelledSpec)) fuelledCard

/-- THE SECOND FORM's CARD OF 'realskeep.Fuelled'. -/
def fuelledUptoCard : Claim7 := { stood := { row := fuelledUptoRow, standIns := [], harness := (true, "e71db4c37f80aa06c63a20552f4b6a016faa35273686973195f9ae72135bf336"), looks := false }, kinds := [], alts := [], laidByText := true, laidKinds := [.data, .data, .data], laidTests := true, laidLooks := .later }
def FuelledUptoCardSaid : Prop := Claim7.holds Tryz.pinned (.plain (OpenSpec.upto fuelledSpec)) fuelledUptoCard
end Rows
end Go.Proofs.YthhffdeihoofiaaGreatDoor
