/-
  DERIVED. GIVEN WITH THE SEED: THE CARDS: each row of YtmepffenlgedbaaDoorRows.lean that lists a variable, with what it lists TIED to the program's text (the seventh form; the later family's looks); each row that meets fmt, with fmt's text TOLD by the authors' own Lean function (tested against real Go, not proved from fmt's source: count such statements apart). THE CARD IS WHAT COUNTS. Prove the row's statement (the work); the ties are given (YtmepffenlgedbaaDoorTie.lean); close each card by the builder's one call (the guide's Derived/Test/ToyasCard.lean, 'card_holds'). Laid BY PROGRAM, IN A SANDBOX (cutbox-door.mjs). By AI agents, Wed Nov 11 2026. No macro, syntax, notation, axiom, sorry.
-/
import Derived.Test.YtmepffenlgedbaaDoorRows
import GoSem.ClaimSeven
namespace Go.Proofs.YtmepffenlgedbaaDoor
namespace Rows

/-- THE TIED CARD OF 'realskeep.Written'. -/
def writtenCard : Claim7 := { stood := { row := writtenRow, standIns := [], harness := (true, "ef6f2b383fae46a9434e22eab01d1e79c49adb5f7c5de9ab953d06731407e0eb"), looks := false }, kinds := [], alts := [], laidByText := true, laidKinds := [.data, .data, .data], laidTests := true, laidLooks := .later }
def WrittenCardSaid : Prop := Claim7.holds Tryd.pinned (.plain (OpenSpec.ofChange writtenSpec)) writtenCard

/-- THE SECOND FORM's CARD OF 'realskeep.Written'. -/
def writtenUptoCard : Claim7 := { stood := { row := writtenUptoRow, standIns := [], harness := (true, "ef6f2b383fae46a9434e22eab01d1e79c49adb5f7c5de9ab953d06731407e0eb"), looks := false }, kinds := [], alts := [], laidByText := true, laidKinds := [.data, .data, .data], laidTests := true, laidLooks := .later }
def WrittenUptoCardSaid : Prop := Claim7.holds Tryd.pinned (.plain (OpenSpec.upto writtenSpec)) writtenUptoCard
end Rows
end Go.Proofs.YtmepffenlgedbaaDoor
