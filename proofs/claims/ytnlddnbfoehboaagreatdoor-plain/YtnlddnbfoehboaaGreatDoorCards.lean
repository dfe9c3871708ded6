/-
  DERIVED. GIVEN WITH THE SEED: THE CARDS: each row of YtnlddnbfoehboaaGreatDoorRows.lean that lists a variable, with what it lists TIED to the program's text (the seventh form; the later family's looks); each row that meets fmt, with fmt's text TOLD by the authors' own Lean function (tested against real Go, not proved from fmt's source: count such statements apart). THE CARD IS WHAT COUNTS. Prove the row's statement (the work); the ties are given (YtnlddnbfoehboaaGreatDoorTie.lean); close each card by the builder's one call (the guide's Derived/Test/ToyasCard.lean, 'card_holds'). Laid BY PROGRAM, IN A SANDBOX (cutbox-door.mjs). By AI agents, Wed Nov 11 2026. No macro, syntax, notation, axiom, sorry.
-/
import Derived.Test.YtnlddnbfoehboaaGreatDoorRows
import GoSem.ClaimSeven
namespace Go.Proofs.YtnlddnbfoehboaaGreatDoor
namespace Rows

/-- THE TIED CARD OF 'realslaw.Plain'. -/
def plainCard : Claim7 := { stood := { row := plainRow, standIns := [], harness := (true, "5a05d813f938ed0a2d30ca5b3017d15da4b800bf08957aea3aa2018a6548245e"), looks := false }, kinds := [], alts := [], laidByText := true, laidKinds := [.data, .data, .data], laidTests := true, laidLooks := .later }
def PlainCardSaid : Prop := Claim7.holds Tryz.pinned (.plain (OpenSpec.ofChange plainSpec)) plainCard

/-- THE SECOND FORM's CARD OF 'realslaw.Plain'. -/
def plainUptoCard : Claim7 := { stood := { row := plainUptoRow, standIns := [], harness := (true, "5a05d813f938ed0a2d30ca5b3017d15da4b800bf08957aea3aa2018a6548245e"), looks := false }, kinds := [], alts := [], laidByText := true, laidKinds := [.data, .data, .data], laidTests := true, laidLooks := .later }
def PlainUptoCardSaid : Prop := Claim7.holds Tryz.pinned (.plain (OpenSpec.upto plainSpec)) plainUptoCard
end Rows
end Go.Proofs.YtnlddnbfoehboaaGreatDoor
