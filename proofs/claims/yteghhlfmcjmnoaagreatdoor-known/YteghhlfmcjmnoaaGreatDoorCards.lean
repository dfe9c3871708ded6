/-
  DERIVED. GIVEN WITH THE SEED: THE CARDS: each row of YteghhlfmcjmnoaaGreatDoorRows.lean that lists a variable, with what it lists TIED to the program's text (the seventh form; the later family's looks); each row that meets fmt, with fmt's text TOLD by the authors' own Lean function (tested against real Go, not proved from fmt's source: count such statements apart). THE CARD IS WHAT COUNTS. Prove the row's statement (the work); the ties are given (YteghhlfmcjmnoaaGreatDoorTie.lean); close each card by the builder's one call (the guide's Derived/Test/ToyasCard.lean, 'card_holds'). Laid BY PROGRAM, IN A SANDBOX (cutbox-door.mjs). By AI agents, Wed Nov 11 2026. No macro, syntax, notation, axiom, sorry.
-/
import Derived.Test.YteghhlfmcjmnoaaGreatDoorRows
import GoSem.ClaimSeven
namespace Go.Proofs.YteghhlfmcjmnoaaGreatDoor
namespace Rows

/-- THE TIED CARD OF 'realskeep.Charted'. -/
def chartedCard : Claim7 := { stood := { row := chartedRow, standIns := [], harness := (true, "f6beace50240a37c951a6ef484f957eb89e2383a445fe575641cf9423f368c72"), looks := false }, kinds := [], alts := [], laidByText := true, laidKinds := [.data, .data, .data], laidTests := true, laidLooks := .later }
def ChartedCardSaid : Prop := Claim7.holds Tryz.pinned (.plain (OpenSpec.ofChange chartedSpec)) chartedCard

/-- THE TIED CARD OF 'realskeep.Nested'. -/
def nestedCard : Claim7 := { stood := { row := nestedRow, standIns := [], harness := (true, "f6beace50240a37c951a6ef484f957eb89e2383a445fe575641cf9423f368c72"), looks := false }, kinds := [], alts := [], laidByText := true, laidKinds := [.data, .data, .data], laidTests := true, laidLooks := .later }
def NestedCardSaid : Prop := Claim7.holds Tryz.pinned (.plain (OpenSpec.ofChange nestedSpec)) nestedCard

/-- THE TIED CARD OF 'realskeep.Within'. -/
def withinCard : Claim7 := { stood := { row := withinRow, standIns := [], harness := (true, "f6beace50240a37c951a6ef484f957eb89e2383a445fe575641cf9423f368c72"), looks := false }, kinds := [], alts := [], laidByText := true, laidKinds := [.data, .data, .data], laidTests := true, laidLooks := .later }
def WithinCardSaid : Prop := Claim7.holds Tryz.pinned (.plain (OpenSpec.ofChange withinSpec)) withinCard

/-- THE TIED CARD OF 'realskeep.Known'. -/
def knownCard : Claim7 := { stood := { row := knownRow, standIns := [], harness := (true, "f6beace50240a37c951a6ef484f957eb89e2383a445fe575641cf9423f368c72"), looks := false }, kinds := [], alts := [], laidByText := true, laidKinds := [.data, .data, .data], laidTests := true, laidLooks := .later }
def KnownCardSaid : Prop := Claim7.holds Tryz.pinned (.plain (OpenSpec.ofChange knownSpec)) knownCard

/-- THE TIED CARD OF 'realskeep.Denied'. -/
def deniedCard : Claim7 := { stood := { row := deniedRow, standIns := [], harness := (true, "f6beace50240a37c951a6ef484f957eb89e2383a445fe575641cf9423f368c72"), looks := false }, kinds := [], alts := [], laidByText := true, laidKinds := [.data, .data, .data], laidTests := true, laidLooks := .later }
def DeniedCardSaid : Prop := Claim7.holds Tryz.pinned (.plain (OpenSpec.ofChange deniedSpec)) deniedCard

/-- THE TIED CARD OF 'realskeep.Enclosed'. -/
def enclosedCard : Claim7 := { stood := { row := enclosedRow, standIns := [], harness := (true, "f6beace50240a37c951a6ef484f957eb89e2383a445fe575641cf9423f368c72"), looks := false }, kinds := [], alts := [], laidByText := true, laidKinds := [.data, .data, .data], laidTests := true, laidLooks := .later }
def EnclosedCardSaid : Prop := Claim7.holds Tryz.pinned (.plain (OpenSpec.ofChange enclosedSpec)) enclosedCard

/-- THE TIED CARD OF 'realskeep.Fuelled'. -/
def fuelledCard : Claim7 := { stood := { row := fuelledRow, standIns := [], harness := (true, "f6beace50240a37c951a6ef484f957eb89e2383a445fe575641cf9423f368c72"), looks := false }, kinds := [], alts := [], laidByText := true, laidKinds := [.data, .data, .data], laidTests := true, laidLooks := .later }
def FuelledCardSaid : Prop := Claim7.holds Tryz.pinned (.plain (OpenSpec.ofChange fuelledSpec)) fuelledCard

/-- THE TIED CARD OF 'realskeep.Between'. -/
def betweenCard : Claim7 := { stood := { row := betweenRow, standIns := [], harness := (true, "f6beace50240a37c951a6ef484f957eb89e2383a445fe575641cf9423f368c72"), looks := false }, kinds := [], alts := [], laidByText := true, laidKinds := [.data, .data, .data], laidTests := true, laidLooks := .later }
def BetweenCardSaid : Prop := Claim7.holds Tryz.pinned (.plain (OpenSpec.ofChange betweenSpec)) betweenCard

/-- THE TIED CARD OF 'realskeep.Ordered'. -/
def orderedCard : Claim7 := { stood := { row := orderedRow, standIns := [], harness := (true, "f6beace50240a37c951a6ef484f957eb89e2383a445fe575641cf9423f368c72"), looks := false }, kinds := [], alts := [], laidByText := true, laidKinds := [.data, .data, .data], laidTests := true, laidLooks := .later }
def OrderedCardSaid : Prop := Claim7.holds Tryz.pinned (.plain (OpenSpec.ofChange orderedSpec)) orderedCard

/-- THE TIED CARD OF 'realskeep.Equal'. -/
def equalCard : Claim7 := { stood := { row := equalRow, standIns := [], harness := (true, "f6beace50240a37c951a6ef484f957eb89e2383a445fe575641cf9423f368c72"), looks := false }, kinds := [], alts := [], laidByText := true, laidKinds := [.data, .data, .data], laidTests := true, laidLooks := .later }
def EqualCardSaid : Prop := Claim7.holds Tryz.pinned (.plain (OpenSpec.ofChange equalSpec)) equalCard

/-- THE SECOND FORM's CARD OF 'realskeep.Charted'. -/
def chartedUptoCard : Claim7 := { stood := { row := chartedUptoRow, standIns := [], harness := (true, "f6beace50240a37c951a6ef484f957eb89e2383a445fe575641cf9423f368c72"), looks := false }, kinds := [], alts := [], laidByText := true, laidKinds := [.data, .data, .data], laidTests := true, laidLooks := .later }
def ChartedUptoCardSaid : Prop := Claim7.holds Tryz.pinned (.plain (OpenSpec.upto chartedSpec)) chartedUptoCard

/-- THE SECOND FORM's CARD OF 'realskeep.Nested'. -/
def nestedUptoCard : Claim7 := { stood := { row := nestedUptoRow, standIns := [], harness := (true, "f6beace50240a37c951a6ef484f957eb89e2383a445fe575641cf9423f368c72"), looks := false }, kinds := [], alts := [], laidByText := true, laidKinds := [.data, .data, .data], laidTests := true, laidLooks := .later }
def NestedUptoCardSaid : Prop := Claim7.holds Tryz.pinned (.plain (OpenSpec.upto nestedSpec)) nestedUptoCard

/-- THE SECOND FORM's CARD OF 'realskeep.Within'. -/
def withinUptoCard : Claim7 := { stood := { row := withinUptoRow, standIns := [], harness := (true, "f6beace50240a37c951a6ef484f957eb89e2383a445fe575641cf9423f368c72"), looks := false }, kinds := [], alts := [], laidByText := true, laidKinds := [.data, .data, .data], laidTests := true, laidLooks := .later }
def WithinUptoCardSaid : Prop := Claim7.holds Tryz.pinned (.plain (OpenSpec.upto withinSpec)) withinUptoCard

/-- THE SECOND FORM's CARD OF 'realskeep.Known'. -/
def knownUptoCard : Claim7 := { stood := { row := knownUptoRow, standIns := [], harness := (true, "f6beace50240a37c951a6ef484f957eb89e2383a445fe575641cf9423f368c72"), looks := false }, kinds := [], alts := [], laidByText := true, laidKinds := [.data, .data, .data], laidTests := true, laidLooks := .later }
def KnownUptoCardSaid : Prop := Claim7.holds Tryz.pinned (.plain (OpenSpec.upto knownSpec)) knownUptoCard

/-- THE SECOND FORM's CARD OF 'realskeep.Denied'. -/
def deniedUptoCard : Claim7 := { stood := { row := deniedUptoRow, standIns := [], harness := (true, "f6beace50240a37c951a6ef484f957eb89e2383a445fe575641cf9423f368c72"), looks := false }, kinds := [], alts := [], laidByText := true, laidKinds := [.data, .data, .data], laidTests := true, laidLooks := .later }
def DeniedUptoCardSaid : Prop := Claim7.holds Tryz.pinned (.plain (OpenSpec.upto deniedSpec)) deniedUptoCard

/-- THE SECOND FORM's CARD OF 'realskeep.Enclosed'. -/
def enclosedUptoCard : Claim7 := { stood := { row := enclosedUptoRow, standIns := [], harness := (true, "f6beace50240a37c951a6ef484f957eb89e2383a445fe575641cf9423f368c72"), looks := false }, kinds := [], alts := [], laidByText := true, laidKinds := [.data, .data, .data], laidTests := true, laidLooks := .later }
def EnclosedUptoCardSaid : Prop := Claim7.holds Tryz.pinned (.plain (OpenSpec.upto enclosedSpec)) enclosedUptoCard

/-- THE SECOND FORM's CARD OF 'realskeep.Fuelled'. -/
def fuelledUptoCard : Claim7 := { stood := { row := fuelledUptoRow, standIns := [], harness := (true, "f6beace50240a37c951a6ef484f957eb89e2383a445fe575641cf9423f368c72"), looks := false }, kinds := [], alts := [], laidByText := true, laidKinds := [.data, .data, .data], laidTests := true, laidLooks := .later }
def FuelledUptoCardSaid : Prop := Claim7.holds Tryz.pinned (.plain (OpenSpec.upto fuelledSpec)) fuelledUptoCard

/-- THE SECOND FORM's CARD OF 'realskeep.Between'. -/
def betweenUptoCard : Claim7 := { stood := { row := betweenUptoRow, standIns := [], harness := (true, "f6beace50240a37c951a6ef484f957eb89e2383a445fe575641cf9423f368c72"), looks := false }, kinds := [], alts := [], laidByText := true, laidKinds := [.data, .data, .data], laidTests := true, laidLooks := .later }
def BetweenUptoCardSaid : Prop := Claim7.holds Tryz.pinned (.plain (OpenSpec.upto betweenSpec)) betweenUptoCard

/-- THE SECOND FORM's CARD OF 'realskeep.Ordered'. -/
def orderedUptoCard : Claim7 := { stood := { row := orderedUptoRow, standIns := [], harness := (true, "f6beace50240a37c951a6ef484f957eb89e2383a445fe575641cf9423f368c72"), looks := false }, kinds := [], alts := [], laidByText := true, laidKinds := [.data, .data, .data], laidTests := true, laidLooks := .later }
def OrderedUptoCardSaid : Prop := Claim7.holds Tryz.pinned (.plain (OpenSpec.upto orderedSpec)) orderedUptoCard

/-- THE SECOND FORM's CARD OF 'realskeep.Equal'. -/
def equalUptoCard : Claim7 := { stood := { row := equalUptoRow, standIns := [], harness := (true, "f6beace50240a37c951a6ef484f957eb89e2383a445fe575641cf9423f368c72"), looks := false }, kinds := [], alts := [], laidByText := true, laidKinds := [.data, .data, .data], laidTests := true, laidLooks := .later }
def EqualUptoCardSaid : Prop := Claim7.holds Tryz.pinned (.plain (OpenSpec.upto equalSpec)) equalUptoCard
end Rows
end Go.Proofs.YteghhlfmcjmnoaaGreatDoor
