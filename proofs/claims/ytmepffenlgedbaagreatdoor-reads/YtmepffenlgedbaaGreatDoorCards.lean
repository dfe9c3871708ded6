/-
  DERIVED. GIVEN WITH THE SEED: THE CARDS: each row of YtmepffenlgedbaaGreatDoorRows.lean that lists a variable, with what it lists TIED to the program's text (the seventh form; the later family's looks); each row that meets fmt, with fmt's text TOLD by the authors' own Lean function (tested against real Go, not proved from fmt's source: count such statements apart). THE CARD IS WHAT COUNTS. Prove the row's statement (the work); the ties are given (YtmepffenlgedbaaGreatDoorTie.lean); close each card by the builder's one call (the guide's Derived/Test/ToyasCard.lean, 'card_holds'). Laid BY PROGRAM, IN A SANDBOX (cutbox-door.mjs). By AI agents, Wed Nov 11 2026. No macro, syntax, notation, axiom, sorry.
-/
import Derived.Test.YtmepffenlgedbaaGreatDoorRows
import GoSem.ClaimSeven
namespace Go.Proofs.YtmepffenlgedbaaGreatDoor
namespace Rows

/-- THE TIED CARD OF 'realslaw.Reads'. -/
def readsCard : Claim7 := { stood := { row := readsRow, standIns := [], harness := (true, "88d9e0f183ff781ba674c215621f6cd0ac3138652a403df760cd6b858bc8c1b5"), looks := false }, kinds := [], alts := [], laidByText := true, laidKinds := [.data, .data, .data], laidTests := true, laidLooks := .later }
def ReadsCardSaid : Prop := Claim7.holds Tryz.pinned (.plain (OpenSpec.ofChange readsSpec)) readsCard

/-- THE TIED CARD OF 'realslaw.Plain'. -/
def plainCard : Claim7 := { stood := { row := plainRow, standIns := [], harness := (true, "88d9e0f183ff781ba674c215621f6cd0ac3138652a403df760cd6b858bc8c1b5"), looks := false }, kinds := [], alts := [], laidByText := true, laidKinds := [.data, .data, .data], laidTests := true, laidLooks := .later }
def PlainCardSaid : Prop := Claim7.holds Tryz.pinned (.plain (OpenSpec.ofChange plainSpec)) plainCard

/-- THE TIED CARD OF 'realslaw.Digits'. -/
def digitsCard : Claim7 := { stood := { row := digitsRow, standIns := [], harness := (true, "88d9e0f183ff781ba674c215621f6cd0ac3138652a403df760cd6b858bc8c1b5"), looks := false }, kinds := [], alts := [], laidByText := true, laidKinds := [.data, .data, .data], laidTests := true, laidLooks := .later }
def DigitsCardSaid : Prop := Claim7.holds Tryz.pinned (.plain (OpenSpec.ofChange digitsSpec)) digitsCard

/-- THE TIED CARD OF 'realslaw.Decimals'. -/
def decimalsCard : Claim7 := { stood := { row := decimalsRow, standIns := [], harness := (true, "88d9e0f183ff781ba674c215621f6cd0ac3138652a403df760cd6b858bc8c1b5"), looks := false }, kinds := [], alts := [], laidByText := true, laidKinds := [.data, .data, .data], laidTests := true, laidLooks := .later }
def DecimalsCardSaid : Prop := Claim7.holds Tryz.pinned (.plain (OpenSpec.ofChange decimalsSpec)) decimalsCard

/-- THE TIED CARD OF 'realslaw.Fractions'. -/
def fractionsCard : Claim7 := { stood := { row := fractionsRow, standIns := [], harness := (true, "88d9e0f183ff781ba674c215621f6cd0ac3138652a403df760cd6b858bc8c1b5"), looks := false }, kinds := [], alts := [], laidByText := true, laidKinds := [.data, .data, .data], laidTests := true, laidLooks := .later }
def FractionsCardSaid : Prop := Claim7.holds Tryz.pinned (.plain (OpenSpec.ofChange fractionsSpec)) fractionsCard

/-- THE TIED CARD OF 'realslaw.Compares'. -/
def comparesCard : Claim7 := { stood := { row := comparesRow, standIns := [], harness := (true, "88d9e0f183ff781ba674c215621f6cd0ac3138652a403df760cd6b858bc8c1b5"), looks := false }, kinds := [], alts := [], laidByText := true, laidKinds := [.data, .data, .data], laidTests := true, laidLooks := .later }
def ComparesCardSaid : Prop := Claim7.holds Tryz.pinned (.plain (OpenSpec.ofChange comparesSpec)) comparesCard

/-- THE TIED CARD OF 'realslaw.All'. -/
def allCard : Claim7 := { stood := { row := allRow, standIns := [], harness := (true, "88d9e0f183ff781ba674c215621f6cd0ac3138652a403df760cd6b858bc8c1b5"), looks := false }, kinds := [], alts := [], laidByText := true, laidKinds := [.data, .data, .data], laidTests := true, laidLooks := .later }
def AllCardSaid : Prop := Claim7.holds Tryz.pinned (.plain (OpenSpec.ofChange allSpec)) allCard

/-- THE TIED CARD OF 'realskeep.Charted'. -/
def chartedCard : Claim7 := { stood := { row := chartedRow, standIns := [], harness := (true, "88d9e0f183ff781ba674c215621f6cd0ac3138652a403df760cd6b858bc8c1b5"), looks := false }, kinds := [], alts := [], laidByText := true, laidKinds := [.data, .data, .data], laidTests := true, laidLooks := .later }
def ChartedCardSaid : Prop := Claim7.holds Tryz.pinned (.plain (OpenSpec.ofChange chartedSpec)) chartedCard

/-- THE TIED CARD OF 'realskeep.Nested'. -/
def nestedCard : Claim7 := { stood := { row := nestedRow, standIns := [], harness := (true, "88d9e0f183ff781ba674c215621f6cd0ac3138652a403df760cd6b858bc8c1b5"), looks := false }, kinds := [], alts := [], laidByText := true, laidKinds := [.data, .data, .data], laidTests := true, laidLooks := .later }
def NestedCardSaid : Prop := Claim7.holds Tryz.pinned (.plain (OpenSpec.ofChange nestedSpec)) nestedCard

/-- THE TIED CARD OF 'realskeep.Within'. -/
def withinCard : Claim7 := { stood := { row := withinRow, standIns := [], harness := (true, "88d9e0f183ff781ba674c215621f6cd0ac3138652a403df760cd6b858bc8c1b5"), looks := false }, kinds := [], alts := [], laidByText := true, laidKinds := [.data, .data, .data], laidTests := true, laidLooks := .later }
def WithinCardSaid : Prop := Claim7.holds Tryz.pinned (.plain (OpenSpec.ofChange withinSpec)) withinCard

/-- THE SECOND FORM's CARD OF 'realslaw.Reads'. -/
def readsUptoCard : Claim7 := { stood := { row := readsUptoRow, standIns := [], harness := (true, "88d9e0f183ff781ba674c215621f6cd0ac3138652a403df760cd6b858bc8c1b5"), looks := false }, kinds := [], alts := [], laidByText := true, laidKinds := [.data, .data, .data], laidTests := true, laidLooks := .later }
def ReadsUptoCardSaid : Prop := Claim7.holds Tryz.pinned (.plain (OpenSpec.upto readsSpec)) readsUptoCard

/-- THE SECOND FORM's CARD OF 'realslaw.Plain'. -/
def plainUptoCard : Claim7 := { stood := { row := plainUptoRow, standIns := [], harness := (true, "88d9e0f183ff781ba674c215621f6cd0ac3138652a403df760cd6b858bc8c1b5"), looks := false }, kinds := [], alts := [], laidByText := true, laidKinds := [.data, .data, .data], laidTests := true, laidLooks := .later }
def PlainUptoCardSaid : Prop := Claim7.holds Tryz.pinned (.plain (OpenSpec.upto plainSpec)) plainUptoCard

/-- THE SECOND FORM's CARD OF 'realslaw.Digits'. -/
def digitsUptoCard : Claim7 := { stood := { row := digitsUptoRow, standIns := [], harness := (true, "88d9e0f183ff781ba674c215621f6cd0ac3138652a403df760cd6b858bc8c1b5"), looks := false }, kinds := [], alts := [], laidByText := true, laidKinds := [.data, .data, .data], laidTests := true, laidLooks := .later }
def DigitsUptoCardSaid : Prop := Claim7.holds Tryz.pinned (.plain (OpenSpec.upto digitsSpec)) digitsUptoCard

/-- THE SECOND FORM's CARD OF 'realslaw.Decimals'. -/
def decimalsUptoCard : Claim7 := { stood := { row := decimalsUptoRow, standIns := [], harness := (true, "88d9e0f183ff781ba674c215621f6cd0ac3138652a403df760cd6b858bc8c1b5"), looks := false }, kinds := [], alts := [], laidByText := true, laidKinds := [.data, .data, .data], laidTests := true, laidLooks := .later }
def DecimalsUptoCardSaid : Prop := Claim7.holds Tryz.pinned (.plain (OpenSpec.upto decimalsSpec)) decimalsUptoCard

/-- THE SECOND FORM's CARD OF 'realslaw.Fractions'. -/
def fractionsUptoCard : Claim7 := { stood := { row := fractionsUptoRow, standIns := [], harness := (true, "88d9e0f183ff781ba674c215621f6cd0ac3138652a403df760cd6b858bc8c1b5"), looks := false }, kinds := [], alts := [], laidByText := true, laidKinds := [.data, .data, .data], laidTests := true, laidLooks := .later }
def FractionsUptoCardSaid : Prop := Claim7.holds Tryz.pinned (.plain (OpenSpec.upto fractionsSpec)) fractionsUptoCard

/-- THE SECOND FORM's CARD OF 'realslaw.Compares'. -/
def comparesUptoCard : Claim7 := { stood := { row := comparesUptoRow, standIns := [], harness := (true, "88d9e0f183ff781ba674c215621f6cd0ac3138652a403df760cd6b858bc8c1b5"), looks := false }, kinds := [], alts := [], laidByText := true, laidKinds := [.data, .data, .data], laidTests := true, laidLooks := .later }
def ComparesUptoCardSaid : Prop := Claim7.holds Tryz.pinned (.plain (OpenSpec.upto comparesSpec)) comparesUptoCard

/-- THE SECOND FORM's CARD OF 'realslaw.All'. -/
def allUptoCard : Claim7 := { stood := { row := allUptoRow, standIns := [], harness := (true, "88d9e0f183ff781ba674c215621f6cd0ac3138652a403df760cd6b858bc8c1b5"), looks := false }, kinds := [], alts := [], laidByText := true, laidKinds := [.data, .data, .data], laidTests := true, laidLooks := .later }
def AllUptoCardSaid : Prop := Claim7.holds Tryz.pinned (.plain (OpenSpec.upto allSpec)) allUptoCard

/-- THE SECOND FORM's CARD OF 'realskeep.Charted'. -/
def chartedUptoCard : Claim7 := { stood := { row := chartedUptoRow, standIns := [], harness := (true, "88d9e0f183ff781ba674c215621f6cd0ac3138652a403df760cd6b858bc8c1b5"), looks := false }, kinds := [], alts := [], laidByText := true, laidKinds := [.data, .data, .data], laidTests := true, laidLooks := .later }
def ChartedUptoCardSaid : Prop := Claim7.holds Tryz.pinned (.plain (OpenSpec.upto chartedSpec)) chartedUptoCard

/-- THE SECOND FORM's CARD OF 'realskeep.Nested'. -/
def nestedUptoCard : Claim7 := { stood := { row := nestedUptoRow, standIns := [], harness := (true, "88d9e0f183ff781ba674c215621f6cd0ac3138652a403df760cd6b858bc8c1b5"), looks := false }, kinds := [], alts := [], laidByText := true, laidKinds := [.data, .data, .data], laidTests := true, laidLooks := .later }
def NestedUptoCardSaid : Prop := Claim7.holds Tryz.pinned (.plain (OpenSpec.upto nestedSpec)) nestedUptoCard

/-- THE SECOND FORM's CARD OF 'realskeep.Within'. -/
def withinUptoCard : Claim7 := { stood := { row := withinUptoRow, standIns := [], harness := (true, "88d9e0f183ff781ba674c215621f6cd0ac3138652a403df760cd6b858bc8c1b5"), looks := false }, kinds := [], alts := [], laidByText := true, laidKinds := [.data, .data, .data], laidTests := true, laidLooks := .later }
def WithinUptoCardSaid : Prop := Claim7.holds Tryz.pinned (.plain (OpenSpec.upto withinSpec)) withinUptoCard
end Rows
end Go.Proofs.YtmepffenlgedbaaGreatDoor
