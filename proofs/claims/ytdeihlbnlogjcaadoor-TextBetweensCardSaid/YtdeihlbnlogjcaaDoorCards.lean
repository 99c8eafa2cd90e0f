/-
  DERIVED. GIVEN WITH THE SEED: THE CARDS: each row of YtdeihlbnlogjcaaDoorRows.lean that lists a variable, with what it lists TIED to the program's text (the seventh form; the later family's looks); each row that meets fmt, with fmt's text TOLD by the authors' own Lean function (tested against real Go, not proved from fmt's source: count such statements apart). THE CARD IS WHAT COUNTS. Prove the row's statement (the work); the ties are given (YtdeihlbnlogjcaaDoorTie.lean); close each card by the builder's one call (the guide's Derived/Test/ToyasCard.lean, 'card_holds'). Laid BY PROGRAM, IN A SANDBOX (cutbox-door.mjs). By AI agents, Wed Nov 11 2026. No macro, syntax, notation, axiom, sorry.
-/
import Derived.Test.YtdeihlbnlogjcaaDoorRows
import GoSem.ClaimSeven
namespace Go.Proofs.YtdeihlbnlogjcaaDoor
namespace Rows

/-- THE TIED CARD OF 'parlancelaw04.UtfTexts'. -/
def utfTextsCard : Claim7 := { stood := { row := utfTextsRow, standIns := [], harness := (true, "29499cd0e78549b4259f3540030ca426d6fd1255c403be0d12fec6b7ef00df3e"), looks := false }, kinds := [], alts := [], laidByText := true, laidKinds := [.data, .pinned], laidTests := true, laidLooks := .later }
def UtfTextsCardSaid : Prop := Claim7.holds Tryd.pinned (.plain (OpenSpec.ofChange utfTextsSpec)) utfTextsCard

/-- THE TIED CARD OF 'parlancelaw04.UtfJoins'. -/
def utfJoinsCard : Claim7 := { stood := { row := utfJoinsRow, standIns := [], harness := (true, "29499cd0e78549b4259f3540030ca426d6fd1255c403be0d12fec6b7ef00df3e"), looks := false }, kinds := [], alts := [], laidByText := true, laidKinds := [.data, .pinned], laidTests := true, laidLooks := .later }
def UtfJoinsCardSaid : Prop := Claim7.holds Tryd.pinned (.plain (OpenSpec.ofChange utfJoinsSpec)) utfJoinsCard

/-- THE TIED CARD OF 'parlancelaw04.UtfPlaces'. -/
def utfPlacesCard : Claim7 := { stood := { row := utfPlacesRow, standIns := [], harness := (true, "29499cd0e78549b4259f3540030ca426d6fd1255c403be0d12fec6b7ef00df3e"), looks := false }, kinds := [], alts := [], laidByText := true, laidKinds := [.data, .pinned], laidTests := true, laidLooks := .later }
def UtfPlacesCardSaid : Prop := Claim7.holds Tryd.pinned (.plain (OpenSpec.ofChange utfPlacesSpec)) utfPlacesCard

/-- THE TIED CARD OF 'parlancelaw04.UtfRound'. -/
def utfRoundCard : Claim7 := { stood := { row := utfRoundRow, standIns := [], harness := (true, "29499cd0e78549b4259f3540030ca426d6fd1255c403be0d12fec6b7ef00df3e"), looks := false }, kinds := [], alts := [], laidByText := true, laidKinds := [.data, .pinned], laidTests := true, laidLooks := .later }
def UtfRoundCardSaid : Prop := Claim7.holds Tryd.pinned (.plain (OpenSpec.ofChange utfRoundSpec)) utfRoundCard

/-- THE TIED CARD OF 'parlancelaw04.UtfThere'. -/
def utfThereCard : Claim7 := { stood := { row := utfThereRow, standIns := [], harness := (true, "29499cd0e78549b4259f3540030ca426d6fd1255c403be0d12fec6b7ef00df3e"), looks := false }, kinds := [], alts := [], laidByText := true, laidKinds := [.data, .pinned], laidTests := true, laidLooks := .later }
def UtfThereCardSaid : Prop := Claim7.holds Tryd.pinned (.plain (OpenSpec.ofChange utfThereSpec)) utfThereCard

/-- THE TIED CARD OF 'parlancelaw04.UtfJoined'. -/
def utfJoinedCard : Claim7 := { stood := { row := utfJoinedRow, standIns := [], harness := (true, "29499cd0e78549b4259f3540030ca426d6fd1255c403be0d12fec6b7ef00df3e"), looks := false }, kinds := [], alts := [], laidByText := true, laidKinds := [.data, .pinned], laidTests := true, laidLooks := .later }
def UtfJoinedCardSaid : Prop := Claim7.holds Tryd.pinned (.plain (OpenSpec.ofChange utfJoinedSpec)) utfJoinedCard

/-- THE TIED CARD OF 'parlancelaw04.UtfFront'. -/
def utfFrontCard : Claim7 := { stood := { row := utfFrontRow, standIns := [], harness := (true, "29499cd0e78549b4259f3540030ca426d6fd1255c403be0d12fec6b7ef00df3e"), looks := false }, kinds := [], alts := [], laidByText := true, laidKinds := [.data, .pinned], laidTests := true, laidLooks := .later }
def UtfFrontCardSaid : Prop := Claim7.holds Tryd.pinned (.plain (OpenSpec.ofChange utfFrontSpec)) utfFrontCard

/-- THE TIED CARD OF 'parlancelaw04.UtfCounts'. -/
def utfCountsCard : Claim7 := { stood := { row := utfCountsRow, standIns := [], harness := (true, "29499cd0e78549b4259f3540030ca426d6fd1255c403be0d12fec6b7ef00df3e"), looks := false }, kinds := [], alts := [], laidByText := true, laidKinds := [.data, .pinned], laidTests := true, laidLooks := .later }
def UtfCountsCardSaid : Prop := Claim7.holds Tryd.pinned (.plain (OpenSpec.ofChange utfCountsSpec)) utfCountsCard

/-- THE TIED CARD OF 'parlancelaw07.TextPlaces'. -/
def textPlacesCard : Claim7 := { stood := { row := textPlacesRow, standIns := [], harness := (true, "29499cd0e78549b4259f3540030ca426d6fd1255c403be0d12fec6b7ef00df3e"), looks := false }, kinds := [], alts := [], laidByText := true, laidKinds := [.data, .pinned], laidTests := true, laidLooks := .later }
def TextPlacesCardSaid : Prop := Claim7.holds Tryd.pinned (.plain (OpenSpec.ofChange textPlacesSpec)) textPlacesCard

/-- THE TIED CARD OF 'parlancelaw07.TextApplies'. -/
def textAppliesCard : Claim7 := { stood := { row := textAppliesRow, standIns := [], harness := (true, "29499cd0e78549b4259f3540030ca426d6fd1255c403be0d12fec6b7ef00df3e"), looks := false }, kinds := [], alts := [], laidByText := true, laidKinds := [.data, .pinned], laidTests := true, laidLooks := .later }
def TextAppliesCardSaid : Prop := Claim7.holds Tryd.pinned (.plain (OpenSpec.ofChange textAppliesSpec)) textAppliesCard

/-- THE TIED CARD OF 'parlancelaw07.TextBetweens'. -/
def textBetweensCard : Claim7 := { stood := { row := textBetweensRow, standIns := [], harness := (true, "29499cd0e78549b4259f3540030ca426d6fd1255c403be0d12fec6b7ef00df3e"), looks := false }, kinds := [], alts := [], laidByText := true, laidKinds := [.data, .pinned], laidTests := true, laidLooks := .later }
def TextBetweensCardSaid : Prop := Claim7.holds Tryd.pinned (.plain (OpenSpec.ofChange textBetweensSpec)) textBetweensCard

/-- THE TIED CARD OF 'parlancelaw07.TextThere'. -/
def textThereCard : Claim7 := { stood := { row := textThereRow, standIns := [], harness := (true, "29499cd0e78549b4259f3540030ca426d6fd1255c403be0d12fec6b7ef00df3e"), looks := false }, kinds := [], alts := [], laidByText := true, laidKinds := [.data, .pinned], laidTests := true, laidLooks := .later }
def TextThereCardSaid : Prop := Claim7.holds Tryd.pinned (.plain (OpenSpec.ofChange textThereSpec)) textThereCard

/-- THE TIED CARD OF 'parlancelaw07.TextMade'. -/
def textMadeCard : Claim7 := { stood := { row := textMadeRow, standIns := [], harness := (true, "29499cd0e78549b4259f3540030ca426d6fd1255c403be0d12fec6b7ef00df3e"), looks := false }, kinds := [], alts := [], laidByText := true, laidKinds := [.data, .pinned], laidTests := true, laidLooks := .later }
def TextMadeCardSaid : Prop := Claim7.holds Tryd.pinned (.plain (OpenSpec.ofChange textMadeSpec)) textMadeCard

/-- THE TIED CARD OF 'parlancelaw07.TextRows'. -/
def textRowsCard : Claim7 := { stood := { row := textRowsRow, standIns := [], harness := (true, "29499cd0e78549b4259f3540030ca426d6fd1255c403be0d12fec6b7ef00df3e"), looks := false }, kinds := [], alts := [], laidByText := true, laidKinds := [.data, .pinned], laidTests := true, laidLooks := .later }
def TextRowsCardSaid : Prop := Claim7.holds Tryd.pinned (.plain (OpenSpec.ofChange textRowsSpec)) textRowsCard

/-- THE TIED CARD OF 'parlancelaw07.TextLines'. -/
def textLinesCard : Claim7 := { stood := { row := textLinesRow, standIns := [], harness := (true, "29499cd0e78549b4259f3540030ca426d6fd1255c403be0d12fec6b7ef00df3e"), looks := false }, kinds := [], alts := [], laidByText := true, laidKinds := [.data, .pinned], laidTests := true, laidLooks := .later }
def TextLinesCardSaid : Prop := Claim7.holds Tryd.pinned (.plain (OpenSpec.ofChange textLinesSpec)) textLinesCard

/-- THE TIED CARD OF 'parlancelaw07.TextFront'. -/
def textFrontCard : Claim7 := { stood := { row := textFrontRow, standIns := [], harness := (true, "29499cd0e78549b4259f3540030ca426d6fd1255c403be0d12fec6b7ef00df3e"), looks := false }, kinds := [], alts := [], laidByText := true, laidKinds := [.data, .pinned], laidTests := true, laidLooks := .later }
def TextFrontCardSaid : Prop := Claim7.holds Tryd.pinned (.plain (OpenSpec.ofChange textFrontSpec)) textFrontCard

/-- THE SECOND FORM's CARD OF 'parlancelaw04.UtfTexts'. -/
def utfTextsUptoCard : Claim7 := { stood := { row := utfTextsUptoRow, standIns := [], harness := (true, "29499cd0e78549b4259f3540030ca426d6fd1255c403be0d12fec6b7ef00df3e"), looks := false }, kinds := [], alts := [], laidByText := true, laidKinds := [.data, .pinned], laidTests := true, laidLooks := .later }
def UtfTextsUptoCardSaid : Prop := Claim7.holds Tryd.pinned (.plain (OpenSpec.upto utfTextsSpec)) utfTextsUptoCard

/-- THE SECOND FORM's CARD OF 'parlancelaw04.UtfJoins'. -/
def utfJoinsUptoCard : Claim7 := { stood := { row := utfJoinsUptoRow, standIns := [], harness := (true, "29499cd0e78549b4259f3540030ca426d6fd1255c403be0d12fec6b7ef00df3e"), looks := false }, kinds := [], alts := [], laidByText := true, laidKinds := [.data, .pinned], laidTests := true, laidLooks := .later }
def UtfJoinsUptoCardSaid : Prop := Claim7.holds Tryd.pinned (.plain (OpenSpec.upto utfJoinsSpec)) utfJoinsUptoCard

/-- THE SECOND FORM's CARD OF 'parlancelaw04.UtfPlaces'. -/
def utfPlacesUptoCard : Claim7 := { stood := { row := utfPlacesUptoRow, standIns := [], harness := (true, "29499cd0e78549b4259f3540030ca426d6fd1255c403be0d12fec6b7ef00df3e"), looks := false }, kinds := [], alts := [], laidByText := true, laidKinds := [.data, .pinned], laidTests := true, laidLooks := .later }
def UtfPlacesUptoCardSaid : Prop := Claim7.holds Tryd.pinned (.plain (OpenSpec.upto utfPlacesSpec)) utfPlacesUptoCard

/-- THE SECOND FORM's CARD OF 'parlancelaw04.UtfRound'. -/
def utfRoundUptoCard : Claim7 := { stood := { row := utfRoundUptoRow, standIns := [], harness := (true, "29499cd0e78549b4259f3540030ca426d6fd1255c403be0d12fec6b7ef00df3e"), looks := false }, kinds := [], alts := [], laidByText := true, laidKinds := [.data, .pinned], laidTests := true, laidLooks := .later }
def UtfRoundUptoCardSaid : Prop := Claim7.holds Tryd.pinned (.plain (OpenSpec.upto utfRoundSpec)) utfRoundUptoCard

/-- THE SECOND FORM's CARD OF 'parlancelaw04.UtfThere'. -/
def utfThereUptoCard : Claim7 := { stood := { row := utfThereUptoRow, standIns := [], harness := (true, "29499cd0e78549b4259f3540030ca426d6fd1255c403be0d12fec6b7ef00df3e"), looks := false }, kinds := [], alts := [], laidByText := true, laidKinds := [.data, .pinned], laidTests := true, laidLooks := .later }
def UtfThereUptoCardSaid : Prop := Claim7.holds Tryd.pinned (.plain (OpenSpec.upto utfThereSpec)) utfThereUptoCard

/-- THE SECOND FORM's CARD OF 'parlancelaw04.UtfJoined'. -/
def utfJoinedUptoCard : Claim7 := { stood := { row := utfJoinedUptoRow, standIns := [], harness := (true, "29499cd0e78549b4259f3540030ca426d6fd1255c403be0d12fec6b7ef00df3e"), looks := false }, kinds := [], alts := [], laidByText := true, laidKinds := [.data, .pinned], laidTests := true, laidLooks := .later }
def UtfJoinedUptoCardSaid : Prop := Claim7.holds Tryd.pinned (.plain (OpenSpec.upto utfJoinedSpec)) utfJoinedUptoCard

/-- THE SECOND FORM's CARD OF 'parlancelaw04.UtfFront'. -/
def utfFrontUptoCard : Claim7 := { stood := { row := utfFrontUptoRow, standIns := [], harness := (true, "29499cd0e78549b4259f3540030ca426d6fd1255c403be0d12fec6b7ef00df3e"), looks := false }, kinds := [], alts := [], laidByText := true, laidKinds := [.data, .pinned], laidTests := true, laidLooks := .later }
def UtfFrontUptoCardSaid : Prop := Claim7.holds Tryd.pinned (.plain (OpenSpec.upto utfFrontSpec)) utfFrontUptoCard

/-- THE SECOND FORM's CARD OF 'parlancelaw04.UtfCounts'. -/
def utfCountsUptoCard : Claim7 := { stood := { row := utfCountsUptoRow, standIns := [], harness := (true, "29499cd0e78549b4259f3540030ca426d6fd1255c403be0d12fec6b7ef00df3e"), looks := false }, kinds := [], alts := [], laidByText := true, laidKinds := [.data, .pinned], laidTests := true, laidLooks := .later }
def UtfCountsUptoCardSaid : Prop := Claim7.holds Tryd.pinned (.plain (OpenSpec.upto utfCountsSpec)) utfCountsUptoCard

/-- THE SECOND FORM's CARD OF 'parlancelaw07.TextPlaces'. -/
def textPlacesUptoCard : Claim7 := { stood := { row := textPlacesUptoRow, standIns := [], harness := (true, "29499cd0e78549b4259f3540030ca426d6fd1255c403be0d12fec6b7ef00df3e"), looks := false }, kinds := [], alts := [], laidByText := true, laidKinds := [.data, .pinned], laidTests := true, laidLooks := .later }
def TextPlacesUptoCardSaid : Prop := Claim7.holds Tryd.pinned (.plain (OpenSpec.upto textPlacesSpec)) textPlacesUptoCard

/-- THE SECOND FORM's CARD OF 'parlancelaw07.TextApplies'. -/
def textAppliesUptoCard : Claim7 := { stood := { row := textAppliesUptoRow, standIns := [], harness := (true, "29499cd0e78549b4259f3540030ca426d6fd1255c403be0d12fec6b7ef00df3e"), looks := false }, kinds := [], alts := [], laidByText := true, laidKinds := [.data, .pinned], laidTests := true, laidLooks := .later }
def TextAppliesUptoCardSaid : Prop := Claim7.holds Tryd.pinned (.plain (OpenSpec.upto textAppliesSpec)) textAppliesUptoCard

/-- THE SECOND FORM's CARD OF 'parlancelaw07.TextBetweens'. -/
def textBetweensUptoCard : Claim7 := { stood := { row := textBetweensUptoRow, standIns := [], harness := (true, "29499cd0e78549b4259f3540030ca426d6fd1255c403be0d12fec6b7ef00df3e"), looks := false }, kinds := [], alts := [], laidByText := true, laidKinds := [.data, .pinned], laidTests := true, laidLooks := .later }
def TextBetweensUptoCardSaid : Prop := Claim7.holds Tryd.pinned (.plain (OpenSpec.upto textBetweensSpec)) textBetweensUptoCard

/-- THE SECOND FORM's CARD OF 'parlancelaw07.TextThere'. -/
def textThereUptoCard : Claim7 := { stood := { row := textThereUptoRow, standIns := [], harness := (true, "29499cd0e78549b4259f3540030ca426d6fd1255c403be0d12fec6b7ef00df3e"), looks := false }, kinds := [], alts := [], laidByText := true, laidKinds := [.data, .pinned], laidTests := true, laidLooks := .later }
def TextThereUptoCardSaid : Prop := Claim7.holds Tryd.pinned (.plain (OpenSpec.upto textThereSpec)) textThereUptoCard

/-- THE SECOND FORM's CARD OF 'parlancelaw07.TextMade'. -/
def textMadeUptoCard : Claim7 := { stood := { row := textMadeUptoRow, standIns := [], harness := (true, "29499cd0e78549b4259f3540030ca426d6fd1255c403be0d12fec6b7ef00df3e"), looks := false }, kinds := [], alts := [], laidByText := true, laidKinds := [.data, .pinned], laidTests := true, laidLooks := .later }
def TextMadeUptoCardSaid : Prop := Claim7.holds Tryd.pinned (.plain (OpenSpec.upto textMadeSpec)) textMadeUptoCard

/-- THE SECOND FORM's CARD OF 'parlancelaw07.TextRows'. -/
def textRowsUptoCard : Claim7 := { stood := { row := textRowsUptoRow, standIns := [], harness := (true, "29499cd0e78549b4259f3540030ca426d6fd1255c403be0d12fec6b7ef00df3e"), looks := false }, kinds := [], alts := [], laidByText := true, laidKinds := [.data, .pinned], laidTests := true, laidLooks := .later }
def TextRowsUptoCardSaid : Prop := Claim7.holds Tryd.pinned (.plain (OpenSpec.upto textRowsSpec)) textRowsUptoCard

/-- THE SECOND FORM's CARD OF 'parlancelaw07.TextLines'. -/
def textLinesUptoCard : Claim7 := { stood := { row := textLinesUptoRow, standIns := [], harness := (true, "29499cd0e78549b4259f3540030ca426d6fd1255c403be0d12fec6b7ef00df3e"), looks := false }, kinds := [], alts := [], laidByText := true, laidKinds := [.data, .pinned], laidTests := true, laidLooks := .later }
def TextLinesUptoCardSaid : Prop := Claim7.holds Tryd.pinned (.plain (OpenSpec.upto textLinesSpec)) textLinesUptoCard

/-- THE SECOND FORM's CARD OF 'parlancelaw07.TextFront'. -/
def textFrontUptoCard : Claim7 := { stood := { row := textFrontUptoRow, standIns := [], harness := (true, "29499cd0e78549b4259f3540030ca426d6fd1255c403be0d12fec6b7ef00df3e"), looks := false }, kinds := [], alts := [], laidByText := true, laidKinds := [.data, .pinned], laidTests := true, laidLooks := .later }
def TextFrontUptoCardSaid : Prop := Claim7.holds Tryd.pinned (.plain (OpenSpec.upto textFrontSpec)) textFrontUptoCard
end Rows
end Go.Proofs.YtdeihlbnlogjcaaDoor
