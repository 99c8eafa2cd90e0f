/-
  DERIVED. GIVEN WITH THE SEED: THE CARDS: each row of YtmpmibebkflaiaaDoorRows.lean that lists a variable, with what it lists TIED to the program's text (the seventh form; the later family's looks); each row that meets fmt, with fmt's text TOLD by the authors' own Lean function (tested against real Go, not proved from fmt's source: count such statements apart). THE CARD IS WHAT COUNTS. Prove the row's statement (the work); the ties are given (YtmpmibebkflaiaaDoorTie.lean); close each card by the builder's one call (the guide's Derived/Test/ToyasCard.lean, 'card_holds'). Laid BY PROGRAM, IN A SANDBOX (cutbox-door.mjs). By AI agents, Wed Nov 11 2026. No macro, syntax, notation, axiom, sorry.
-/
import Derived.Test.YtmpmibebkflaiaaDoorRows
import GoSem.ClaimSeven
namespace Go.Proofs.YtmpmibebkflaiaaDoor
namespace Rows

/-- THE TIED CARD OF 'parlancelaw12.TypesInstances'. -/
def typesInstancesCard : Claim7 := { stood := { row := typesInstancesRow, standIns := [], harness := (true, "e5af143d39d1eb26e6246b71d91dba9080f5df4a5b7bf3d1c917c095bb289a08"), looks := true }, kinds := [], alts := [], laidByText := true, laidKinds := [.data, .data, .data, .sentinel, .sentinel], laidTests := true, laidLooks := .later }
def TypesInstancesCardSaid : Prop := Claim7.holds Tryd.pinned (.plain (OpenSpec.ofChange typesInstancesSpec)) typesInstancesCard

/-- THE TIED CARD OF 'parlancelaw12.TypesRound'. -/
def typesRoundCard : Claim7 := { stood := { row := typesRoundRow, standIns := [], harness := (true, "e5af143d39d1eb26e6246b71d91dba9080f5df4a5b7bf3d1c917c095bb289a08"), looks := true }, kinds := [], alts := [], laidByText := true, laidKinds := [.data, .data, .data, .sentinel, .sentinel], laidTests := true, laidLooks := .later }
def TypesRoundCardSaid : Prop := Claim7.holds Tryd.pinned (.plain (OpenSpec.ofChange typesRoundSpec)) typesRoundCard

/-- THE TIED CARD OF 'parlancelaw12.TypesFilled'. -/
def typesFilledCard : Claim7 := { stood := { row := typesFilledRow, standIns := [], harness := (true, "e5af143d39d1eb26e6246b71d91dba9080f5df4a5b7bf3d1c917c095bb289a08"), looks := true }, kinds := [], alts := [], laidByText := true, laidKinds := [.data, .data, .data, .sentinel, .sentinel], laidTests := true, laidLooks := .later }
def TypesFilledCardSaid : Prop := Claim7.holds Tryd.pinned (.plain (OpenSpec.ofChange typesFilledSpec)) typesFilledCard

/-- THE TIED CARD OF 'parlancelaw12.TypesChain'. -/
def typesChainCard : Claim7 := { stood := { row := typesChainRow, standIns := [], harness := (true, "e5af143d39d1eb26e6246b71d91dba9080f5df4a5b7bf3d1c917c095bb289a08"), looks := true }, kinds := [], alts := [], laidByText := true, laidKinds := [.data, .data, .data, .sentinel, .sentinel], laidTests := true, laidLooks := .later }
def TypesChainCardSaid : Prop := Claim7.holds Tryd.pinned (.plain (OpenSpec.ofChange typesChainSpec)) typesChainCard

/-- THE TIED CARD OF 'parlancelaw12.TypesClosed'. -/
def typesClosedCard : Claim7 := { stood := { row := typesClosedRow, standIns := [], harness := (true, "e5af143d39d1eb26e6246b71d91dba9080f5df4a5b7bf3d1c917c095bb289a08"), looks := true }, kinds := [], alts := [], laidByText := true, laidKinds := [.data, .data, .data, .sentinel, .sentinel], laidTests := true, laidLooks := .later }
def TypesClosedCardSaid : Prop := Claim7.holds Tryd.pinned (.plain (OpenSpec.ofChange typesClosedSpec)) typesClosedCard

/-- THE SECOND FORM's CARD OF 'parlancelaw12.TypesInstances'. -/
def typesInstancesUptoCard : Claim7 := { stood := { row := typesInstancesUptoRow, standIns := [], harness := (true, "e5af143d39d1eb26e6246b71d91dba9080f5df4a5b7bf3d1c917c095bb289a08"), looks := true }, kinds := [], alts := [], laidByText := true, laidKinds := [.data, .data, .data, .sentinel, .sentinel], laidTests := true, laidLooks := .later }
def TypesInstancesUptoCardSaid : Prop := Claim7.holds Tryd.pinned (.plain (OpenSpec.upto typesInstancesSpec)) typesInstancesUptoCard

/-- THE SECOND FORM's CARD OF 'parlancelaw12.TypesRound'. -/
def typesRoundUptoCard : Claim7 := { stood := { row := typesRoundUptoRow, standIns := [], harness := (true, "e5af143d39d1eb26e6246b71d91dba9080f5df4a5b7bf3d1c917c095bb289a08"), looks := true }, kinds := [], alts := [], laidByText := true, laidKinds := [.data, .data, .data, .sentinel, .sentinel], laidTests := true, laidLooks := .later }
def TypesRoundUptoCardSaid : Prop := Claim7.holds Tryd.pinned (.plain (OpenSpec.upto typesRoundSpec)) typesRoundUptoCard

/-- THE SECOND FORM's CARD OF 'parlancelaw12.TypesFilled'. -/
def typesFilledUptoCard : Claim7 := { stood := { row := typesFilledUptoRow, standIns := [], harness := (true, "e5af143d39d1eb26e6246b71d91dba9080f5df4a5b7bf3d1c917c095bb289a08"), looks := true }, kinds := [], alts := [], laidByText := true, laidKinds := [.data, .data, .data, .sentinel, .sentinel], laidTests := true, laidLooks := .later }
def TypesFilledUptoCardSaid : Prop := Claim7.holds Tryd.pinned (.plain (OpenSpec.upto typesFilledSpec)) typesFilledUptoCard

/-- THE SECOND FORM's CARD OF 'parlancelaw12.TypesChain'. -/
def typesChainUptoCard : Claim7 := { stood := { row := typesChainUptoRow, standIns := [], harness := (true, "e5af143d39d1eb26e6246b71d91dba9080f5df4a5b7bf3d1c917c095bb289a08"), looks := true }, kinds := [], alts := [], laidByText := true, laidKinds := [.data, .data, .data, .sentinel, .sentinel], laidTests := true, laidLooks := .later }
def TypesChainUptoCardSaid : Prop := Claim7.holds Tryd.pinned (.plain (OpenSpec.upto typesChainSpec)) typesChainUptoCard

/-- THE SECOND FORM's CARD OF 'parlancelaw12.TypesClosed'. -/
def typesClosedUptoCard : Claim7 := { stood := { row := typesClosedUptoRow, standIns := [], harness := (true, "e5af143d39d1eb26e6246b71d91dba9080f5df4a5b7bf3d1c917c095bb289a08"), looks := true }, kinds := [], alts := [], laidByText := true, laidKinds := [.data, .data, .data, .sentinel, .sentinel], laidTests := true, laidLooks := .later }
def TypesClosedUptoCardSaid : Prop := Claim7.holds Tryd.pinned (.plain (OpenSpec.upto typesClosedSpec)) typesClosedUptoCard
end Rows
end Go.Proofs.YtmpmibebkflaiaaDoor
