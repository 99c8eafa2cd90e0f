/-
  DERIVED. GIVEN WITH THE SEED: THE CARDS: each row of YtmpmibebkflaiaaGreatDoorRows.lean that lists a variable, with what it lists TIED to the program's text (the seventh form; the later family's looks); each row that meets fmt, with fmt's text TOLD by the authors' own Lean function (tested against real Go, not proved from fmt's source: count such statements apart). THE CARD IS WHAT COUNTS. Prove the row's statement (the work); the ties are given (YtmpmibebkflaiaaGreatDoorTie.lean); close each card by the builder's one call (the guide's Derived/Test/ToyasCard.lean, 'card_holds'). Laid BY PROGRAM, IN A SANDBOX (cutbox-door.mjs). By AI agents, Wed Nov 11 2026. No macro, syntax, notation, axiom, sorry.
-/
import Derived.Test.YtmpmibebkflaiaaGreatDoorRows
import GoSem.ClaimSeven
namespace Go.Proofs.YtmpmibebkflaiaaGreatDoor
namespace Rows

/-- THE TIED CARD OF 'parlancelaw12.TypesShow'. -/
def typesShowCard : Claim7 := { stood := { row := typesShowRow, standIns := [], harness := (true, "84bd6a45dd146deac35f505eedd6577566955273d0d89ca73b444a0729b5dd50"), looks := true }, kinds := [], alts := [], laidByText := true, laidKinds := [.data, .data, .data, .sentinel, .sentinel], laidTests := true, laidLooks := .later }
def TypesShowCardSaid : Prop := Claim7.holds Tryz.pinned (.plain (OpenSpec.ofChange typesShowSpec)) typesShowCard

/-- THE SECOND FORM's CARD OF 'parlancelaw12.TypesShow'. -/
def typesShowUptoCard : Claim7 := { stood := { row := typesShowUptoRow, standIns := [], harness := (true, "84bd6a45dd146deac35f505eedd6577566955273d0d89ca73b444a0729b5dd50"), looks := true }, kinds := [], alts := [], laidByText := true, laidKinds := [.data, .data, .data, .sentinel, .sentinel], laidTests := true, laidLooks := .later }
def TypesShowUptoCardSaid : Prop := Claim7.holds Tryz.pinned (.plain (OpenSpec.upto typesShowSpec)) typesShowUptoCard
end Rows
end Go.Proofs.YtmpmibebkflaiaaGreatDoor
