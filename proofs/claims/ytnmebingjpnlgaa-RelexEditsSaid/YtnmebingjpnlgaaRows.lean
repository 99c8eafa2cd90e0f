/-
  No cell of these rows narrows 'for every input' (looked for: loops, veiled, ifaces, maps, wideKeys, modest, calm, conditions, laid).
  DERIVED. THE GIVEN ROWS OF THIS SEAT. 5 by the template 'for every input the law returns true; each argument reads behind the call as it read before'; 0 by the template 'total and deterministic' (their statements: YtnmebingjpnlgaaTotals.lean).
  GIVEN WITH THE SEED: the statements are not yours to turn. If you find one false, say at which input.
  Laid BY PROGRAM, IN A SANDBOX (cutbox-rows.mjs): the forced cells as the released guide's own fill.sh prints them over the translation 73a94171b4831eb4… (all of the seat's roots in one cut). By AI agents, Wed Nov 11 2026. No macro, syntax, notation, axiom, sorry.
-/
import Derived.Test.YtnmebingjpnlgaaChecked
import GoSem.Claim
import GoSem.ClaimJoined
import GoSem.ClaimMapViews
import Derived.JoinedTies
import Derived.KernelRfl
namespace Go.Proofs.Ytnmebingjpnlgaa
/- THE CELL 'sum', in the pinned program and in every row, IS THE sha256 OF THE DUMP (.gsa) THAT YtnmebingjpnlgaaProg.lean LOADS. Nothing in Lean hashes anything: it is a label: what it is worth is what the hold of that sum in a sandbox is worth. -/
noncomputable def Try.pinned : Pinned := { name := "ytnmebingjpnlgaa", sum := "73a94171b4831eb4c8dff8266b6a55a3b3bf608d8b6de27f0be87f4ad6e016ba", checked := Try.checked }
namespace Rows
def none {H : Type} : Left H := { results := [], args := [] }

/-- 'parlancelaw09.RelexEdits': WHATEVER THE INPUT: true; the input reads as it did. -/
def relexEditsSpec : ChangeSpec := { name := "relexEdits", fn := fun _ => fun
  | [d1, d2, d3, d4] => { results := [.lit (.bool true)], args := [d1, d2, d3, d4] }
  | _ => none }
def relexEditsRow : OpenClaim := { program := "ytnmebingjpnlgaa", sum := "73a94171b4831eb4c8dff8266b6a55a3b3bf608d8b6de27f0be87f4ad6e016ba", func := "parlance/parlancelaw09.RelexEdits", spec := "relexEdits", inPlace := ["internal/bytealg.IndexByteString"], apart := false }
def RelexEditsSaid : Prop := relexEditsRow.holds Try.pinned (OpenSpec.ofChange relexEditsSpec)

/-- ITS FALSE NEIGHBOUR: 'it returns false'. Refute it at one input. -/
def relexEditsWrong : ChangeSpec := { name := "relexEdits", fn := fun _ => fun
  | [d1, d2, d3, d4] => { results := [.lit (.bool false)], args := [d1, d2, d3, d4] }
  | _ => none }
def RelexEditsWrongFalsely : Prop := relexEditsRow.holds Try.pinned (OpenSpec.ofChange relexEditsWrong)

/-- 'parlancelaw09.RelexSpans': WHATEVER THE INPUT: true; the input reads as it did. -/
def relexSpansSpec : ChangeSpec := { name := "relexSpans", fn := fun _ => fun
  | [d1, d2] => { results := [.lit (.bool true)], args := [d1, d2] }
  | _ => none }
def relexSpansRow : OpenClaim := { program := "ytnmebingjpnlgaa", sum := "73a94171b4831eb4c8dff8266b6a55a3b3bf608d8b6de27f0be87f4ad6e016ba", func := "parlance/parlancelaw09.RelexSpans", spec := "relexSpans", inPlace := ["internal/bytealg.IndexByteString"], apart := false }
def RelexSpansSaid : Prop := relexSpansRow.holds Try.pinned (OpenSpec.ofChange relexSpansSpec)

/-- ITS FALSE NEIGHBOUR: 'it returns false'. Refute it at one input. -/
def relexSpansWrong : ChangeSpec := { name := "relexSpans", fn := fun _ => fun
  | [d1, d2] => { results := [.lit (.bool false)], args := [d1, d2] }
  | _ => none }
def RelexSpansWrongFalsely : Prop := relexSpansRow.holds Try.pinned (OpenSpec.ofChange relexSpansWrong)

/-- 'parlancelaw09.RelexRows': WHATEVER THE INPUT: true; the input reads as it did. -/
def relexRowsSpec : ChangeSpec := { name := "relexRows", fn := fun _ => fun
  | [d1, d2] => { results := [.lit (.bool true)], args := [d1, d2] }
  | _ => none }
def relexRowsRow : OpenClaim := { program := "ytnmebingjpnlgaa", sum := "73a94171b4831eb4c8dff8266b6a55a3b3bf608d8b6de27f0be87f4ad6e016ba", func := "parlance/parlancelaw09.RelexRows", spec := "relexRows", inPlace := ["internal/bytealg.IndexByteString"], apart := false }
def RelexRowsSaid : Prop := relexRowsRow.holds Try.pinned (OpenSpec.ofChange relexRowsSpec)

/-- ITS FALSE NEIGHBOUR: 'it returns false'. Refute it at one input. -/
def relexRowsWrong : ChangeSpec := { name := "relexRows", fn := fun _ => fun
  | [d1, d2] => { results := [.lit (.bool false)], args := [d1, d2] }
  | _ => none }
def RelexRowsWrongFalsely : Prop := relexRowsRow.holds Try.pinned (OpenSpec.ofChange relexRowsWrong)

/-- 'parlancelaw09.RelexNothing': WHATEVER THE INPUT: true; the input reads as it did. -/
def relexNothingSpec : ChangeSpec := { name := "relexNothing", fn := fun _ => fun
  | [d1, d2, d3] => { results := [.lit (.bool true)], args := [d1, d2, d3] }
  | _ => none }
def relexNothingRow : OpenClaim := { program := "ytnmebingjpnlgaa", sum := "73a94171b4831eb4c8dff8266b6a55a3b3bf608d8b6de27f0be87f4ad6e016ba", func := "parlance/parlancelaw09.RelexNothing", spec := "relexNothing", inPlace := ["internal/bytealg.IndexByteString"], apart := false }
def RelexNothingSaid : Prop := relexNothingRow.holds Try.pinned (OpenSpec.ofChange relexNothingSpec)

/-- ITS FALSE NEIGHBOUR: 'it returns false'. Refute it at one input. -/
def relexNothingWrong : ChangeSpec := { name := "relexNothing", fn := fun _ => fun
  | [d1, d2, d3] => { results := [.lit (.bool false)], args := [d1, d2, d3] }
  | _ => none }
def RelexNothingWrongFalsely : Prop := relexNothingRow.holds Try.pinned (OpenSpec.ofChange relexNothingWrong)

/-- 'parlancelaw09.RelexApart': WHATEVER THE INPUT: true; the input reads as it did. -/
def relexApartSpec : ChangeSpec := { name := "relexApart", fn := fun _ => fun
  | [d] => { results := [.lit (.bool true)], args := [d] }
  | _ => none }
def relexApartRow : OpenClaim := { program := "ytnmebingjpnlgaa", sum := "73a94171b4831eb4c8dff8266b6a55a3b3bf608d8b6de27f0be87f4ad6e016ba", func := "parlance/parlancelaw09.RelexApart", spec := "relexApart", inPlace := ["internal/bytealg.IndexByteString"], apart := false }
def RelexApartSaid : Prop := relexApartRow.holds Try.pinned (OpenSpec.ofChange relexApartSpec)

/-- ITS FALSE NEIGHBOUR: 'it returns false'. Refute it at one input. -/
def relexApartWrong : ChangeSpec := { name := "relexApart", fn := fun _ => fun
  | [d] => { results := [.lit (.bool false)], args := [d] }
  | _ => none }
def RelexApartWrongFalsely : Prop := relexApartRow.holds Try.pinned (OpenSpec.ofChange relexApartWrong)

/- THE SECOND FORM. 'bulk': how many values and letters a reading holds, each counted each time it is reached (what is shared counts as often as it is met; a slice's spare places count too). A statement '..UptoSaid' is the law's where the arguments, and the package variables that the reading takes, are together of bulk at most 1048576: NARROWER than '..Said'. Prove '..Said' where nothing that the law and all that it calls make is longer than what came in: it says more and counts as full. Else prove '..UptoSaid'. A law counts once. -/
mutual
def uptoBulk {H : Type} : DataW H → Nat
  | .lit (.string bytes) => bytes.length + 1
  | .lit _ => 1
  | .nil => 1
  | .ptr d => uptoBulk d + 1
  | .slice elems spare => uptoBulkAll elems + uptoBulkAll spare + 1
  | .agg parts => uptoBulkAll parts + 1
  | .iface _ d => uptoBulk d + 1
  | .map entries => uptoBulkEntries entries + 1
  | .held _ => 1
def uptoBulkAll {H : Type} : List (DataW H) → Nat
  | [] => 0
  | d :: r => uptoBulk d + uptoBulkAll r
def uptoBulkEntries {H : Type} : List (Lit × DataW H) → Nat
  | [] => 0
  | x :: r => uptoBulkEntry x + uptoBulkEntries r
def uptoBulkEntry {H : Type} : Lit × DataW H → Nat
  | (.string bytes, d) => bytes.length + uptoBulk d + 1
  | (_, d) => uptoBulk d + 1
 end
def uptoSmall : (H : Type) → List (DataW H) → Bool := fun _ ds => decide (uptoBulkAll ds ≤ 1048576)
def OpenSpec.upto (s : _root_.Go.ChangeSpec) : _root_.Go.OpenSpec := { _root_.Go.OpenSpec.ofChange s with cond := some uptoSmall }

/-- 'parlancelaw09.RelexEdits', WHERE WHAT IT READS IS OF BULK AT MOST 1048576: true; the input reads as it did. -/
def relexEditsUptoRow : OpenClaim := { program := "ytnmebingjpnlgaa", sum := "73a94171b4831eb4c8dff8266b6a55a3b3bf608d8b6de27f0be87f4ad6e016ba", func := "parlance/parlancelaw09.RelexEdits", spec := "relexEdits", inPlace := ["internal/bytealg.IndexByteString"], apart := false, narrowed := true }
def RelexEditsUptoSaid : Prop := relexEditsUptoRow.holds Try.pinned (OpenSpec.upto relexEditsSpec)

/-- 'parlancelaw09.RelexSpans', WHERE WHAT IT READS IS OF BULK AT MOST 1048576: true; the input reads as it did. -/
def relexSpansUptoRow : OpenClaim := { program := "ytnmebingjpnlgaa", sum := "73a94171b4831eb4c8dff8266b6a55a3b3bf608d8b6de27f0be87f4ad6e016ba", func := "parlance/parlancelaw09.RelexSpans", spec := "relexSpans", inPlace := ["internal/bytealg.IndexByteString"], apart := false, narrowed := true }
def RelexSpansUptoSaid : Prop := relexSpansUptoRow.holds Try.pinned (OpenSpec.upto relexSpansSpec)

/-- 'parlancelaw09.RelexRows', WHERE WHAT IT READS IS OF BULK AT MOST 1048576: true; the input reads as it did. -/
def relexRowsUptoRow : OpenClaim := { program := "ytnmebingjpnlgaa", sum := "73a94171b4831eb4c8dff8266b6a55a3b3bf608d8b6de27f0be87f4ad6e016ba", func := "parlance/parlancelaw09.RelexRows", spec := "relexRows", inPlace := ["internal/bytealg.IndexByteString"], apart := false, narrowed := true }
def RelexRowsUptoSaid : Prop := relexRowsUptoRow.holds Try.pinned (OpenSpec.upto relexRowsSpec)

/-- 'parlancelaw09.RelexNothing', WHERE WHAT IT READS IS OF BULK AT MOST 1048576: true; the input reads as it did. -/
def relexNothingUptoRow : OpenClaim := { program := "ytnmebingjpnlgaa", sum := "73a94171b4831eb4c8dff8266b6a55a3b3bf608d8b6de27f0be87f4ad6e016ba", func := "parlance/parlancelaw09.RelexNothing", spec := "relexNothing", inPlace := ["internal/bytealg.IndexByteString"], apart := false, narrowed := true }
def RelexNothingUptoSaid : Prop := relexNothingUptoRow.holds Try.pinned (OpenSpec.upto relexNothingSpec)

/-- 'parlancelaw09.RelexApart', WHERE WHAT IT READS IS OF BULK AT MOST 1048576: true; the input reads as it did. -/
def relexApartUptoRow : OpenClaim := { program := "ytnmebingjpnlgaa", sum := "73a94171b4831eb4c8dff8266b6a55a3b3bf608d8b6de27f0be87f4ad6e016ba", func := "parlance/parlancelaw09.RelexApart", spec := "relexApart", inPlace := ["internal/bytealg.IndexByteString"], apart := false, narrowed := true }
def RelexApartUptoSaid : Prop := relexApartUptoRow.holds Try.pinned (OpenSpec.upto relexApartSpec)

end Rows
end Go.Proofs.Ytnmebingjpnlgaa
