/-
  No cell of these rows narrows 'for every input' (looked for: loops, veiled, ifaces, maps, wideKeys, modest, calm, conditions, laid).
  DERIVED. THE GIVEN ROWS OF THIS SEAT. 6 by the template 'for every input the law returns true; each argument reads behind the call as it read before'; 0 by the template 'total and deterministic' (their statements: YteialkkpoikelaaTotals.lean).
  GIVEN WITH THE SEED: the statements are not yours to turn. If you find one false, say at which input.
  Laid BY PROGRAM, IN A SANDBOX (cutbox-rows.mjs): the forced cells as the released guide's own fill.sh prints them over the translation 8a8277f16eb895db… (all of the seat's roots in one cut). By AI agents, Wed Nov 11 2026. No macro, syntax, notation, axiom, sorry.
-/
import Derived.Test.YteialkkpoikelaaChecked
import GoSem.Claim
import GoSem.ClaimJoined
import GoSem.ClaimMapViews
import Derived.JoinedTies
import Derived.KernelRfl
namespace Go.Proofs.Yteialkkpoikelaa
/- THE CELL 'sum', in the pinned program and in every row, IS THE sha256 OF THE DUMP (.gsa) THAT YteialkkpoikelaaProg.lean LOADS. Nothing in Lean hashes anything: it is a label: what it is worth is what the hold of that sum in a sandbox is worth. -/
noncomputable def Try.pinned : Pinned := { name := "yteialkkpoikelaa", sum := "8a8277f16eb895db2c9d485b1c8d08e06f71d0e8ced3281b831e30d6508b85ac", checked := Try.checked }
namespace Rows
def none {H : Type} : Left H := { results := [], args := [] }

/-- 'parlancelaw08.LexTexts': WHATEVER THE INPUT: true; the input reads as it did. -/
def lexTextsSpec : ChangeSpec := { name := "lexTexts", fn := fun _ => fun
  | [d] => { results := [.lit (.bool true)], args := [d] }
  | _ => none }
def lexTextsRow : OpenClaim := { program := "yteialkkpoikelaa", sum := "8a8277f16eb895db2c9d485b1c8d08e06f71d0e8ced3281b831e30d6508b85ac", func := "parlance/parlancelaw08.LexTexts", spec := "lexTexts", inPlace := ["internal/bytealg.IndexByteString"], apart := false }
def LexTextsSaid : Prop := lexTextsRow.holds Try.pinned (OpenSpec.ofChange lexTextsSpec)

/-- ITS FALSE NEIGHBOUR: 'it returns false'. Refute it at one input. -/
def lexTextsWrong : ChangeSpec := { name := "lexTexts", fn := fun _ => fun
  | [d] => { results := [.lit (.bool false)], args := [d] }
  | _ => none }
def LexTextsWrongFalsely : Prop := lexTextsRow.holds Try.pinned (OpenSpec.ofChange lexTextsWrong)

/-- 'parlancelaw08.LexWords': WHATEVER THE INPUT: true; the input reads as it did. -/
def lexWordsSpec : ChangeSpec := { name := "lexWords", fn := fun _ => fun
  | [d1, d2, d3] => { results := [.lit (.bool true)], args := [d1, d2, d3] }
  | _ => none }
def lexWordsRow : OpenClaim := { program := "yteialkkpoikelaa", sum := "8a8277f16eb895db2c9d485b1c8d08e06f71d0e8ced3281b831e30d6508b85ac", func := "parlance/parlancelaw08.LexWords", spec := "lexWords", inPlace := ["internal/bytealg.IndexByteString"], apart := false }
def LexWordsSaid : Prop := lexWordsRow.holds Try.pinned (OpenSpec.ofChange lexWordsSpec)

/-- ITS FALSE NEIGHBOUR: 'it returns false'. Refute it at one input. -/
def lexWordsWrong : ChangeSpec := { name := "lexWords", fn := fun _ => fun
  | [d1, d2, d3] => { results := [.lit (.bool false)], args := [d1, d2, d3] }
  | _ => none }
def LexWordsWrongFalsely : Prop := lexWordsRow.holds Try.pinned (OpenSpec.ofChange lexWordsWrong)

/-- 'parlancelaw08.LexWhole': WHATEVER THE INPUT: true; the input reads as it did. -/
def lexWholeSpec : ChangeSpec := { name := "lexWhole", fn := fun _ => fun
  | [d] => { results := [.lit (.bool true)], args := [d] }
  | _ => none }
def lexWholeRow : OpenClaim := { program := "yteialkkpoikelaa", sum := "8a8277f16eb895db2c9d485b1c8d08e06f71d0e8ced3281b831e30d6508b85ac", func := "parlance/parlancelaw08.LexWhole", spec := "lexWhole", inPlace := ["internal/bytealg.IndexByteString"], apart := false }
def LexWholeSaid : Prop := lexWholeRow.holds Try.pinned (OpenSpec.ofChange lexWholeSpec)

/-- ITS FALSE NEIGHBOUR: 'it returns false'. Refute it at one input. -/
def lexWholeWrong : ChangeSpec := { name := "lexWhole", fn := fun _ => fun
  | [d] => { results := [.lit (.bool false)], args := [d] }
  | _ => none }
def LexWholeWrongFalsely : Prop := lexWholeRow.holds Try.pinned (OpenSpec.ofChange lexWholeWrong)

/-- 'parlancelaw08.LexAgain': WHATEVER THE INPUT: true; the input reads as it did. -/
def lexAgainSpec : ChangeSpec := { name := "lexAgain", fn := fun _ => fun
  | [d] => { results := [.lit (.bool true)], args := [d] }
  | _ => none }
def lexAgainRow : OpenClaim := { program := "yteialkkpoikelaa", sum := "8a8277f16eb895db2c9d485b1c8d08e06f71d0e8ced3281b831e30d6508b85ac", func := "parlance/parlancelaw08.LexAgain", spec := "lexAgain", inPlace := ["internal/bytealg.IndexByteString"], apart := false }
def LexAgainSaid : Prop := lexAgainRow.holds Try.pinned (OpenSpec.ofChange lexAgainSpec)

/-- ITS FALSE NEIGHBOUR: 'it returns false'. Refute it at one input. -/
def lexAgainWrong : ChangeSpec := { name := "lexAgain", fn := fun _ => fun
  | [d] => { results := [.lit (.bool false)], args := [d] }
  | _ => none }
def LexAgainWrongFalsely : Prop := lexAgainRow.holds Try.pinned (OpenSpec.ofChange lexAgainWrong)

/-- 'parlancelaw08.LexMoved': WHATEVER THE INPUT: true; the input reads as it did. -/
def lexMovedSpec : ChangeSpec := { name := "lexMoved", fn := fun _ => fun
  | [d1, d2] => { results := [.lit (.bool true)], args := [d1, d2] }
  | _ => none }
def lexMovedRow : OpenClaim := { program := "yteialkkpoikelaa", sum := "8a8277f16eb895db2c9d485b1c8d08e06f71d0e8ced3281b831e30d6508b85ac", func := "parlance/parlancelaw08.LexMoved", spec := "lexMoved", inPlace := ["internal/bytealg.IndexByteString"], apart := false }
def LexMovedSaid : Prop := lexMovedRow.holds Try.pinned (OpenSpec.ofChange lexMovedSpec)

/-- ITS FALSE NEIGHBOUR: 'it returns false'. Refute it at one input. -/
def lexMovedWrong : ChangeSpec := { name := "lexMoved", fn := fun _ => fun
  | [d1, d2] => { results := [.lit (.bool false)], args := [d1, d2] }
  | _ => none }
def LexMovedWrongFalsely : Prop := lexMovedRow.holds Try.pinned (OpenSpec.ofChange lexMovedWrong)

/-- 'parlancelaw08.LexMunch': WHATEVER THE INPUT: true; the input reads as it did. -/
def lexMunchSpec : ChangeSpec := { name := "lexMunch", fn := fun _ => fun
  | [d] => { results := [.lit (.bool true)], args := [d] }
  | _ => none }
def lexMunchRow : OpenClaim := { program := "yteialkkpoikelaa", sum := "8a8277f16eb895db2c9d485b1c8d08e06f71d0e8ced3281b831e30d6508b85ac", func := "parlance/parlancelaw08.LexMunch", spec := "lexMunch", inPlace := ["internal/bytealg.IndexByteString"], apart := false }
def LexMunchSaid : Prop := lexMunchRow.holds Try.pinned (OpenSpec.ofChange lexMunchSpec)

/-- ITS FALSE NEIGHBOUR: 'it returns false'. Refute it at one input. -/
def lexMunchWrong : ChangeSpec := { name := "lexMunch", fn := fun _ => fun
  | [d] => { results := [.lit (.bool false)], args := [d] }
  | _ => none }
def LexMunchWrongFalsely : Prop := lexMunchRow.holds Try.pinned (OpenSpec.ofChange lexMunchWrong)

/- THE SECOND FORM. 'bulk': how many values and letters a reading holds, each counted each time it is reached (what is shared counts as often as it is met; a slice's spare places count too). A statement '..UptoSaid' is the law's where the arguments, and the package variables that the reading takes, are together of bulk at most 1048576: NARROWER than '..Said'. Prove '..Said' where nothing that the law and all that it calls make is longer than what came in: it says more and counts as full. Else prove '..UptoSaid'. A law counts once. -/
mutual
def uptoBulk {H : Type} : DataW H → Nat
  | .lit (.string bytes) => bytes.length + 1
  | .lit _ => 1
  | .nil => 1
  | .ptr d => uptoBulk d + 1
  | .slice elems spare => uptoBulkAll elems + uptoBulkAll spare + 1
  | .agg parts => uptoBulkAll parts + 1
  | .iface _ d => uptoBulk d + 1
  | .map entries => uptoBulkEntries entries + 1
  | .held _ => 1
def uptoBulkAll {H : Type} : List (DataW H) → Nat
  | [] => 0
  | d :: r => uptoBulk d + uptoBulkAll r
def uptoBulkEntries {H : Type} : List (Lit × DataW H) → Nat
  | [] => 0
  | x :: r => uptoBulkEntry x + uptoBulkEntries r
def uptoBulkEntry {H : Type} : Lit × DataW H → Nat
  | (.string bytes, d) => bytes.length + uptoBulk d + 1
  | (_, d) => uptoBulk d + 1
 end
def uptoSmall : (H : Type) → List (DataW H) → Bool := fun _ ds => decide (uptoBulkAll ds ≤ 1048576)
def OpenSpec.upto (s : _root_.Go.ChangeSpec) : _root_.Go.OpenSpec := { _root_.Go.OpenSpec.ofChange s with cond := some uptoSmall }

/-- 'parlancelaw08.LexTexts', WHERE WHAT IT READS IS OF BULK AT MOST 1048576: true; the input reads as it did. -/
def lexTextsUptoRow : OpenClaim := { program := "yteialkkpoikelaa", sum := "8a8277f16eb895db2c9d485b1c8d08e06f71d0e8ced3281b831e30d6508b85ac", func := "parlance/parlancelaw08.LexTexts", spec := "lexTexts", inPlace := ["internal/bytealg.IndexByteString"], apart := false, narrowed := true }
def LexTextsUptoSaid : Prop := lexTextsUptoRow.holds Try.pinned (OpenSpec.upto lexTextsSpec)

/-- 'parlancelaw08.LexWords', WHERE WHAT IT READS IS OF BULK AT MOST 1048576: true; the input reads as it did. -/
def lexWordsUptoRow : OpenClaim := { program := "yteialkkpoikelaa", sum := "8a8277f16eb895db2c9d485b1c8d08e06f71d0e8ced3281b831e30d6508b85ac", func := "parlance/parlancelaw08.LexWords", spec := "lexWords", inPlace := ["internal/bytealg.IndexByteString"], apart := false, narrowed := true }
def LexWordsUptoSaid : Prop := lexWordsUptoRow.holds Try.pinned (OpenSpec.upto lexWordsSpec)

/-- 'parlancelaw08.LexWhole', WHERE WHAT IT READS IS OF BULK AT MOST 1048576: true; the input reads as it did. -/
def lexWholeUptoRow : OpenClaim := { program := "yteialkkpoikelaa", sum := "8a8277f16eb895db2c9d485b1c8d08e06f71d0e8ced3281b831e30d6508b85ac", func := "parlance/parlancelaw08.LexWhole", spec := "lexWhole", inPlace := ["internal/bytealg.IndexByteString"], apart := false, narrowed := true }
def LexWholeUptoSaid : Prop := lexWholeUptoRow.holds Try.pinned (OpenSpec.upto lexWholeSpec)

/-- 'parlancelaw08.LexAgain', WHERE WHAT IT READS IS OF BULK AT MOST 1048576: true; the input reads as it did. -/
def lexAgainUptoRow : OpenClaim := { program := "yteialkkpoikelaa", sum := "8a8277f16eb895db2c9d485b1c8d08e06f71d0e8ced3281b831e30d6508b85ac", func := "parlance/parlancelaw08.LexAgain", spec := "lexAgain", inPlace := ["internal/bytealg.IndexByteString"], apart := false, narrowed := true }
def LexAgainUptoSaid : Prop := lexAgainUptoRow.holds Try.pinned (OpenSpec.upto lexAgainSpec)

/-- 'parlancelaw08.LexMoved', WHERE WHAT IT READS IS OF BULK AT MOST 1048576: true; the input reads as it did. -/
def lexMovedUptoRow : OpenClaim := { program := "yteialkkpoikelaa", sum := "8a8277f16eb895db2c9d485b1c8d08e06f71d0e8ced3281b831e30d6508b85ac", func := "parlance/parlancelaw08.LexMoved", spec := "lexMoved", inPlace := ["internal/bytealg.IndexByteString"], apart := false, narrowed := true }
def LexMovedUptoSaid : Prop := lexMovedUptoRow.holds Try.pinned (OpenSpec.upto lexMovedSpec)

/-- 'parlancelaw08.LexMunch', WHERE WHAT IT READS IS OF BULK AT MOST 1048576: true; the input reads as it did. -/
def lexMunchUptoRow : OpenClaim := { program := "yteialkkpoikelaa", sum := "8a8277f16eb895db2c9d485b1c8d08e06f71d0e8ced3281b831e30d6508b85ac", func := "parlance/parlancelaw08.LexMunch", spec := "lexMunch", inPlace := ["internal/bytealg.IndexByteString"], apart := false, narrowed := true }
def LexMunchUptoSaid : Prop := lexMunchUptoRow.holds Try.pinned (OpenSpec.upto lexMunchSpec)

end Rows
end Go.Proofs.Yteialkkpoikelaa
