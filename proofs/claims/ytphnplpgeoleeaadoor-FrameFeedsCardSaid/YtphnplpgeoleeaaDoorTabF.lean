/- The tables that the rows of this seat list: a world that meets the condition, and what it gives a walk. -/
import Derived.Test.YtphnplpgeoleeaaDoorRows
import Derived.Test.YtphnplpgeoleeaaDoorFraQ
import Derived.Lay
import Derived.Lib.LaidIn
import Derived.Lib.LaidTab
import Derived.Lib.LaidU8
import Derived.Deep.DeepHandedRow
import Derived.Deep.DeepWitnessRowRef
import Derived.ProofKit
import Derived.SizedLaws
namespace Go.Proofs.YtphnplpgeoleeaaDoor
open Go.RowKit Go.Lib Go.Shelf
set_option maxRecDepth 100000

def laidList : List (String × DataW Unit) := Rows.frameFeedsRow.laid
/-- a world that meets the condition. -/
noncomputable def laidWorld (os : Os) : World := World.laidAll Tryd.prog os laidList
theorem laid_met (os : Os) (args : Array Value) : laidMet Tryd.prog laidList ((laidWorld os).forCall (fun _ _ => 0) ⟨#[], args, []⟩).memory :=
  laidMet_laidAll args (by kernel_rfl) (by kernel_rfl)
theorem data_pow : (Rows.laid_internal_strconv_uint64pow10 : DataW Unit) = Lib.tabData .u64 Lib.pow10Tab := by kernel_rfl
theorem pow_of_laid {W : World} (hL : laidMetH Tryd.prog laidList W) : Pow W := by
  obtain ⟨g', t', cs, fuel, p, hg', ht', hvar, hd⟩ := Lib.laidMet.reads hL (.tail _ (.tail _ (.head _)))
  rw [data_pow] at hd
  obtain rfl := Option.some.inj ((show Tryd.prog.globalNamed "internal/strconv.uint64pow10" = some 4 by kernel_rfl).symm.trans hg')
  obtain rfl := Option.some.inj ((show (Tryd.prog.globals[4]?).map (·.type) = some 106 by kernel_rfl).symm.trans ht')
  unfold Pow Lib.TabIs
  rw [hvar, ← Lib.cells_of_tab Tryd.underlying106 Tryd.underlying84 (by kernel_rfl) (by kernel_rfl) hd]
def Tabs (w : World) : Prop := Pow w
theorem tabs_of_laid {W : World} (hL : laidMetH Tryd.prog laidList W) : Tabs W := pow_of_laid hL
theorem maxl_of {W : World} (h : W.ShapedOpen Tryd.prog) : MaxL W := Tryd.laysM145.s1_3 W h
end Go.Proofs.YtphnplpgeoleeaaDoor
