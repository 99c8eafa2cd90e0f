/- What a row knows of the library's own number. -/
import Derived.Test.YtdeihlbnlogjcaaDoorTexB
import Derived.Test.YtdeihlbnlogjcaaDoorShelfM
namespace Go.Proofs.YtdeihlbnlogjcaaDoor
open Go.RowKit Go.Lib Go.Shelf

theorem maxl_of {W : World} (h : W.ShapedOpen Tryd.prog) : MaxL W := Tryd.laysM145.s1_3 W h
end Go.Proofs.YtdeihlbnlogjcaaDoor
