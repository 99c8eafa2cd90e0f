/- The library's ValidString. -/
import Derived.Test.YtdeihlbnlogjcaaDoorUtfC
import Derived.Test.YtdeihlbnlogjcaaDoorShelfV
namespace Go.Proofs.YtdeihlbnlogjcaaDoor
open Go.RowKit Go.Lib Go.Shelf
set_option maxRecDepth 100000

theorem vs : VS := fun s w hs hT => Any.utf8_ValidString Tryd.laysV s w hs hT
end Go.Proofs.YtdeihlbnlogjcaaDoor
