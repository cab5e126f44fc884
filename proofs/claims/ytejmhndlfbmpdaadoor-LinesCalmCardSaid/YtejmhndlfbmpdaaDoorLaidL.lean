/- Of the listed tables the walks ask nothing. -/
import Derived.Test.YtejmhndlfbmpdaaDoorRows
import Derived.PinnedBridge
import Derived.Handed
import Derived.SizedLaws
namespace Go.Proofs.YtejmhndlfbmpdaaDoor
open Go.RowKit
theorem tabs_of_laid {W : World} (_ : laidMet Tryd.prog Rows.linesParsesRow.laid W) : True := trivial
end Go.Proofs.YtejmhndlfbmpdaaDoor
