/- The law's texts as words. -/
import Derived.Test.YtbfdklmljcdonaaDoorTlEnc
namespace Go.Proofs.YtbfdklmljcdonaaDoor
open Go Go.RowKit
set_option linter.unusedVariables false
set_option linter.unusedSimpArgs false
set_option maxRecDepth 10000

end Go.Proofs.YtbfdklmljcdonaaDoor
