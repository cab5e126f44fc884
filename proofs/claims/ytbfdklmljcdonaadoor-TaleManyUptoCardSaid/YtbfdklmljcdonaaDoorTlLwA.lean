/- The law's line of a step, some kinds. Written by gen_law.py. -/
import Derived.Test.YtbfdklmljcdonaaDoorTlLwH
namespace Go.Proofs.YtbfdklmljcdonaaDoor
open Go Go.RowKit
set_option linter.unusedVariables false
set_option linter.unusedSimpArgs false
set_option maxRecDepth 10000

end Go.Proofs.YtbfdklmljcdonaaDoor
