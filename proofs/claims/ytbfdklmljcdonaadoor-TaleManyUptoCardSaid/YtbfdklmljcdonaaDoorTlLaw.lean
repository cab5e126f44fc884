/- The law's line of a step. Written by gen_law.py. -/
import Derived.Test.YtbfdklmljcdonaaDoorTlLwA
import Derived.Test.YtbfdklmljcdonaaDoorTlLwB
namespace Go.Proofs.YtbfdklmljcdonaaDoor
open Go Go.RowKit
set_option linter.unusedVariables false
set_option linter.unusedSimpArgs false
set_option maxRecDepth 10000

theorem fms_kinds : ∀ f ∈ fms, 1 ≤ f.kind ∧ f.kind ≤ 8 := by decide
end Go.Proofs.YtbfdklmljcdonaaDoor
