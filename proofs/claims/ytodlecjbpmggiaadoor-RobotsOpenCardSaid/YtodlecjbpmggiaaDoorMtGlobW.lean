/- The document's own matching, walked. -/
import Derived.Test.YtodlecjbpmggiaaDoorMtGlob
import Derived.Deep.DeepCutAuto
namespace Go.Proofs.YtodlecjbpmggiaaDoor
open Go.RowKit
set_option linter.unusedVariables false
set_option linter.unusedSimpArgs false

end Go.Proofs.YtodlecjbpmggiaaDoor
