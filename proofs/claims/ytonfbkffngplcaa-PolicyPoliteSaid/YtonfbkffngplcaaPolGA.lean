/- The reference's failure, case by case. -/
import Derived.Test.YtonfbkffngplcaaPolG
namespace Go.Proofs.Ytonfbkffngplcaa
open Go.RowKit

end Go.Proofs.Ytonfbkffngplcaa
