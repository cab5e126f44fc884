/- The reference's small functions on policies. -/
import Derived.Test.YtonfbkffngplcaaPolW
namespace Go.Proofs.Ytonfbkffngplcaa
open Go.RowKit


end Go.Proofs.Ytonfbkffngplcaa
