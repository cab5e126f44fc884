/- The laws' small functions. -/
import Derived.Test.YtonfbkffngplcaaPolA
import Derived.Test.YtonfbkffngplcaaPolY
namespace Go.Proofs.Ytonfbkffngplcaa
open Go.RowKit


end Go.Proofs.Ytonfbkffngplcaa
