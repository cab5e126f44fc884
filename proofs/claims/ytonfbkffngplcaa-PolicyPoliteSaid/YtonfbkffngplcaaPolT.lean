/- The reference's Send. -/
import Derived.Test.YtonfbkffngplcaaPolQ
namespace Go.Proofs.Ytonfbkffngplcaa
open Go.RowKit


end Go.Proofs.Ytonfbkffngplcaa
