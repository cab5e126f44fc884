/- The reference's failure: its helpers. -/
import Derived.Test.YtonfbkffngplcaaPolB
namespace Go.Proofs.Ytonfbkffngplcaa
open Go.RowKit

end Go.Proofs.Ytonfbkffngplcaa
