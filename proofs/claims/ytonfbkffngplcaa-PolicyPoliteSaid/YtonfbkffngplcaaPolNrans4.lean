/- An answer. -/
import Derived.Test.YtonfbkffngplcaaPolH
namespace Go.Proofs.Ytonfbkffngplcaa
open Go.RowKit

end Go.Proofs.Ytonfbkffngplcaa
