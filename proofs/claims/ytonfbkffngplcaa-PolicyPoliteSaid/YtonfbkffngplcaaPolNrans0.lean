/- An answer. -/
import Derived.Test.YtonfbkffngplcaaPolG
namespace Go.Proofs.Ytonfbkffngplcaa
open Go.RowKit

end Go.Proofs.Ytonfbkffngplcaa
