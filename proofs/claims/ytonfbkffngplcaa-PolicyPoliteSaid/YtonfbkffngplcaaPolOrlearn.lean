/- Rules that are learnt. -/
import Derived.Test.YtonfbkffngplcaaPolG
import Derived.Test.YtonfbkffngplcaaLast
namespace Go.Proofs.Ytonfbkffngplcaa
open Go.RowKit

end Go.Proofs.Ytonfbkffngplcaa
