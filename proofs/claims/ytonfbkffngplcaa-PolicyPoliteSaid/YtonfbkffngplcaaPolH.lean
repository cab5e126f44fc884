/- The reference's failure. -/
import Derived.Test.YtonfbkffngplcaaPolGA
import Derived.Test.YtonfbkffngplcaaPolGB
import Derived.Test.YtonfbkffngplcaaPolGC
namespace Go.Proofs.Ytonfbkffngplcaa
open Go.RowKit

end Go.Proofs.Ytonfbkffngplcaa
