/- The law on when a breaker opens, both ways. -/
import Derived.Test.YtjclllmdaoapeabOpensT
import Derived.Test.YtjclllmdaoapeabOpensF
namespace Go.Proofs.Ytjclllmdaoapeab
open Go.RowKit
theorem breakerOpens_walk (p opn q : Int) (good : Bool) (w : World) (wp : (Lit.int .u8 p).wf = true) (wo : (Lit.int .u16 opn).wf = true) (wq : (Lit.int .u8 q).wf = true) :
    Calls Try.prog 9 #[.int .u8 p, .int .u16 opn, .int .u8 q, .bool good] w fun e w' => e = .returned (.bool true) ∧ Below w.heap.size w w' := by
  cases good
  · exact opens_false p opn q w wp wo wq
  · exact opens_true p opn q w wp wo wq
end Go.Proofs.Ytjclllmdaoapeab
