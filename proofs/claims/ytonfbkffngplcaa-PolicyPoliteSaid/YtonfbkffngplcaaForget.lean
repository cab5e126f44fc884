/- To name the world of a call or of what is left, by what holds of it. No program here. -/
import Derived.WalkKit
import Derived.Below
namespace Go.Proofs.Ytonfbkffngplcaa
open Go.RowKit
theorem calls_forget {P : Program} {f : FuncId} {args : Array Value} {w : World} {R : Ending → World → Prop} (S : World → Prop) (h : S w) (k : ∀ w', S w' → Calls P f args w' R) : Calls P f args w R := k w h
theorem code_forget {P : Program} {c : Code} {Q : Exit → Act → World → Prop} {a : Act} {w : World} (S : World → Prop) (h : S w) (k : ∀ w', S w' → Code.wp P c Q a w') : Code.wp P c Q a w := k w h
end Go.Proofs.Ytonfbkffngplcaa
