/- The shelf's contracts at this translation: the tables of numbers, by name; each body compared by the kernel. -/

import Derived.Shelf.Strings.Builder1
import Derived.Shelf.Strings.Repeat
import Derived.Shelf.Strings.BuilderX
import Derived.Test.YtodibjpojfipoaaGreatDoorProg
namespace Go.Proofs
open Go.Shelf
end Go.Proofs
