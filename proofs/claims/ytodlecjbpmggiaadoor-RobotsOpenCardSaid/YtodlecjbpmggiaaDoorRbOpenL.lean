/- RobotsOpen: the walk, as the frame asks for it. -/
import Derived.Test.YtodlecjbpmggiaaDoorRbOpen
import Derived.Test.YtodlecjbpmggiaaDoorRbIn
namespace Go.Proofs.YtodlecjbpmggiaaDoor
open Go Go.RowKit
theorem robotsOpen_walk (x : RbX) (path more : ByteArray) (w : World) (hx : IsRls w (x.ra, x.rl, x.rc)) (hp : path.size ≤ maxLen) (hm : more.size ≤ maxLen) (hT : TabsM w) :
    Calls Tryd.prog 3 #[.agg #[.bool x.all, .bool x.no, .slice x.ra x.rl x.rc, .int .i64 x.d], .string path, .string more] w fun e w' => e = .returned (.bool true) ∧ Below w.heap.size w w' := by
  obtain ⟨rs, h1, h2, h3, h4, h5⟩ := hx
  exact robotsOpen_w x.all x.no x.ra x.rl x.rc x.d rs path more w h1 h4 h3 h2 h5 hp hm hT
end Go.Proofs.YtodlecjbpmggiaaDoor
