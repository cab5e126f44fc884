/- Package pct: Norm and Decode; the document's own Norm and Decode. -/
import Derived.Test.YtodlecjbpmggiaaDoorPcRwN
import Derived.Test.YtodlecjbpmggiaaDoorPcRwD
import Derived.BigQuiet
import Derived.Test.YtodlecjbpmggiaaDoorLast
import Derived.Test.YtodlecjbpmggiaaDoorForget
namespace Go.Proofs.YtodlecjbpmggiaaDoor
open Go.RowKit
set_option linter.unusedVariables false
set_option linter.unusedSimpArgs false

theorem norm_at (s : ByteArray) (r : Option (List Int)) (hr : nrmI (btL s) = r) (hs : s.size ≤ 10000) (w : World) (hT : Tabs w) :
    Calls Tryd.prog 28 #[.string s] w fun e w' => e = .returned (.tuple #[.string (strL (r.getD [])), .bool r.isSome]) ∧ Below w.heap.size w w' := by
  have HT := Lib.hid hT
  have HR := Lib.hid hr
  clear hT hr
  go_enter Tryd.func28, Tryd.ntmps28
  go_wp2_with fail
  refine (rewriteN_at s r HR.out hs _ HT.out).mono ?_
  rintro e w1 ⟨rfl, hb⟩
  have HB := Lib.hid hb
  clear hb
  go_wp2
  go_ret2
  exact ⟨rfl, HB.out⟩
structure Rf (M : List Int → Option (List Int)) (s : ByteArray) (w wr : World) (k : Nat) (a : Option Addr) (cap : Nat) (acc : List Int) : Prop where
  own : OwnB wr w.heap.size a cap acc
  bel : Below w.heap.size w wr
  eq : M (btL s) = (M ((btL s).drop k)).map (acc ++ ·)
  len : acc.length ≤ 3 * k
  byts : Byts acc
end Go.Proofs.YtodlecjbpmggiaaDoor
