/- Package pct: Decode: what rewrite writes. -/
import Derived.Test.YtodlecjbpmggiaaGreatDoorPcPiece
import Derived.Laws.RangeAny
namespace Go.Proofs.YtodlecjbpmggiaaGreatDoor
open Go.RowKit
set_option linter.unusedVariables false
set_option linter.unusedSimpArgs false

/-- How far the loop has come. -/
structure RwD (s : ByteArray) (w wr : World) (pos q : Nat) (acc : List Int) : Prop where
  bld : IsB w.heap.size w.heap.size acc wr
  it : wr.heap[w.heap.size + 1]? = some (.stringIter s pos)
  bel : Below w.heap.size w wr
  tabs : Tabs wr
  ascii : ∀ j (hj : j < s.size), pos ≤ j → j < q → (s[j]'hj).toNat < 128
  eq : decI (btL s) = (decI ((btL s).drop (max pos q))).map (acc ++ ·)
  len : acc.length ≤ 3 * max pos q
  byts : Byts acc
end Go.Proofs.YtodlecjbpmggiaaGreatDoor
