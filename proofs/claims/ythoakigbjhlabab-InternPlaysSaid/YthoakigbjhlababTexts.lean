/- A slice of strings that came in. -/
import Derived.Test.YthoakigbjhlababFrame
namespace Go.Proofs.Ythoakigbjhlabab
open Go.RowKit

/-- A slice of strings that came in: nil, or a row of 'cap' cells with the strings 'ss', the first 'len' of which are its elements. -/
def IsTexts (w : World) (a : Option Addr) (len cap : Nat) (ss : List ByteArray) : Prop :=
  (a = none ∧ len = 0 ∧ cap = 0 ∧ ss = []) ∨
  ∃ x, a = some x ∧ len ≤ cap ∧ cap ≤ maxLen ∧ ss.length = cap ∧ (∀ i, i < ss.length → w.cell? (x.add i) = some (.string (ss.getD i ByteArray.empty))) ∧ ∀ s ∈ ss, s.size ≤ maxLen
end Go.Proofs.Ythoakigbjhlabab
