/- The document's own form and match. -/
import Derived.Test.YtodlecjbpmggiaaDoorMtGlobW
namespace Go.Proofs.YtodlecjbpmggiaaDoor
open Go.RowKit
set_option linter.unusedVariables false
set_option linter.unusedSimpArgs false

theorem dl_last (p : ByteArray) (h : 0 < p.size) : (dl p).getLast? = some (p[p.size - 1]'(by omega)) := by
  rw [List.getLast?_eq_getElem?, dl_len, dl_get p _ (by omega)]
theorem dl_init (p : ByteArray) : dl (p.extract 0 (p.size - 1)) = (dl p).dropLast := by
  unfold dl
  rw [Lib.extract_data, List.drop_zero, Nat.sub_zero, List.dropLast_eq_take, Lib.size_eq]
end Go.Proofs.YtodlecjbpmggiaaDoor
