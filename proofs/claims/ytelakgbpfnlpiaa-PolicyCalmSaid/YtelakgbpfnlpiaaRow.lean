/- A load of a whole struct out of a box, as one step. No program here. -/
import Derived.Test.YtelakgbpfnlpiaaBox
import Derived.Test.YtelakgbpfnlpiaaLast
import Derived.Laws.Rows
namespace Go.Proofs.Ytelakgbpfnlpiaa
open Go Go.RowKit

theorem exec_load_box {P : Program} {w : World} {ev : Operand → Value} {o : Oper} {ty t : TypeId} {x : Operand} {g : Nat} {cs : Array Value} {d : TypeDesc} (ho : o.op = .load ty x) (hx : ev x = .pointer (some ⟨g, 0, none⟩)) (hb : Box w g cs t)
    (hu : P.underlying ty = some d) (hd : (match d with | .struct _ | .array _ _ => true | _ => false) = true) (hi : (P.info? ty).map (·.size) = some cs.size) :
    (execOp ev o).run P w = .ok (.value (.agg cs)) w := by
  unfold execOp
  simp only [ho, hx, Instr.loadAt, Instr.sureAddr, Sem.run_bind, Sem.run_pure, Result.andThen_ok, run_loadVar_row w g t ty cs (0, 0) d hb hu hd hi]
end Go.Proofs.Ytelakgbpfnlpiaa
