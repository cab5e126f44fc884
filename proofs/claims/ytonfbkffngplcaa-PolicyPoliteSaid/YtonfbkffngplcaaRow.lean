/- A load of a whole struct out of a box, as one step. No program here. -/
import Derived.Test.YtonfbkffngplcaaBox
import Derived.Test.YtonfbkffngplcaaLast
import Derived.Laws.Rows
namespace Go.Proofs.Ytonfbkffngplcaa
open Go Go.RowKit

theorem exec_load_box {P : Program} {w : World} {ev : Operand → Value} {o : Oper} {ty t : TypeId} {x : Operand} {g : Nat} {cs : Array Value} {d : TypeDesc} (ho : o.op = .load ty x) (hx : ev x = .pointer (some ⟨g, 0, none⟩)) (hb : Box w g cs t)
    (hu : P.underlying ty = some d) (hd : (match d with | .struct _ | .array _ _ => true | _ => false) = true) (hi : (P.info? ty).map (·.size) = some cs.size) :
    (execOp ev o).run P w = .ok (.value (.agg cs)) w := by
  unfold execOp
  simp only [ho, hx, Instr.loadAt, Instr.sureAddr, Sem.run_bind, Sem.run_pure, Result.andThen_ok, run_loadVar_row w g t ty cs (0, 0) d hb hu hd hi]

/-- A store of a whole struct into a box, at a step of a region that draws. -/
theorem step_store_row {P : Program} {ops : Array Oper} {o : Oper} {act : Act} {K : Act → World → Prop} {Q : Exit → Act → World → Prop} {E : Prop} {w : World} (hgd : o.guard = none) {ty : TypeId} {x y : Operand} (ho : o.op = .store ty x y)
    {g : Nat} {cells cs : Array Value} {t : TypeId} (hx : act.eval x = .pointer (some ⟨g, 0, none⟩)) (hy : act.eval y = .agg cells) (hb : Box w g cs t) (hn : cs.size = cells.size) (hi : cellsFor P ty = some cells.size) (h1 : cells.all (·.oneCell') = true)
    (h : K (act.put o.dst undef) (w.setRow g cells)) : if Region.wanted o (yielded ops act.tmps) = true then Oper.wp P o act w K Q else E := by
  have hw : Region.wanted o (yielded ops act.tmps) = true := by simp [Region.wanted, hgd]
  rw [if_pos hw]
  have hs := storeAt_row (P := P) (w := w) (g := g) (ty := ty) (cells := cells) (hn ▸ hb.room) hi h1
  unfold Oper.wp execOp
  simp only [ho, hx, hy, Sem.run_bind, Sem.run_pure, hs, Result.andThen_ok]
  exact h
end Go.Proofs.Ytonfbkffngplcaa
