/- Equality of arrays of five numbers. -/
import Derived.Test.YtelakgbpfnlpiaaAudRate
import Derived.Laws.StructEq
namespace Go.Proofs.Ytelakgbpfnlpiaa
open Go.RowKit

theorem eq5_fixed (w : World) : (Op.equalIn 10000 63 (.agg #[.int .i64 0, .int .i64 1, .int .i64 1, .int .i64 1, .int .i64 0]) (.agg #[.int .i64 0, .int .i64 1, .int .i64 1, .int .i64 1, .int .i64 0])).run Try.prog w = .ok true w := by kernel_rfl
theorem eq5g (d : Nat) (n0 n1 n2 n3 n4 : Int) (w : World) : (Op.equalIn (d + 1 + 1) 63 (.agg #[.int .i64 n0, .int .i64 n1, .int .i64 n2, .int .i64 n3, .int .i64 n4]) (.agg #[.int .i64 n0, .int .i64 n1, .int .i64 n2, .int .i64 n3, .int .i64 n4])).run Try.prog w = .ok true w := by
  have hs : (sizeOf 3).run Try.prog w = .ok 1 w := by kernel_rfl
  have hi (n : Int) : (Op.equalIn (d + 1) 3 (.int .i64 n) (.int .i64 n)).run Try.prog w = .ok true w := by
    rw [run_equalIn_int _ _ _ _ _ _ _ Try.underlying3]
    simp
  have p0 : (part 3 #[.int .i64 n0, .int .i64 n1, .int .i64 n2, .int .i64 n3, .int .i64 n4] (0 * 1)).run Try.prog w = .ok (.int .i64 n0) w := by kernel_rfl
  have p1 : (part 3 #[.int .i64 n0, .int .i64 n1, .int .i64 n2, .int .i64 n3, .int .i64 n4] (1 * 1)).run Try.prog w = .ok (.int .i64 n1) w := by kernel_rfl
  have p2 : (part 3 #[.int .i64 n0, .int .i64 n1, .int .i64 n2, .int .i64 n3, .int .i64 n4] (2 * 1)).run Try.prog w = .ok (.int .i64 n2) w := by kernel_rfl
  have p3 : (part 3 #[.int .i64 n0, .int .i64 n1, .int .i64 n2, .int .i64 n3, .int .i64 n4] (3 * 1)).run Try.prog w = .ok (.int .i64 n3) w := by kernel_rfl
  have p4 : (part 3 #[.int .i64 n0, .int .i64 n1, .int .i64 n2, .int .i64 n3, .int .i64 n4] (4 * 1)).run Try.prog w = .ok (.int .i64 n4) w := by kernel_rfl
  rw [Op.equalIn]
  simp only [Sem.run_bind, run_underlying Try.underlying63, Result.andThen_ok, hs]
  simp only [Std.Legacy.Range.forIn_eq_forIn_range', Std.Legacy.Range.size, Nat.sub_zero, Nat.add_sub_cancel, Nat.div_one, List.range'_succ, List.range'_zero, List.forIn_cons, List.forIn_nil, Sem.run_bind, Result.andThen_ok, Sem.run_ite, Sem.run_pure, p0, p1, p2, p3, p4, hi, Bool.not_true, Bool.false_eq_true, if_false]
theorem eq5 (n0 n1 n2 n3 n4 : Int) (w : World) : (Op.equalIn 10000 63 (.agg #[.int .i64 n0, .int .i64 n1, .int .i64 n2, .int .i64 n3, .int .i64 n4]) (.agg #[.int .i64 n0, .int .i64 n1, .int .i64 n2, .int .i64 n3, .int .i64 n4])).run Try.prog w = .ok true w := eq5g 9998 n0 n1 n2 n3 n4 w
end Go.Proofs.Ytelakgbpfnlpiaa
