/- The policy with a breaker's state. -/
import Derived.Test.YtonfbkffngplcaaPol
namespace Go.Proofs.Ytonfbkffngplcaa
open Go.RowKit

set_option maxRecDepth 100000 in
set_option maxHeartbeats 2000000 in
theorem with_any (p : Pol) (s f t : Int) (w : World) : Calls Try.prog 13 #[.agg #[.int .i64 p.last, .int .i64 p.gap, .int .i64 p.exp, .int .i64 p.fails, .int .i64 p.state, .int .i64 p.till, .int .i64 p.retry, .int .i64 p.reset, .int .i64 p.flying, .int .i64 p.known, .bool p.all, .bool p.none, .slice p.ra p.rl p.rc, .int .i64 p.delay], .agg #[.int .i64 s, .int .i64 f, .int .i64 t]] w fun e w' => e = .returned (.agg #[.int .i64 p.last, .int .i64 p.gap, .int .i64 p.exp, .int .i64 f, .int .i64 s, .int .i64 t, .int .i64 p.retry, .int .i64 p.reset, .int .i64 p.flying, .int .i64 p.known, .bool p.all, .bool p.none, .slice p.ra p.rl p.rc, .int .i64 p.delay]) ∧ Below w.heap.size w w' := by
  go_enter Try.func13, Try.ntmps13
  go_wp2
  go_region
  all_goals go_wp2
  all_goals exact bodyPost_ret (v := .agg #[.int .i64 p.last, .int .i64 p.gap, .int .i64 p.exp, .int .i64 f, .int .i64 s, .int .i64 t, .int .i64 p.retry, .int .i64 p.reset, .int .i64 p.flying, .int .i64 p.known, .bool p.all, .bool p.none, .slice p.ra p.rl p.rc, .int .i64 p.delay]) (by simp [results, Try.results13, go_sem]) rfl ⟨rfl, (((((Below.refl _ _).alloc (Nat.le_refl _) _).alloc (by simp) _).alloc (by simp; omega) _).drew)⟩

end Go.Proofs.Ytonfbkffngplcaa
