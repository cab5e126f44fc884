/- The reference's failure: its helpers. -/
import Derived.Test.YtelakgbpfnlpiaaPolB
namespace Go.Proofs.Ytelakgbpfnlpiaa
open Go.RowKit

theorem rmost_as (b m e v : Int) (h : mostI b m e = v) (w : World) :
    Calls Try.prog 62 #[.int .i64 b, .int .i64 m, .int .i64 e] w fun x w' => x = .returned (.int .i64 v) ∧ w = w' := h ▸ rmost_any b m e w
theorem rjit_as (y z v : Int) (h : jitI y z = v) (w : World) :
    Calls Try.prog 61 #[.int .i64 y, .int .i64 z] w fun e w' => e = .returned (.int .i64 v) ∧ w = w' := h ▸ rjit_any y z w
theorem rleast_as (c : Cfg) (p : Pol) (L : Int) (h : least3 c.floor p.delay = L) (w : World) : Calls Try.prog 50 #[.agg #[.int .i64 c.hosts, .int .i64 c.perHost, .int .i64 c.memory, .int .i64 c.segs, .int .i64 c.floor, .int .i64 c.cap, .int .i64 c.base, .int .i64 c.most, .int .i64 c.brk, .int .i64 c.opn, .int .i64 c.rate, .int .i64 c.burst, .int .i64 c.keep, .string c.agent], .agg #[.int .i64 p.last, .int .i64 p.gap, .int .i64 p.exp, .int .i64 p.fails, .int .i64 p.state, .int .i64 p.till, .int .i64 p.retry, .int .i64 p.reset, .int .i64 p.flying, .int .i64 p.known, .bool p.all, .bool p.none, .slice p.ra p.rl p.rc, .int .i64 p.delay]] w fun e w' => e = .returned (.int .i64 L) ∧ Below w.heap.size w w' := h ▸ rleast_any c p w
end Go.Proofs.Ytelakgbpfnlpiaa
