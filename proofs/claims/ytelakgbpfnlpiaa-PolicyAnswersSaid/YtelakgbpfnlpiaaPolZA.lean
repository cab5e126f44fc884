/- PolicyAnswers, walked. -/
import Derived.Test.YtelakgbpfnlpiaaPolZA0
import Derived.Test.YtelakgbpfnlpiaaPolZA1
namespace Go.Proofs.Ytelakgbpfnlpiaa
open Go.RowKit

theorem policyAnswers_walk (c : Cfg) (p : Pol) (f : Fb) (now draw : Int) (w : World) (_ : True) (hp : (-9223372036854775808 ≤ p.flying ∧ p.flying ≤ 9223372036854775807) ∧ (∃ L a', IsRules w a' p.rl p.rc L ∧ (a' = p.ra ∨ p.rc = 0))) (_ : True) (_ : (Lit.int .i64 now).wf = true) (_ : (Lit.int .i64 draw).wf = true) : Calls Try.prog 5 #[.agg #[.int .i64 c.hosts, .int .i64 c.perHost, .int .i64 c.memory, .int .i64 c.segs, .int .i64 c.floor, .int .i64 c.cap, .int .i64 c.base, .int .i64 c.most, .int .i64 c.brk, .int .i64 c.opn, .int .i64 c.rate, .int .i64 c.burst, .int .i64 c.keep, .string c.agent], .agg #[.int .i64 p.last, .int .i64 p.gap, .int .i64 p.exp, .int .i64 p.fails, .int .i64 p.state, .int .i64 p.till, .int .i64 p.retry, .int .i64 p.reset, .int .i64 p.flying, .int .i64 p.known, .bool p.all, .bool p.none, .slice p.ra p.rl p.rc, .int .i64 p.delay], .agg #[.int .i64 f.cls, .int .i64 f.retry, .int .i64 f.reset], .int .i64 now, .int .i64 draw] w fun e w' => e = .returned (.bool true) ∧ Below w.heap.size w w' := by
  by_cases h : f.cls = 3 ∨ f.cls = 4
  · exact policyAnswers_bad c p f now draw w hp h
  · exact policyAnswers_good c p f now draw w hp ⟨fun e => h (Or.inl e), fun e => h (Or.inr e)⟩
end Go.Proofs.Ytelakgbpfnlpiaa
