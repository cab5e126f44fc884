/- The laws' small functions. -/
import Derived.Test.YtelakgbpfnlpiaaPolA
import Derived.Test.YtelakgbpfnlpiaaPolY
namespace Go.Proofs.Ytelakgbpfnlpiaa
open Go.RowKit


set_option maxRecDepth 100000 in
set_option maxHeartbeats 40000000 in
theorem light_as (p : Pol) (v : Bool) (h : decide ((p.rl : Int) ≤ 100) = v) (w : World) : Calls Try.prog 17 #[.agg #[.int .i64 p.last, .int .i64 p.gap, .int .i64 p.exp, .int .i64 p.fails, .int .i64 p.state, .int .i64 p.till, .int .i64 p.retry, .int .i64 p.reset, .int .i64 p.flying, .int .i64 p.known, .bool p.all, .bool p.none, .slice p.ra p.rl p.rc, .int .i64 p.delay]] w fun e w' => e = .returned (.bool v) ∧ Below w.heap.size w w' := by
  subst h
  go_enter Try.func17, Try.ntmps17
  go_wp2
  go_ret
  exact ⟨rfl, (Below.refl _ _).alloc (Nat.le_refl _) _⟩
set_option maxRecDepth 100000 in
set_option maxHeartbeats 40000000 in
theorem tame_yes (p : Pol) (h1 : p.flying < 4611686018427387904) (h2 : -4611686018427387904 < p.flying) (w : World) : Calls Try.prog 18 #[.agg #[.int .i64 p.last, .int .i64 p.gap, .int .i64 p.exp, .int .i64 p.fails, .int .i64 p.state, .int .i64 p.till, .int .i64 p.retry, .int .i64 p.reset, .int .i64 p.flying, .int .i64 p.known, .bool p.all, .bool p.none, .slice p.ra p.rl p.rc, .int .i64 p.delay]] w fun e w' => e = .returned (.bool true) ∧ Below w.heap.size w w' := by
  have d1 : decide (p.flying < 4611686018427387904) = true := decide_eq_true h1
  have d2 : decide (-4611686018427387904 < p.flying) = true := decide_eq_true h2
  go_enter Try.func18, Try.ntmps18
  go_wp2
  go_ret
  exact ⟨rfl, (Below.refl _ _).alloc (Nat.le_refl _) _⟩
set_option maxRecDepth 100000 in
set_option maxHeartbeats 40000000 in
theorem tame_no (p : Pol) (h : ¬ (p.flying < 4611686018427387904 ∧ -4611686018427387904 < p.flying)) (w : World) : Calls Try.prog 18 #[.agg #[.int .i64 p.last, .int .i64 p.gap, .int .i64 p.exp, .int .i64 p.fails, .int .i64 p.state, .int .i64 p.till, .int .i64 p.retry, .int .i64 p.reset, .int .i64 p.flying, .int .i64 p.known, .bool p.all, .bool p.none, .slice p.ra p.rl p.rc, .int .i64 p.delay]] w fun e w' => e = .returned (.bool false) ∧ Below w.heap.size w w' := by
  by_cases h1 : p.flying < 4611686018427387904
  · have d1 : decide (p.flying < 4611686018427387904) = true := decide_eq_true h1
    have h2 : ¬ -4611686018427387904 < p.flying := fun e => h ⟨h1, e⟩
    have d2 : decide (-4611686018427387904 < p.flying) = false := decide_eq_false h2
    clear h
    go_enter Try.func18, Try.ntmps18
    go_wp2
    go_ret
    exact ⟨rfl, (Below.refl _ _).alloc (Nat.le_refl _) _⟩
  · have d1 : decide (p.flying < 4611686018427387904) = false := decide_eq_false h1
    clear h
    go_enter Try.func18, Try.ntmps18
    go_wp2
    go_ret
    exact ⟨rfl, (Below.refl _ _).alloc (Nat.le_refl _) _⟩
theorem rsend_as (p : Pol) (now S N : Int) (h1 : p.flying ≤ 9223372036854775806) (h0 : -9223372036854775808 ≤ p.flying) (hS : sendS p.state p.till now = S) (hN : p.flying + 1 = N) (w : World) : Calls Try.prog 21 #[.agg #[.int .i64 p.last, .int .i64 p.gap, .int .i64 p.exp, .int .i64 p.fails, .int .i64 p.state, .int .i64 p.till, .int .i64 p.retry, .int .i64 p.reset, .int .i64 p.flying, .int .i64 p.known, .bool p.all, .bool p.none, .slice p.ra p.rl p.rc, .int .i64 p.delay], .int .i64 now] w fun e w' => e = .returned (.agg #[.int .i64 now, .int .i64 p.gap, .int .i64 p.exp, .int .i64 p.fails, .int .i64 S, .int .i64 p.till, .int .i64 p.retry, .int .i64 p.reset, .int .i64 N, .int .i64 p.known, .bool p.all, .bool p.none, .slice p.ra p.rl p.rc, .int .i64 p.delay]) ∧ Below w.heap.size w w' := by subst hS; subst hN; exact rsend_any p now h1 h0 w
theorem relig_as (c : Cfg) (p : Pol) (v : Int) (h : eligP c p (addI p.last p.gap) = v) (w : World) : Calls Try.prog 16 #[.agg #[.int .i64 c.hosts, .int .i64 c.perHost, .int .i64 c.memory, .int .i64 c.segs, .int .i64 c.floor, .int .i64 c.cap, .int .i64 c.base, .int .i64 c.most, .int .i64 c.brk, .int .i64 c.opn, .int .i64 c.rate, .int .i64 c.burst, .int .i64 c.keep, .string c.agent], .agg #[.int .i64 p.last, .int .i64 p.gap, .int .i64 p.exp, .int .i64 p.fails, .int .i64 p.state, .int .i64 p.till, .int .i64 p.retry, .int .i64 p.reset, .int .i64 p.flying, .int .i64 p.known, .bool p.all, .bool p.none, .slice p.ra p.rl p.rc, .int .i64 p.delay]] w fun e w' => e = .returned (.int .i64 v) ∧ Below w.heap.size w w' := h ▸ relig_any c p w
end Go.Proofs.Ytelakgbpfnlpiaa
