/- The reference's Send. -/
import Derived.Test.YtelakgbpfnlpiaaPolQ
namespace Go.Proofs.Ytelakgbpfnlpiaa
open Go.RowKit


set_option maxRecDepth 100000 in
set_option maxHeartbeats 2000000 in
theorem rsend_any (p : Pol) (now : Int) (h1 : p.flying ≤ 9223372036854775806) (h0 : -9223372036854775808 ≤ p.flying) (w : World) : Calls Try.prog 21 #[.agg #[.int .i64 p.last, .int .i64 p.gap, .int .i64 p.exp, .int .i64 p.fails, .int .i64 p.state, .int .i64 p.till, .int .i64 p.retry, .int .i64 p.reset, .int .i64 p.flying, .int .i64 p.known, .bool p.all, .bool p.none, .slice p.ra p.rl p.rc, .int .i64 p.delay], .int .i64 now] w fun e w' => e = .returned (.agg #[.int .i64 now, .int .i64 p.gap, .int .i64 p.exp, .int .i64 p.fails, .int .i64 (sendS p.state p.till now), .int .i64 p.till, .int .i64 p.retry, .int .i64 p.reset, .int .i64 (p.flying + 1), .int .i64 p.known, .bool p.all, .bool p.none, .slice p.ra p.rl p.rc, .int .i64 p.delay]) ∧ Below w.heap.size w w' := by
  by_cases h : p.state = 1
  · by_cases h2 : p.till ≤ now
    · rw [show sendS p.state p.till now = 2 by unfold sendS; rw [if_pos ⟨h, h2⟩]]
      have d : (p.state == 1) = true := by simp [h]
      have d2 : decide (p.till ≤ now) = true := decide_eq_true h2
      go_enter Try.func21, Try.ntmps21
      go_wp2
      exact bodyPost_ret (v := .agg #[.int .i64 now, .int .i64 p.gap, .int .i64 p.exp, .int .i64 p.fails, .int .i64 2, .int .i64 p.till, .int .i64 p.retry, .int .i64 p.reset, .int .i64 (p.flying + 1), .int .i64 p.known, .bool p.all, .bool p.none, .slice p.ra p.rl p.rc, .int .i64 p.delay]) (by simp [results, Try.results21, go_sem]) rfl ⟨rfl, ((Below.refl _ _).alloc (Nat.le_refl _) _).alloc (by simp) _⟩
    · rw [show sendS p.state p.till now = 1 by unfold sendS; rw [if_neg (fun e => h2 e.2)]; exact h]
      have d : (p.state == 1) = true := by simp [h]
      have d2 : decide (p.till ≤ now) = false := decide_eq_false h2
      go_enter Try.func21, Try.ntmps21
      go_wp2
      exact bodyPost_ret (v := .agg #[.int .i64 now, .int .i64 p.gap, .int .i64 p.exp, .int .i64 p.fails, .int .i64 1, .int .i64 p.till, .int .i64 p.retry, .int .i64 p.reset, .int .i64 (p.flying + 1), .int .i64 p.known, .bool p.all, .bool p.none, .slice p.ra p.rl p.rc, .int .i64 p.delay]) (by simp [results, Try.results21, go_sem]) rfl ⟨rfl, ((Below.refl _ _).alloc (Nat.le_refl _) _).alloc (by simp) _⟩
  · rw [show sendS p.state p.till now = p.state by unfold sendS; rw [if_neg (fun e => h e.1)]]
    have d : (p.state == 1) = false := by simp [h]
    go_enter Try.func21, Try.ntmps21
    go_wp2
    exact bodyPost_ret (v := .agg #[.int .i64 now, .int .i64 p.gap, .int .i64 p.exp, .int .i64 p.fails, .int .i64 p.state, .int .i64 p.till, .int .i64 p.retry, .int .i64 p.reset, .int .i64 (p.flying + 1), .int .i64 p.known, .bool p.all, .bool p.none, .slice p.ra p.rl p.rc, .int .i64 p.delay]) (by simp [results, Try.results21, go_sem]) rfl ⟨rfl, ((Below.refl _ _).alloc (Nat.le_refl _) _).alloc (by simp) _⟩

end Go.Proofs.Ytelakgbpfnlpiaa
