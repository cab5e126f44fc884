/- From when on something may be sent. -/
import Derived.Test.YtonfbkffngplcaaPolW
namespace Go.Proofs.Ytonfbkffngplcaa
open Go.RowKit


def eligP (c : Cfg) (p : Pol) (x : Int) : Int :=
  if c.cap ≤ p.flying ∨ (p.state ≠ 0 ∧ 0 < p.flying) then 4611686018427387903
  else if p.state = 1 then max (if 0 ≤ p.last then max (max (max 0 p.retry) p.reset) x else max (max 0 p.retry) p.reset) p.till
  else if 0 ≤ p.last then max (max (max 0 p.retry) p.reset) x else max (max 0 p.retry) p.reset
theorem ite_max (a b : Int) : (if a < b then b else a) = max a b := by
  by_cases h : a < b
  · rw [if_pos h]; omega
  · rw [if_neg h]; omega
theorem add_at (a b v : Int) (h : addI a b = v) (w : World) : Calls Try.prog 17 #[.int .i64 a, .int .i64 b] w fun e w' => e = .returned (.int .i64 v) ∧ w = w' := by
  subst h
  exact add_any a b w
set_option maxRecDepth 100000 in
set_option maxHeartbeats 2000000 in
theorem elig_any (c : Cfg) (p : Pol) (w : World) : Calls Try.prog 8 #[.agg #[.int .i64 c.hosts, .int .i64 c.perHost, .int .i64 c.memory, .int .i64 c.segs, .int .i64 c.floor, .int .i64 c.cap, .int .i64 c.base, .int .i64 c.most, .int .i64 c.brk, .int .i64 c.opn, .int .i64 c.rate, .int .i64 c.burst, .int .i64 c.keep, .string c.agent], .agg #[.int .i64 p.last, .int .i64 p.gap, .int .i64 p.exp, .int .i64 p.fails, .int .i64 p.state, .int .i64 p.till, .int .i64 p.retry, .int .i64 p.reset, .int .i64 p.flying, .int .i64 p.known, .bool p.all, .bool p.none, .slice p.ra p.rl p.rc, .int .i64 p.delay]] w fun e w' => e = .returned (.int .i64 (eligP c p (addI p.last p.gap))) ∧ Below w.heap.size w w' := by
  obtain ⟨x, hx⟩ : ∃ x, addI p.last p.gap = x := ⟨_, rfl⟩
  rw [hx]
  have HX := Lib.hid hx
  clear hx
  go_enter Try.func8, Try.ntmps8
  go_wp2_with (first
    | (go_at_call 17; refine (add_at _ _ x HX.out _).mono ?_; rintro e w1 ⟨rfl, rfl⟩)
    | go_in)
  all_goals go_ret
  all_goals (refine ⟨ret_int ?_, ((Below.refl _ _).alloc (Nat.le_refl _) _).alloc (by simp) _⟩; (try simp only [ite_max, beq_iff_eq, beq_eq_false_iff_ne, bne_iff_ne, bne_eq_false_iff_eq, ne_eq] at *); unfold eligP; first | omega | (split <;> first | omega | (split <;> first | omega | (split <;> omega))))

end Go.Proofs.Ytonfbkffngplcaa
