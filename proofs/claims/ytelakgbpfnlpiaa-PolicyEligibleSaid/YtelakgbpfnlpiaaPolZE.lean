/- PolicyEligible, walked. -/
import Derived.Test.YtelakgbpfnlpiaaPolZ
namespace Go.Proofs.Ytelakgbpfnlpiaa
open Go.RowKit


set_option maxRecDepth 100000 in
set_option maxHeartbeats 40000000 in
theorem policyEligible_walk (c : Cfg) (p : Pol) (w : World) (_ : True) (_ : (-9223372036854775808 ≤ p.flying ∧ p.flying ≤ 9223372036854775807) ∧ (∃ L a', IsRules w a' p.rl p.rc L ∧ (a' = p.ra ∨ p.rc = 0))) : Calls Try.prog 3 #[.agg #[.int .i64 c.hosts, .int .i64 c.perHost, .int .i64 c.memory, .int .i64 c.segs, .int .i64 c.floor, .int .i64 c.cap, .int .i64 c.base, .int .i64 c.most, .int .i64 c.brk, .int .i64 c.opn, .int .i64 c.rate, .int .i64 c.burst, .int .i64 c.keep, .string c.agent], .agg #[.int .i64 p.last, .int .i64 p.gap, .int .i64 p.exp, .int .i64 p.fails, .int .i64 p.state, .int .i64 p.till, .int .i64 p.retry, .int .i64 p.reset, .int .i64 p.flying, .int .i64 p.known, .bool p.all, .bool p.none, .slice p.ra p.rl p.rc, .int .i64 p.delay]] w fun e w' => e = .returned (.bool true) ∧ Below w.heap.size w w' := by
  obtain ⟨V, hV⟩ : ∃ V, eligP c p (addI p.last p.gap) = V := ⟨_, rfl⟩
  have HV := Lib.hid hV
  clear hV
  have b0 := (Box.new (w) #[.int .i64 c.hosts, .int .i64 c.perHost, .int .i64 c.memory, .int .i64 c.segs, .int .i64 c.floor, .int .i64 c.cap, .int .i64 c.base, .int .i64 c.most, .int .i64 c.brk, .int .i64 c.opn, .int .i64 c.rate, .int .i64 c.burst, .int .i64 c.keep, .string c.agent] 23).alloc (.cells #[.int .i64 p.last, .int .i64 p.gap, .int .i64 p.exp, .int .i64 p.fails, .int .i64 p.state, .int .i64 p.till, .int .i64 p.retry, .int .i64 p.reset, .int .i64 p.flying, .int .i64 p.known, .bool p.all, .bool p.none, .slice p.ra p.rl p.rc, .int .i64 p.delay] 28)
  have b1 := Box.new ((w).alloc (.cells #[.int .i64 c.hosts, .int .i64 c.perHost, .int .i64 c.memory, .int .i64 c.segs, .int .i64 c.floor, .int .i64 c.cap, .int .i64 c.base, .int .i64 c.most, .int .i64 c.brk, .int .i64 c.opn, .int .i64 c.rate, .int .i64 c.burst, .int .i64 c.keep, .string c.agent] 23)) #[.int .i64 p.last, .int .i64 p.gap, .int .i64 p.exp, .int .i64 p.fails, .int .i64 p.state, .int .i64 p.till, .int .i64 p.retry, .int .i64 p.reset, .int .i64 p.flying, .int .i64 p.known, .bool p.all, .bool p.none, .slice p.ra p.rl p.rc, .int .i64 p.delay] 28
  have B := ((Below.refl w.heap.size w).alloc (Nat.le_refl _) (.cells #[.int .i64 c.hosts, .int .i64 c.perHost, .int .i64 c.memory, .int .i64 c.segs, .int .i64 c.floor, .int .i64 c.cap, .int .i64 c.base, .int .i64 c.most, .int .i64 c.brk, .int .i64 c.opn, .int .i64 c.rate, .int .i64 c.burst, .int .i64 c.keep, .string c.agent] 23)).alloc (by simp) (.cells #[.int .i64 p.last, .int .i64 p.gap, .int .i64 p.exp, .int .i64 p.fails, .int .i64 p.state, .int .i64 p.till, .int .i64 p.retry, .int .i64 p.reset, .int .i64 p.flying, .int .i64 p.known, .bool p.all, .bool p.none, .slice p.ra p.rl p.rc, .int .i64 p.delay] 28)
  rw [World.size_alloc] at b1
  go_enter Try.func3, Try.ntmps3
  go_upto_region 1 with fail
  generalize ((w).alloc (.cells #[.int .i64 c.hosts, .int .i64 c.perHost, .int .i64 c.memory, .int .i64 c.segs, .int .i64 c.floor, .int .i64 c.cap, .int .i64 c.base, .int .i64 c.most, .int .i64 c.brk, .int .i64 c.opn, .int .i64 c.rate, .int .i64 c.burst, .int .i64 c.keep, .string c.agent] 23)).alloc (.cells #[.int .i64 p.last, .int .i64 p.gap, .int .i64 p.exp, .int .i64 p.fails, .int .i64 p.state, .int .i64 p.till, .int .i64 p.retry, .int .i64 p.reset, .int .i64 p.flying, .int .i64 p.known, .bool p.all, .bool p.none, .slice p.ra p.rl p.rc, .int .i64 p.delay] 28) = wz at *
  refine wp_region_last 10 (fun w' => Below w.heap.size w w' ∧ Box w' (w.heap.size) #[.int .i64 c.hosts, .int .i64 c.perHost, .int .i64 c.memory, .int .i64 c.segs, .int .i64 c.floor, .int .i64 c.cap, .int .i64 c.base, .int .i64 c.most, .int .i64 c.brk, .int .i64 c.opn, .int .i64 c.rate, .int .i64 c.burst, .int .i64 c.keep, .string c.agent] 23 ∧ Box w' (w.heap.size + 1) #[.int .i64 p.last, .int .i64 p.gap, .int .i64 p.exp, .int .i64 p.fails, .int .i64 p.state, .int .i64 p.till, .int .i64 p.retry, .int .i64 p.reset, .int .i64 p.flying, .int .i64 p.known, .bool p.all, .bool p.none, .slice p.ra p.rl p.rc, .int .i64 p.delay] 28) (by kernel_rfl) (⟨B.drew, b0.drew, b1.drew⟩) (fun hHeld hClosed => ?_)
  refine wpAnyL_one (i := 0) rfl (by kernel_rfl) (by kernel_rfl) (by assumption) (fun KK hK => ?_)
  go_simp
  refine (awake20 _).mono ?_
  rintro e w' ⟨rfl, hb⟩
  go_wp2_with fail
  refine hK.out _ _ ?_ (fun hClosed hHeld => ?_)
  · exact ⟨hHeld.1.trans (hb.mono hHeld.1.size), hHeld.2.1.later hb, hHeld.2.2.later hb⟩
  clear hK KK
  (try simp only [put_at, List.set])
  refine wpAnyL_take (i := 1) (v := ?_) rfl (by kernel_rfl) (by kernel_rfl) (by kernel_rfl) (by kernel_rfl) (fun _ _ _ h => h) (by kernel_rfl) (by assumption) (Or.inl ⟨by rfl, ?_⟩) (by assumption) (fun hClosed => ?_)
  rotate_left
  · intro wv hSw; go_simp; all_goals (with_reducible rfl)
  (try simp only [put_at, List.set])
  refine wpAnyL_take (i := 2) (v := ?_) rfl (by kernel_rfl) (by kernel_rfl) (by kernel_rfl) (by kernel_rfl) (fun _ _ _ h => h) (by kernel_rfl) (by assumption) (Or.inl ⟨by rfl, ?_⟩) (by assumption) (fun hClosed => ?_)
  rotate_left
  · intro wv hSw; obtain ⟨_, q0, q1⟩ := hSw; have c0 := q0.cell; have c1 := q1.cell; go_simp; all_goals (with_reducible rfl)
  (try simp only [put_at, List.set])
  refine wpAnyL_take (i := 3) (v := ?_) rfl (by kernel_rfl) (by kernel_rfl) (by kernel_rfl) (by kernel_rfl) (fun _ _ _ h => h) (by kernel_rfl) (by assumption) (Or.inl ⟨by rfl, ?_⟩) (by assumption) (fun hClosed => ?_)
  rotate_left
  · intro wv hSw; obtain ⟨_, q0, q1⟩ := hSw; have c0 := q0.cell; have c1 := q1.cell; go_simp; all_goals (with_reducible rfl)
  (try simp only [put_at, List.set])
  refine wpAnyL_take (i := 5) (v := ?_) rfl (by kernel_rfl) (by kernel_rfl) (by kernel_rfl) (by kernel_rfl) (fun _ _ _ h => h) (by kernel_rfl) (by assumption) (Or.inl ⟨by rfl, ?_⟩) (by assumption) (fun hClosed => ?_)
  rotate_left
  · intro wv hSw; obtain ⟨_, q0, q1⟩ := hSw; have c0 := q0.cell; have c1 := q1.cell; go_simp; all_goals (with_reducible rfl)
  (try simp only [put_at, List.set])
  refine wpAnyL_take (i := 6) (v := ?_) rfl (by kernel_rfl) (by kernel_rfl) (by kernel_rfl) (by kernel_rfl) (fun _ _ _ h => h) (by kernel_rfl) (by assumption) (Or.inl ⟨by rfl, ?_⟩) (by assumption) (fun hClosed => ?_)
  rotate_left
  · intro wv hSw; obtain ⟨_, q0, q1⟩ := hSw; have c0 := q0.cell; have c1 := q1.cell; go_simp; all_goals (with_reducible rfl)
  (try simp only [put_at, List.set])
  refine wpAnyL_one (i := 4) rfl (by kernel_rfl) (by kernel_rfl) (by assumption) (fun KK hK => ?_)
  go_simp
  refine (elig_as c p V HV.out _).mono ?_
  rintro e w' ⟨rfl, hb⟩
  go_wp2_with fail
  refine hK.out _ _ ?_ (fun hClosed hHeld => ?_)
  · exact ⟨hHeld.1.trans (hb.mono hHeld.1.size), hHeld.2.1.later hb, hHeld.2.2.later hb⟩
  clear hK KK
  (try simp only [put_at, List.set])
  refine wpAnyL_one (i := 7) rfl (by kernel_rfl) (by kernel_rfl) (by assumption) (fun KK hK => ?_)
  go_simp
  refine (relig_as c p V HV.out _).mono ?_
  rintro e w' ⟨rfl, hb⟩
  go_wp2_with fail
  refine hK.out _ _ ?_ (fun hClosed hHeld => ?_)
  · exact ⟨hHeld.1.trans (hb.mono hHeld.1.size), hHeld.2.1.later hb, hHeld.2.2.later hb⟩
  clear hK KK
  (try simp only [put_at, List.set])
  refine wpAnyL_take (i := 8) (v := ?_) rfl (by kernel_rfl) (by kernel_rfl) (by kernel_rfl) (by kernel_rfl) (fun _ _ _ h => h) (by kernel_rfl) (by assumption) (Or.inl ⟨by rfl, ?_⟩) (by assumption) (fun hClosed => ?_)
  rotate_left
  · intro wv hSw; go_simp; all_goals (with_reducible rfl)
  (try simp only [put_at, List.set])
  refine wpAnyL_take (i := 9) (v := ?_) rfl (by kernel_rfl) (by kernel_rfl) (by kernel_rfl) (by kernel_rfl) (fun _ _ _ h => h) (by kernel_rfl) (by assumption) (Or.inl ⟨by rfl, ?_⟩) (by assumption) (fun hClosed => ?_)
  rotate_left
  · intro wv hSw; go_simp; all_goals (with_reducible rfl)
  (try simp only [put_at, List.set])
  refine wpAnyL_last rfl (by kernel_rfl) (by kernel_rfl) (fun KK hK => ?_)
  go_simp
  refine hK.out _ _ ?_
  (try simp only [put_at, List.set])
  go_wp2_with fail
  go_ret
  exact ⟨rfl, hHeld.1⟩
end Go.Proofs.Ytelakgbpfnlpiaa
