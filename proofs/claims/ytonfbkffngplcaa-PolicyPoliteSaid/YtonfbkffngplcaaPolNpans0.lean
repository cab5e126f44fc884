/- An answer. -/
import Derived.Test.YtonfbkffngplcaaPolB
import Derived.Test.YtonfbkffngplcaaLast
namespace Go.Proofs.Ytonfbkffngplcaa
open Go.RowKit

set_option maxRecDepth 100000 in
set_option maxHeartbeats 40000000 in
theorem pans0 (c : Cfg) (p : Pol) (f : Fb) (now draw L N R Q : Int) (hf : p.flying ≤ 9223372036854775807) (hN : max p.flying 1 - 1 = N) (hR : max p.retry f.retry = R) (hQ : max p.reset f.reset = Q) (hc : f.cls ≠ 3 ∧ f.cls ≠ 4) (hL : least3 c.floor p.delay = L) (w : World) : Calls Try.prog 6 #[.agg #[.int .i64 c.hosts, .int .i64 c.perHost, .int .i64 c.memory, .int .i64 c.segs, .int .i64 c.floor, .int .i64 c.cap, .int .i64 c.base, .int .i64 c.most, .int .i64 c.brk, .int .i64 c.opn, .int .i64 c.rate, .int .i64 c.burst, .int .i64 c.keep, .string c.agent], .agg #[.int .i64 p.last, .int .i64 p.gap, .int .i64 p.exp, .int .i64 p.fails, .int .i64 p.state, .int .i64 p.till, .int .i64 p.retry, .int .i64 p.reset, .int .i64 p.flying, .int .i64 p.known, .bool p.all, .bool p.none, .slice p.ra p.rl p.rc, .int .i64 p.delay], .agg #[.int .i64 f.cls, .int .i64 f.retry, .int .i64 f.reset], .int .i64 now, .int .i64 draw] w fun e w' => e = .returned (.agg #[.int .i64 p.last, .int .i64 L, .int .i64 0, .int .i64 0, .int .i64 0, .int .i64 0, .int .i64 R, .int .i64 Q, .int .i64 N, .int .i64 p.known, .bool p.all, .bool p.none, .slice p.ra p.rl p.rc, .int .i64 p.delay]) ∧ Below w.heap.size w w' := by
  have HL := Lib.hid hL
  have HN := Lib.hid hN
  have HR := Lib.hid hR
  have HQ := Lib.hid hQ
  clear hL hN hR hQ
  have d1 : (f.cls == 3) = false := by simp [hc.1]
  have d2 : (f.cls == 4) = false := by simp [hc.2]
  clear hc
  have z0 := (((Box.new w #[.int .i64 c.hosts, .int .i64 c.perHost, .int .i64 c.memory, .int .i64 c.segs, .int .i64 c.floor, .int .i64 c.cap, .int .i64 c.base, .int .i64 c.most, .int .i64 c.brk, .int .i64 c.opn, .int .i64 c.rate, .int .i64 c.burst, .int .i64 c.keep, .string c.agent] 24).alloc (.cells #[.int .i64 p.last, .int .i64 p.gap, .int .i64 p.exp, .int .i64 p.fails, .int .i64 p.state, .int .i64 p.till, .int .i64 p.retry, .int .i64 p.reset, .int .i64 p.flying, .int .i64 p.known, .bool p.all, .bool p.none, .slice p.ra p.rl p.rc, .int .i64 p.delay] 29)).alloc (.cells #[.int .i64 f.cls, .int .i64 f.retry, .int .i64 f.reset] 35)).alloc (.cells #[.int .i64 0, .int .i64 0, .int .i64 0, .int .i64 0, .int .i64 0, .int .i64 0, .int .i64 0, .int .i64 0, .int .i64 0, .int .i64 0, .bool false, .bool false, .slice .none 0 0, .int .i64 0] 29)
  have x0 := ((Box.new (w.alloc (.cells #[.int .i64 c.hosts, .int .i64 c.perHost, .int .i64 c.memory, .int .i64 c.segs, .int .i64 c.floor, .int .i64 c.cap, .int .i64 c.base, .int .i64 c.most, .int .i64 c.brk, .int .i64 c.opn, .int .i64 c.rate, .int .i64 c.burst, .int .i64 c.keep, .string c.agent] 24)) #[.int .i64 p.last, .int .i64 p.gap, .int .i64 p.exp, .int .i64 p.fails, .int .i64 p.state, .int .i64 p.till, .int .i64 p.retry, .int .i64 p.reset, .int .i64 p.flying, .int .i64 p.known, .bool p.all, .bool p.none, .slice p.ra p.rl p.rc, .int .i64 p.delay] 29).alloc (.cells #[.int .i64 f.cls, .int .i64 f.retry, .int .i64 f.reset] 35)).alloc (.cells #[.int .i64 0, .int .i64 0, .int .i64 0, .int .i64 0, .int .i64 0, .int .i64 0, .int .i64 0, .int .i64 0, .int .i64 0, .int .i64 0, .bool false, .bool false, .slice .none 0 0, .int .i64 0] 29)
  have v0 := (Box.new ((w.alloc (.cells #[.int .i64 c.hosts, .int .i64 c.perHost, .int .i64 c.memory, .int .i64 c.segs, .int .i64 c.floor, .int .i64 c.cap, .int .i64 c.base, .int .i64 c.most, .int .i64 c.brk, .int .i64 c.opn, .int .i64 c.rate, .int .i64 c.burst, .int .i64 c.keep, .string c.agent] 24)).alloc (.cells #[.int .i64 p.last, .int .i64 p.gap, .int .i64 p.exp, .int .i64 p.fails, .int .i64 p.state, .int .i64 p.till, .int .i64 p.retry, .int .i64 p.reset, .int .i64 p.flying, .int .i64 p.known, .bool p.all, .bool p.none, .slice p.ra p.rl p.rc, .int .i64 p.delay] 29)) #[.int .i64 f.cls, .int .i64 f.retry, .int .i64 f.reset] 35).alloc (.cells #[.int .i64 0, .int .i64 0, .int .i64 0, .int .i64 0, .int .i64 0, .int .i64 0, .int .i64 0, .int .i64 0, .int .i64 0, .int .i64 0, .bool false, .bool false, .slice .none 0 0, .int .i64 0] 29)
  have y0 := Box.new (((w.alloc (.cells #[.int .i64 c.hosts, .int .i64 c.perHost, .int .i64 c.memory, .int .i64 c.segs, .int .i64 c.floor, .int .i64 c.cap, .int .i64 c.base, .int .i64 c.most, .int .i64 c.brk, .int .i64 c.opn, .int .i64 c.rate, .int .i64 c.burst, .int .i64 c.keep, .string c.agent] 24)).alloc (.cells #[.int .i64 p.last, .int .i64 p.gap, .int .i64 p.exp, .int .i64 p.fails, .int .i64 p.state, .int .i64 p.till, .int .i64 p.retry, .int .i64 p.reset, .int .i64 p.flying, .int .i64 p.known, .bool p.all, .bool p.none, .slice p.ra p.rl p.rc, .int .i64 p.delay] 29)).alloc (.cells #[.int .i64 f.cls, .int .i64 f.retry, .int .i64 f.reset] 35)) #[.int .i64 0, .int .i64 0, .int .i64 0, .int .i64 0, .int .i64 0, .int .i64 0, .int .i64 0, .int .i64 0, .int .i64 0, .int .i64 0, .bool false, .bool false, .slice .none 0 0, .int .i64 0] 29
  have B0 := ((((Below.refl w.heap.size w).alloc (Nat.le_refl _) (.cells #[.int .i64 c.hosts, .int .i64 c.perHost, .int .i64 c.memory, .int .i64 c.segs, .int .i64 c.floor, .int .i64 c.cap, .int .i64 c.base, .int .i64 c.most, .int .i64 c.brk, .int .i64 c.opn, .int .i64 c.rate, .int .i64 c.burst, .int .i64 c.keep, .string c.agent] 24)).alloc (by simp) (.cells #[.int .i64 p.last, .int .i64 p.gap, .int .i64 p.exp, .int .i64 p.fails, .int .i64 p.state, .int .i64 p.till, .int .i64 p.retry, .int .i64 p.reset, .int .i64 p.flying, .int .i64 p.known, .bool p.all, .bool p.none, .slice p.ra p.rl p.rc, .int .i64 p.delay] 29)).alloc (by simp; omega) (.cells #[.int .i64 f.cls, .int .i64 f.retry, .int .i64 f.reset] 35)).alloc (by simp; omega) (.cells #[.int .i64 0, .int .i64 0, .int .i64 0, .int .i64 0, .int .i64 0, .int .i64 0, .int .i64 0, .int .i64 0, .int .i64 0, .int .i64 0, .bool false, .bool false, .slice .none 0 0, .int .i64 0] 29)
  rw [World.size_alloc] at x0
  rw [World.size_alloc, World.size_alloc] at v0
  rw [World.size_alloc, World.size_alloc, World.size_alloc] at y0
  go_enter Try.func6, Try.ntmps6
  go_upto_region 1 with fail
  generalize (((w.alloc (.cells #[.int .i64 c.hosts, .int .i64 c.perHost, .int .i64 c.memory, .int .i64 c.segs, .int .i64 c.floor, .int .i64 c.cap, .int .i64 c.base, .int .i64 c.most, .int .i64 c.brk, .int .i64 c.opn, .int .i64 c.rate, .int .i64 c.burst, .int .i64 c.keep, .string c.agent] 24)).alloc (.cells #[.int .i64 p.last, .int .i64 p.gap, .int .i64 p.exp, .int .i64 p.fails, .int .i64 p.state, .int .i64 p.till, .int .i64 p.retry, .int .i64 p.reset, .int .i64 p.flying, .int .i64 p.known, .bool p.all, .bool p.none, .slice p.ra p.rl p.rc, .int .i64 p.delay] 29)).alloc (.cells #[.int .i64 f.cls, .int .i64 f.retry, .int .i64 f.reset] 35)).alloc (.cells #[.int .i64 0, .int .i64 0, .int .i64 0, .int .i64 0, .int .i64 0, .int .i64 0, .int .i64 0, .int .i64 0, .int .i64 0, .int .i64 0, .bool false, .bool false, .slice .none 0 0, .int .i64 0] 29) = wz at *
  obtain ⟨lx, cx, fx⟩ := x0.facts
  go_wp2_with fail
  refine (landed_as p N hf HN.out _).mono ?_
  rintro e w2 ⟨rfl, hb⟩
  clear lx cx fx
  have z1 := z0.later hb
  have x1 := x0.later hb
  have v1 := v0.later hb
  have y1 := y0.later hb
  have B1 := B0.trans (hb.mono B0.size)
  clear z0 x0 v0 y0 B0 hb
  obtain ⟨lx, cx, fx⟩ := x1.facts
  go_upto_region 2 with fail
  refine code_forget (fun wx => Below w.heap.size w wx ∧ Box wx (w.heap.size) #[.int .i64 c.hosts, .int .i64 c.perHost, .int .i64 c.memory, .int .i64 c.segs, .int .i64 c.floor, .int .i64 c.cap, .int .i64 c.base, .int .i64 c.most, .int .i64 c.brk, .int .i64 c.opn, .int .i64 c.rate, .int .i64 c.burst, .int .i64 c.keep, .string c.agent] 24 ∧ Box wx (w.heap.size + 1) #[.int .i64 p.last, .int .i64 p.gap, .int .i64 p.exp, .int .i64 p.fails, .int .i64 p.state, .int .i64 p.till, .int .i64 p.retry, .int .i64 p.reset, .int .i64 N, .int .i64 p.known, .bool p.all, .bool p.none, .slice p.ra p.rl p.rc, .int .i64 p.delay] 29 ∧ Box wx (w.heap.size + 1 + 1) #[.int .i64 f.cls, .int .i64 f.retry, .int .i64 f.reset] 35 ∧ Box wx (w.heap.size + 1 + 1 + 1) #[.int .i64 0, .int .i64 0, .int .i64 0, .int .i64 0, .int .i64 0, .int .i64 0, .int .i64 0, .int .i64 0, .int .i64 0, .int .i64 0, .bool false, .bool false, .slice .none 0 0, .int .i64 0] 29) ⟨below14 B1 (by omega) _ _ _ _ _ _ _ _ _ _ _ _ _ _, z1.other14 (by omega) _ _ _ _ _ _ _ _ _ _ _ _ _ _, x1.set14 _ _ _ _ _ _ _ _ _ _ _ _ _ _, v1.other14 (by omega) _ _ _ _ _ _ _ _ _ _ _ _ _ _, y1.other14 (by omega) _ _ _ _ _ _ _ _ _ _ _ _ _ _⟩ ?_
  rintro w3 ⟨B3, z3, x3, v3, y3⟩
  clear lx cx fx
  clear z1 x1 v1 y1 B1
  go_cut [] (fun wx => Below w.heap.size w wx ∧ Box wx (w.heap.size) #[.int .i64 c.hosts, .int .i64 c.perHost, .int .i64 c.memory, .int .i64 c.segs, .int .i64 c.floor, .int .i64 c.cap, .int .i64 c.base, .int .i64 c.most, .int .i64 c.brk, .int .i64 c.opn, .int .i64 c.rate, .int .i64 c.burst, .int .i64 c.keep, .string c.agent] 24 ∧ Box wx (w.heap.size + 1) #[.int .i64 p.last, .int .i64 p.gap, .int .i64 p.exp, .int .i64 p.fails, .int .i64 p.state, .int .i64 p.till, .int .i64 R, .int .i64 p.reset, .int .i64 N, .int .i64 p.known, .bool p.all, .bool p.none, .slice p.ra p.rl p.rc, .int .i64 p.delay] 29 ∧ Box wx (w.heap.size + 1 + 1) #[.int .i64 f.cls, .int .i64 f.retry, .int .i64 f.reset] 35 ∧ Box wx (w.heap.size + 1 + 1 + 1) #[.int .i64 0, .int .i64 0, .int .i64 0, .int .i64 0, .int .i64 0, .int .i64 0, .int .i64 0, .int .i64 0, .int .i64 0, .int .i64 0, .bool false, .bool false, .slice .none 0 0, .int .i64 0] 29)
  case first =>
    obtain ⟨lx, cx, fx⟩ := x3.facts
    obtain ⟨lv, cv, fv⟩ := v3.facts
    by_cases hr : p.retry < f.retry
    · have d9 : decide (p.retry < f.retry) = true := decide_eq_true hr
      have e9 : Hid (R = f.retry) := Lib.hid (by have := HR.out; omega)
      go_wp2_with fail
      go_meet
      rw [e9.out]
      exact ⟨B3.setCell (p := ⟨w.heap.size + 1, 6, none⟩) (by simp) _, z3.other (a := ⟨w.heap.size + 1, 6, none⟩) (by dsimp only; omega) _, (by have := x3.set 6 (.int .i64 f.retry); simp only [List.setIfInBounds_toArray, List.set_cons_succ, List.set_cons_zero] at this; exact this), v3.other (a := ⟨w.heap.size + 1, 6, none⟩) (by dsimp only; omega) _, y3.other (a := ⟨w.heap.size + 1, 6, none⟩) (by dsimp only; omega) _⟩
    · have d9 : decide (p.retry < f.retry) = false := decide_eq_false hr
      have e9 : Hid (R = p.retry) := Lib.hid (by have := HR.out; omega)
      go_wp2_with fail
      go_meet
      rw [e9.out]
      exact ⟨B3.setCell (p := ⟨w.heap.size + 1, 6, none⟩) (by simp) _, z3.other (a := ⟨w.heap.size + 1, 6, none⟩) (by dsimp only; omega) _, (by have := x3.set 6 (.int .i64 p.retry); simp only [List.setIfInBounds_toArray, List.set_cons_succ, List.set_cons_zero] at this; exact this), v3.other (a := ⟨w.heap.size + 1, 6, none⟩) (by dsimp only; omega) _, y3.other (a := ⟨w.heap.size + 1, 6, none⟩) (by dsimp only; omega) _⟩
  case rest =>
    obtain ⟨B4, z4, x4, v4, y4⟩ := hcut
    clear B3 z3 x3 v3 y3
    go_upto_region 3 with fail
    go_cut [] (fun wx => Below w.heap.size w wx ∧ Box wx (w.heap.size) #[.int .i64 c.hosts, .int .i64 c.perHost, .int .i64 c.memory, .int .i64 c.segs, .int .i64 c.floor, .int .i64 c.cap, .int .i64 c.base, .int .i64 c.most, .int .i64 c.brk, .int .i64 c.opn, .int .i64 c.rate, .int .i64 c.burst, .int .i64 c.keep, .string c.agent] 24 ∧ Box wx (w.heap.size + 1) #[.int .i64 p.last, .int .i64 p.gap, .int .i64 p.exp, .int .i64 p.fails, .int .i64 p.state, .int .i64 p.till, .int .i64 R, .int .i64 Q, .int .i64 N, .int .i64 p.known, .bool p.all, .bool p.none, .slice p.ra p.rl p.rc, .int .i64 p.delay] 29 ∧ Box wx (w.heap.size + 1 + 1) #[.int .i64 f.cls, .int .i64 f.retry, .int .i64 f.reset] 35 ∧ Box wx (w.heap.size + 1 + 1 + 1) #[.int .i64 0, .int .i64 0, .int .i64 0, .int .i64 0, .int .i64 0, .int .i64 0, .int .i64 0, .int .i64 0, .int .i64 0, .int .i64 0, .bool false, .bool false, .slice .none 0 0, .int .i64 0] 29)
    case first =>
      obtain ⟨lx, cx, fx⟩ := x4.facts
      obtain ⟨lv, cv, fv⟩ := v4.facts
      by_cases hr : p.reset < f.reset
      · have d9 : decide (p.reset < f.reset) = true := decide_eq_true hr
        have e9 : Hid (Q = f.reset) := Lib.hid (by have := HQ.out; omega)
        go_wp2_with fail
        go_meet
        rw [e9.out]
        exact ⟨B4.setCell (p := ⟨w.heap.size + 1, 7, none⟩) (by simp) _, z4.other (a := ⟨w.heap.size + 1, 7, none⟩) (by dsimp only; omega) _, (by have := x4.set 7 (.int .i64 f.reset); simp only [List.setIfInBounds_toArray, List.set_cons_succ, List.set_cons_zero] at this; exact this), v4.other (a := ⟨w.heap.size + 1, 7, none⟩) (by dsimp only; omega) _, y4.other (a := ⟨w.heap.size + 1, 7, none⟩) (by dsimp only; omega) _⟩
      · have d9 : decide (p.reset < f.reset) = false := decide_eq_false hr
        have e9 : Hid (Q = p.reset) := Lib.hid (by have := HQ.out; omega)
        go_wp2_with fail
        go_meet
        rw [e9.out]
        exact ⟨B4.setCell (p := ⟨w.heap.size + 1, 7, none⟩) (by simp) _, z4.other (a := ⟨w.heap.size + 1, 7, none⟩) (by dsimp only; omega) _, (by have := x4.set 7 (.int .i64 p.reset); simp only [List.setIfInBounds_toArray, List.set_cons_succ, List.set_cons_zero] at this; exact this), v4.other (a := ⟨w.heap.size + 1, 7, none⟩) (by dsimp only; omega) _, y4.other (a := ⟨w.heap.size + 1, 7, none⟩) (by dsimp only; omega) _⟩
    case rest =>
      obtain ⟨B5, z5, x5, v5, y5⟩ := hcut
      clear B4 z4 x4 v4 y4
      obtain ⟨lx, cx, fx⟩ := x5.facts
      obtain ⟨lv, cv, fv⟩ := v5.facts
      go_upto_region 6 with fail
      clear lx cx fx lv cv fv
      go_cut [] (fun wx => Below w.heap.size w wx ∧ Box wx (w.heap.size) #[.int .i64 c.hosts, .int .i64 c.perHost, .int .i64 c.memory, .int .i64 c.segs, .int .i64 c.floor, .int .i64 c.cap, .int .i64 c.base, .int .i64 c.most, .int .i64 c.brk, .int .i64 c.opn, .int .i64 c.rate, .int .i64 c.burst, .int .i64 c.keep, .string c.agent] 24 ∧ Box wx (w.heap.size + 1) #[.int .i64 p.last, .int .i64 p.gap, .int .i64 p.exp, .int .i64 0, .int .i64 0, .int .i64 0, .int .i64 R, .int .i64 Q, .int .i64 N, .int .i64 p.known, .bool p.all, .bool p.none, .slice p.ra p.rl p.rc, .int .i64 p.delay] 29 ∧ Box wx (w.heap.size + 1 + 1) #[.int .i64 f.cls, .int .i64 f.retry, .int .i64 f.reset] 35 ∧ Box wx (w.heap.size + 1 + 1 + 1) #[.int .i64 0, .int .i64 0, .int .i64 0, .int .i64 0, .int .i64 0, .int .i64 0, .int .i64 0, .int .i64 0, .int .i64 0, .int .i64 0, .bool false, .bool false, .slice .none 0 0, .int .i64 0] 29)
      case first =>
        refine wp_region_last 5 (fun w' => Below w.heap.size w w' ∧ Box w' (w.heap.size) #[.int .i64 c.hosts, .int .i64 c.perHost, .int .i64 c.memory, .int .i64 c.segs, .int .i64 c.floor, .int .i64 c.cap, .int .i64 c.base, .int .i64 c.most, .int .i64 c.brk, .int .i64 c.opn, .int .i64 c.rate, .int .i64 c.burst, .int .i64 c.keep, .string c.agent] 24 ∧ Box w' (w.heap.size + 1) #[.int .i64 p.last, .int .i64 p.gap, .int .i64 p.exp, .int .i64 p.fails, .int .i64 p.state, .int .i64 p.till, .int .i64 R, .int .i64 Q, .int .i64 N, .int .i64 p.known, .bool p.all, .bool p.none, .slice p.ra p.rl p.rc, .int .i64 p.delay] 29 ∧ Box w' (w.heap.size + 1 + 1) #[.int .i64 f.cls, .int .i64 f.retry, .int .i64 f.reset] 35 ∧ Box w' (w.heap.size + 1 + 1 + 1) #[.int .i64 0, .int .i64 0, .int .i64 0, .int .i64 0, .int .i64 0, .int .i64 0, .int .i64 0, .int .i64 0, .int .i64 0, .int .i64 0, .bool false, .bool false, .slice .none 0 0, .int .i64 0] 29) (by kernel_rfl) (⟨B5.drew, z5.drew, x5.drew, v5.drew, y5.drew⟩) (fun hHeld hClosed => ?_)
        refine wpAnyL_take (i := 0) (v := ?_) rfl (by kernel_rfl) (by kernel_rfl) (by kernel_rfl) (by kernel_rfl) (fun _ _ _ h => h) (by kernel_rfl) hClosed (Or.inl ⟨by rfl, ?_⟩) hHeld (fun hClosed => ?_)
        rotate_left
        · intro wv hSw; obtain ⟨_, _, hx, _⟩ := hSw; have cx := hx.cell; go_simp; all_goals (with_reducible rfl)
        (try simp only [put_at, List.set])
        refine wpAnyL_take (i := 1) (v := ?_) rfl (by kernel_rfl) (by kernel_rfl) (by kernel_rfl) (by kernel_rfl) (fun _ _ _ h => h) (by kernel_rfl) hClosed (Or.inl ⟨by rfl, ?_⟩) hHeld (fun hClosed => ?_)
        rotate_left
        · intro wv hSw; obtain ⟨_, _, hx, _⟩ := hSw; have cx := hx.cell; go_simp; all_goals (with_reducible rfl)
        (try simp only [put_at, List.set])
        refine wpAnyL_one (i := 2) rfl (by kernel_rfl) (by kernel_rfl) hClosed (fun KK hK => ?_)
        go_simp
        refine (of_any { p with flying := N, retry := R, reset := Q } _).mono ?_
        rintro e w' ⟨rfl, hb⟩
        go_wp2_with fail
        refine hK.out _ _ ?_ (fun hClosed hHeld => ?_)
        · exact ⟨hHeld.1.trans (hb.mono hHeld.1.size), hHeld.2.1.later hb, hHeld.2.2.1.later hb, hHeld.2.2.2.1.later hb, hHeld.2.2.2.2.later hb⟩
        clear hK KK
        (try simp only [put_at, List.set])
        refine wpAnyL_one (i := 3) rfl (by kernel_rfl) (by kernel_rfl) hClosed (fun KK hK => ?_)
        go_simp
        refine (bgood _ _ _ _).mono ?_
        rintro e w' ⟨rfl, hb⟩
        go_wp2_with fail
        refine hK.out _ _ ?_ (fun hClosed hHeld => ?_)
        · exact ⟨hHeld.1.trans (hb.mono hHeld.1.size), hHeld.2.1.later hb, hHeld.2.2.1.later hb, hHeld.2.2.2.1.later hb, hHeld.2.2.2.2.later hb⟩
        clear hK KK
        (try simp only [put_at, List.set])
        refine wpAnyL_one (i := 4) rfl (by kernel_rfl) (by kernel_rfl) hClosed (fun KK hK => ?_)
        go_simp
        refine (with_any { p with flying := N, retry := R, reset := Q } _ _ _ _).mono ?_
        rintro e w' ⟨rfl, hb⟩
        go_wp2_with fail
        refine hK.out _ _ ?_ (fun hClosed hHeld => ?_)
        · exact ⟨hHeld.1.trans (hb.mono hHeld.1.size), hHeld.2.1.later hb, hHeld.2.2.1.later hb, hHeld.2.2.2.1.later hb, hHeld.2.2.2.2.later hb⟩
        clear hK KK
        (try simp only [put_at, List.set])
        refine wpAnyL_last rfl (by kernel_rfl) (by kernel_rfl) (fun KK hK => ?_)
        obtain ⟨l1, c1, f1⟩ := hHeld.2.2.1.facts
        go_simp
        refine hK.out _ _ ?_
        (try simp only [put_at, List.set])
        go_wp2_with fail
        go_meet
        exact ⟨below14 hHeld.1 (by omega) _ _ _ _ _ _ _ _ _ _ _ _ _ _, hHeld.2.1.other14 (by omega) _ _ _ _ _ _ _ _ _ _ _ _ _ _, hHeld.2.2.1.set14 _ _ _ _ _ _ _ _ _ _ _ _ _ _, hHeld.2.2.2.1.other14 (by omega) _ _ _ _ _ _ _ _ _ _ _ _ _ _, hHeld.2.2.2.2.other14 (by omega) _ _ _ _ _ _ _ _ _ _ _ _ _ _⟩
      case rest =>
        obtain ⟨B6, z6, x6, v6, y6⟩ := hcut
        clear B5 z5 x5 v5 y5
        obtain ⟨lz, cz, fz⟩ := z6.facts
        obtain ⟨lx, cx, fx⟩ := x6.facts
        go_wp2_with fail
        refine (min_as c { p with flying := N, retry := R, reset := Q, state := 0, fails := 0, till := 0, exp := 0 } L HL.out _).mono ?_
        rintro e w8 ⟨rfl, hb⟩
        have x7 := x6.set 2 (.int .i64 0)
        have z7 := z6.other (a := ⟨w.heap.size + 1, 2, none⟩) (by dsimp only; omega) (.int .i64 0)
        have v7 := v6.other (a := ⟨w.heap.size + 1, 2, none⟩) (by dsimp only; omega) (.int .i64 0)
        have y7 := y6.other (a := ⟨w.heap.size + 1, 2, none⟩) (by dsimp only; omega) (.int .i64 0)
        have B7 := B6.setCell (p := ⟨w.heap.size + 1, 2, none⟩) (by simp) (.int .i64 0)
        simp only [List.setIfInBounds_toArray, List.set_cons_succ, List.set_cons_zero] at x7
        clear lz cz fz lx cx fx
        clear z6 x6 v6 y6 B6
        have z8 := z7.later hb
        have x8 := x7.later hb
        have v8 := v7.later hb
        have y8 := y7.later hb
        have B8 := B7.trans (hb.mono B7.size)
        clear z7 x7 v7 y7 B7 hb
        obtain ⟨lx, cx, fx⟩ := x8.facts
        obtain ⟨ly, cy, fy⟩ := y8.facts
        go_wp2_with fail
        exact bodyPost_ret (v := .agg #[.int .i64 p.last, .int .i64 L, .int .i64 0, .int .i64 0, .int .i64 0, .int .i64 0, .int .i64 R, .int .i64 Q, .int .i64 N, .int .i64 p.known, .bool p.all, .bool p.none, .slice p.ra p.rl p.rc, .int .i64 p.delay]) (by simp [results, Try.results6, go_sem, cy]) rfl ⟨rfl, below14 (B8.setCell (p := ⟨w.heap.size + 1, 1, none⟩) (by simp) (.int .i64 L)) (by omega) _ _ _ _ _ _ _ _ _ _ _ _ _ _⟩

end Go.Proofs.Ytonfbkffngplcaa
