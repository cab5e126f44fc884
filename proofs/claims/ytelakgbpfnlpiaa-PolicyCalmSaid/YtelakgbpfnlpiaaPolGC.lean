/- The reference's failure, case by case. -/
import Derived.Test.YtelakgbpfnlpiaaPolG
namespace Go.Proofs.Ytelakgbpfnlpiaa
open Go.RowKit

set_option maxRecDepth 100000 in
set_option maxHeartbeats 4000000 in
theorem rfail_m_fu (c : Cfg) (p : Pol) (now draw F0 A E M J L : Int) (hC : cutI p.fails 0 1099511627776 = F0) (hA : addI now c.opn = A) (hE : upI p.exp = E) (hM : mostI c.base c.most E = M) (hJ : jitI M draw = J) (hL : least3 c.floor p.delay = L) (h0 : 0 ≤ F0) (h1 : F0 ≤ 1099511627776) (dm : ¬ c.brk < 1) (hs : ¬ p.state = 2) (hm : c.brk ≤ F0 + 1) (ht : p.till < A) (w : World) : Calls Try.prog 49 #[.agg #[.int .i64 c.hosts, .int .i64 c.perHost, .int .i64 c.memory, .int .i64 c.segs, .int .i64 c.floor, .int .i64 c.cap, .int .i64 c.base, .int .i64 c.most, .int .i64 c.brk, .int .i64 c.opn, .int .i64 c.rate, .int .i64 c.burst, .int .i64 c.keep, .string c.agent], .agg #[.int .i64 p.last, .int .i64 p.gap, .int .i64 p.exp, .int .i64 p.fails, .int .i64 p.state, .int .i64 p.till, .int .i64 p.retry, .int .i64 p.reset, .int .i64 p.flying, .int .i64 p.known, .bool p.all, .bool p.none, .slice p.ra p.rl p.rc, .int .i64 p.delay], .int .i64 now, .int .i64 draw] w fun e w' => e = .returned (.agg #[.int .i64 p.last, .int .i64 (max L J), .int .i64 E, .int .i64 (F0 + 1), .int .i64 1, .int .i64 A, .int .i64 p.retry, .int .i64 p.reset, .int .i64 p.flying, .int .i64 p.known, .bool p.all, .bool p.none, .slice p.ra p.rl p.rc, .int .i64 p.delay]) ∧ Below w.heap.size w w' := by
  have HC := Lib.hid hC
  have HA := Lib.hid hA
  have HE := Lib.hid hE
  have HM := Lib.hid hM
  have HJ := Lib.hid hJ
  have HL := Lib.hid hL
  clear hC hA hE hM hJ hL
  have dm' : decide (c.brk < 1) = false := decide_eq_false dm
  have d1 : (p.state == 2) = false := by simp [hs]
  clear hs
  have d2 : decide (c.brk ≤ F0 + 1) = true := decide_eq_true hm
  have z0 := ((Box.new w #[.int .i64 c.hosts, .int .i64 c.perHost, .int .i64 c.memory, .int .i64 c.segs, .int .i64 c.floor, .int .i64 c.cap, .int .i64 c.base, .int .i64 c.most, .int .i64 c.brk, .int .i64 c.opn, .int .i64 c.rate, .int .i64 c.burst, .int .i64 c.keep, .string c.agent] 23).alloc (.cells #[.int .i64 p.last, .int .i64 p.gap, .int .i64 p.exp, .int .i64 p.fails, .int .i64 p.state, .int .i64 p.till, .int .i64 p.retry, .int .i64 p.reset, .int .i64 p.flying, .int .i64 p.known, .bool p.all, .bool p.none, .slice p.ra p.rl p.rc, .int .i64 p.delay] 28)).alloc (.cells #[.int .i64 0, .int .i64 0, .int .i64 0, .int .i64 0, .int .i64 0, .int .i64 0, .int .i64 0, .int .i64 0, .int .i64 0, .int .i64 0, .bool false, .bool false, .slice .none 0 0, .int .i64 0] 28)
  have x0 := (Box.new (w.alloc (.cells #[.int .i64 c.hosts, .int .i64 c.perHost, .int .i64 c.memory, .int .i64 c.segs, .int .i64 c.floor, .int .i64 c.cap, .int .i64 c.base, .int .i64 c.most, .int .i64 c.brk, .int .i64 c.opn, .int .i64 c.rate, .int .i64 c.burst, .int .i64 c.keep, .string c.agent] 23)) #[.int .i64 p.last, .int .i64 p.gap, .int .i64 p.exp, .int .i64 p.fails, .int .i64 p.state, .int .i64 p.till, .int .i64 p.retry, .int .i64 p.reset, .int .i64 p.flying, .int .i64 p.known, .bool p.all, .bool p.none, .slice p.ra p.rl p.rc, .int .i64 p.delay] 28).alloc (.cells #[.int .i64 0, .int .i64 0, .int .i64 0, .int .i64 0, .int .i64 0, .int .i64 0, .int .i64 0, .int .i64 0, .int .i64 0, .int .i64 0, .bool false, .bool false, .slice .none 0 0, .int .i64 0] 28)
  have y0 := Box.new ((w.alloc (.cells #[.int .i64 c.hosts, .int .i64 c.perHost, .int .i64 c.memory, .int .i64 c.segs, .int .i64 c.floor, .int .i64 c.cap, .int .i64 c.base, .int .i64 c.most, .int .i64 c.brk, .int .i64 c.opn, .int .i64 c.rate, .int .i64 c.burst, .int .i64 c.keep, .string c.agent] 23)).alloc (.cells #[.int .i64 p.last, .int .i64 p.gap, .int .i64 p.exp, .int .i64 p.fails, .int .i64 p.state, .int .i64 p.till, .int .i64 p.retry, .int .i64 p.reset, .int .i64 p.flying, .int .i64 p.known, .bool p.all, .bool p.none, .slice p.ra p.rl p.rc, .int .i64 p.delay] 28)) #[.int .i64 0, .int .i64 0, .int .i64 0, .int .i64 0, .int .i64 0, .int .i64 0, .int .i64 0, .int .i64 0, .int .i64 0, .int .i64 0, .bool false, .bool false, .slice .none 0 0, .int .i64 0] 28
  have hB := (((Below.refl w.heap.size w).alloc (Nat.le_refl _) (.cells #[.int .i64 c.hosts, .int .i64 c.perHost, .int .i64 c.memory, .int .i64 c.segs, .int .i64 c.floor, .int .i64 c.cap, .int .i64 c.base, .int .i64 c.most, .int .i64 c.brk, .int .i64 c.opn, .int .i64 c.rate, .int .i64 c.burst, .int .i64 c.keep, .string c.agent] 23)).alloc (by simp) (.cells #[.int .i64 p.last, .int .i64 p.gap, .int .i64 p.exp, .int .i64 p.fails, .int .i64 p.state, .int .i64 p.till, .int .i64 p.retry, .int .i64 p.reset, .int .i64 p.flying, .int .i64 p.known, .bool p.all, .bool p.none, .slice p.ra p.rl p.rc, .int .i64 p.delay] 28)).alloc (by simp; omega) (.cells #[.int .i64 0, .int .i64 0, .int .i64 0, .int .i64 0, .int .i64 0, .int .i64 0, .int .i64 0, .int .i64 0, .int .i64 0, .int .i64 0, .bool false, .bool false, .slice .none 0 0, .int .i64 0] 28)
  rw [World.size_alloc] at x0
  rw [World.size_alloc, World.size_alloc] at y0
  go_enter Try.func49, Try.ntmps49
  go_upto_region 1 with fail
  generalize ((w.alloc (.cells #[.int .i64 c.hosts, .int .i64 c.perHost, .int .i64 c.memory, .int .i64 c.segs, .int .i64 c.floor, .int .i64 c.cap, .int .i64 c.base, .int .i64 c.most, .int .i64 c.brk, .int .i64 c.opn, .int .i64 c.rate, .int .i64 c.burst, .int .i64 c.keep, .string c.agent] 23)).alloc (.cells #[.int .i64 p.last, .int .i64 p.gap, .int .i64 p.exp, .int .i64 p.fails, .int .i64 p.state, .int .i64 p.till, .int .i64 p.retry, .int .i64 p.reset, .int .i64 p.flying, .int .i64 p.known, .bool p.all, .bool p.none, .slice p.ra p.rl p.rc, .int .i64 p.delay] 28)).alloc (.cells #[.int .i64 0, .int .i64 0, .int .i64 0, .int .i64 0, .int .i64 0, .int .i64 0, .int .i64 0, .int .i64 0, .int .i64 0, .int .i64 0, .bool false, .bool false, .slice .none 0 0, .int .i64 0] 28) = wz at *
  obtain ⟨l0, c0, f0⟩ := x0.facts
  obtain ⟨l9, c9, f9⟩ := z0.facts
  go_wp2_with fail
  refine (cut_as _ _ _ F0 HC.out _).mono ?_
  rintro e w1 ⟨rfl, rfl⟩
  go_wp2_with fail
  refine (radd_as _ _ A HA.out _).mono ?_
  rintro e w1 ⟨rfl, rfl⟩
  go_wp2_with fail
  refine (rup_as _ E HE.out _).mono ?_
  rintro e w1 ⟨rfl, rfl⟩
  go_wp2_with fail
  refine (rleast_as c { p with fails := (F0 + 1), exp := E, state := 1, till := A } L HL.out _).mono ?_
  rintro e w2 ⟨rfl, hb⟩
  have x1 := ((((x0.set 3 (.int .i64 (F0 + 1))).set 4 (.int .i64 1)).set 5 (.int .i64 A)).set 2 (.int .i64 E))
  have z1 := ((((z0.other (a := ⟨w.heap.size + 1, 3, none⟩) (by simp) (.int .i64 (F0 + 1))).other (a := ⟨w.heap.size + 1, 4, none⟩) (by simp) (.int .i64 1)).other (a := ⟨w.heap.size + 1, 5, none⟩) (by simp) (.int .i64 A)).other (a := ⟨w.heap.size + 1, 2, none⟩) (by simp) (.int .i64 E))
  have y1 := ((((y0.other (a := ⟨w.heap.size + 1, 3, none⟩) (by simp) (.int .i64 (F0 + 1))).other (a := ⟨w.heap.size + 1, 4, none⟩) (by simp) (.int .i64 1)).other (a := ⟨w.heap.size + 1, 5, none⟩) (by simp) (.int .i64 A)).other (a := ⟨w.heap.size + 1, 2, none⟩) (by simp) (.int .i64 E))
  have B1 := ((((hB.setCell (p := ⟨w.heap.size + 1, 3, none⟩) (by simp) (.int .i64 (F0 + 1))).setCell (p := ⟨w.heap.size + 1, 4, none⟩) (by simp) (.int .i64 1)).setCell (p := ⟨w.heap.size + 1, 5, none⟩) (by simp) (.int .i64 A)).setCell (p := ⟨w.heap.size + 1, 2, none⟩) (by simp) (.int .i64 E))
  simp only [List.setIfInBounds_toArray, List.set_cons_succ, List.set_cons_zero] at x1
  have x2 := x1.later hb
  have z2 := z1.later hb
  have y2 := y1.later hb
  have B2 := B1.trans (hb.mono B1.size)
  clear x0 y0 z0 hB l0 c0 f0 l9 c9 f9 x1 z1 y1 B1 hb
  obtain ⟨l0, c0, f0⟩ := x2.facts
  obtain ⟨l9, c9, f9⟩ := z2.facts
  obtain ⟨l8, c8, f8⟩ := y2.facts
  go_wp2_with fail
  refine (rmost_as _ _ _ M HM.out _).mono ?_
  rintro e w1 ⟨rfl, rfl⟩
  go_wp2_with fail
  refine (rjit_as _ _ J HJ.out _).mono ?_
  rintro e w1 ⟨rfl, rfl⟩
  by_cases hj : L < J
  · have HG := Lib.hid (show max L J = J by omega)
    go_wp2_with fail
    exact bodyPost_ret (v := .agg #[.int .i64 p.last, .int .i64 J, .int .i64 E, .int .i64 (F0 + 1), .int .i64 1, .int .i64 A, .int .i64 p.retry, .int .i64 p.reset, .int .i64 p.flying, .int .i64 p.known, .bool p.all, .bool p.none, .slice p.ra p.rl p.rc, .int .i64 p.delay]) (by simp [results, Try.results49, go_sem, c8]) rfl ⟨by rw [HG.out], below14 ((B2.setCell (p := ⟨w.heap.size + 1, 1, none⟩) (by simp) (.int .i64 L)).setCell (p := ⟨w.heap.size + 1, 1, none⟩) (by simp) (.int .i64 J)) (by omega) _ _ _ _ _ _ _ _ _ _ _ _ _ _⟩
  · have HG := Lib.hid (show max L J = L by omega)
    go_wp2_with fail
    exact bodyPost_ret (v := .agg #[.int .i64 p.last, .int .i64 L, .int .i64 E, .int .i64 (F0 + 1), .int .i64 1, .int .i64 A, .int .i64 p.retry, .int .i64 p.reset, .int .i64 p.flying, .int .i64 p.known, .bool p.all, .bool p.none, .slice p.ra p.rl p.rc, .int .i64 p.delay]) (by simp [results, Try.results49, go_sem, c8]) rfl ⟨by rw [HG.out], below14 (B2.setCell (p := ⟨w.heap.size + 1, 1, none⟩) (by simp) (.int .i64 L)) (by omega) _ _ _ _ _ _ _ _ _ _ _ _ _ _⟩

set_option maxRecDepth 100000 in
set_option maxHeartbeats 4000000 in
theorem rfail_m_fn (c : Cfg) (p : Pol) (now draw F0 A E M J L : Int) (hC : cutI p.fails 0 1099511627776 = F0) (hA : addI now c.opn = A) (hE : upI p.exp = E) (hM : mostI c.base c.most E = M) (hJ : jitI M draw = J) (hL : least3 c.floor p.delay = L) (h0 : 0 ≤ F0) (h1 : F0 ≤ 1099511627776) (dm : ¬ c.brk < 1) (hs : ¬ p.state = 2) (hm : c.brk ≤ F0 + 1) (ht : ¬ p.till < A) (w : World) : Calls Try.prog 49 #[.agg #[.int .i64 c.hosts, .int .i64 c.perHost, .int .i64 c.memory, .int .i64 c.segs, .int .i64 c.floor, .int .i64 c.cap, .int .i64 c.base, .int .i64 c.most, .int .i64 c.brk, .int .i64 c.opn, .int .i64 c.rate, .int .i64 c.burst, .int .i64 c.keep, .string c.agent], .agg #[.int .i64 p.last, .int .i64 p.gap, .int .i64 p.exp, .int .i64 p.fails, .int .i64 p.state, .int .i64 p.till, .int .i64 p.retry, .int .i64 p.reset, .int .i64 p.flying, .int .i64 p.known, .bool p.all, .bool p.none, .slice p.ra p.rl p.rc, .int .i64 p.delay], .int .i64 now, .int .i64 draw] w fun e w' => e = .returned (.agg #[.int .i64 p.last, .int .i64 (max L J), .int .i64 E, .int .i64 (F0 + 1), .int .i64 1, .int .i64 p.till, .int .i64 p.retry, .int .i64 p.reset, .int .i64 p.flying, .int .i64 p.known, .bool p.all, .bool p.none, .slice p.ra p.rl p.rc, .int .i64 p.delay]) ∧ Below w.heap.size w w' := by
  have HC := Lib.hid hC
  have HA := Lib.hid hA
  have HE := Lib.hid hE
  have HM := Lib.hid hM
  have HJ := Lib.hid hJ
  have HL := Lib.hid hL
  clear hC hA hE hM hJ hL
  have dm' : decide (c.brk < 1) = false := decide_eq_false dm
  have d1 : (p.state == 2) = false := by simp [hs]
  clear hs
  have d2 : decide (c.brk ≤ F0 + 1) = true := decide_eq_true hm
  have z0 := ((Box.new w #[.int .i64 c.hosts, .int .i64 c.perHost, .int .i64 c.memory, .int .i64 c.segs, .int .i64 c.floor, .int .i64 c.cap, .int .i64 c.base, .int .i64 c.most, .int .i64 c.brk, .int .i64 c.opn, .int .i64 c.rate, .int .i64 c.burst, .int .i64 c.keep, .string c.agent] 23).alloc (.cells #[.int .i64 p.last, .int .i64 p.gap, .int .i64 p.exp, .int .i64 p.fails, .int .i64 p.state, .int .i64 p.till, .int .i64 p.retry, .int .i64 p.reset, .int .i64 p.flying, .int .i64 p.known, .bool p.all, .bool p.none, .slice p.ra p.rl p.rc, .int .i64 p.delay] 28)).alloc (.cells #[.int .i64 0, .int .i64 0, .int .i64 0, .int .i64 0, .int .i64 0, .int .i64 0, .int .i64 0, .int .i64 0, .int .i64 0, .int .i64 0, .bool false, .bool false, .slice .none 0 0, .int .i64 0] 28)
  have x0 := (Box.new (w.alloc (.cells #[.int .i64 c.hosts, .int .i64 c.perHost, .int .i64 c.memory, .int .i64 c.segs, .int .i64 c.floor, .int .i64 c.cap, .int .i64 c.base, .int .i64 c.most, .int .i64 c.brk, .int .i64 c.opn, .int .i64 c.rate, .int .i64 c.burst, .int .i64 c.keep, .string c.agent] 23)) #[.int .i64 p.last, .int .i64 p.gap, .int .i64 p.exp, .int .i64 p.fails, .int .i64 p.state, .int .i64 p.till, .int .i64 p.retry, .int .i64 p.reset, .int .i64 p.flying, .int .i64 p.known, .bool p.all, .bool p.none, .slice p.ra p.rl p.rc, .int .i64 p.delay] 28).alloc (.cells #[.int .i64 0, .int .i64 0, .int .i64 0, .int .i64 0, .int .i64 0, .int .i64 0, .int .i64 0, .int .i64 0, .int .i64 0, .int .i64 0, .bool false, .bool false, .slice .none 0 0, .int .i64 0] 28)
  have y0 := Box.new ((w.alloc (.cells #[.int .i64 c.hosts, .int .i64 c.perHost, .int .i64 c.memory, .int .i64 c.segs, .int .i64 c.floor, .int .i64 c.cap, .int .i64 c.base, .int .i64 c.most, .int .i64 c.brk, .int .i64 c.opn, .int .i64 c.rate, .int .i64 c.burst, .int .i64 c.keep, .string c.agent] 23)).alloc (.cells #[.int .i64 p.last, .int .i64 p.gap, .int .i64 p.exp, .int .i64 p.fails, .int .i64 p.state, .int .i64 p.till, .int .i64 p.retry, .int .i64 p.reset, .int .i64 p.flying, .int .i64 p.known, .bool p.all, .bool p.none, .slice p.ra p.rl p.rc, .int .i64 p.delay] 28)) #[.int .i64 0, .int .i64 0, .int .i64 0, .int .i64 0, .int .i64 0, .int .i64 0, .int .i64 0, .int .i64 0, .int .i64 0, .int .i64 0, .bool false, .bool false, .slice .none 0 0, .int .i64 0] 28
  have hB := (((Below.refl w.heap.size w).alloc (Nat.le_refl _) (.cells #[.int .i64 c.hosts, .int .i64 c.perHost, .int .i64 c.memory, .int .i64 c.segs, .int .i64 c.floor, .int .i64 c.cap, .int .i64 c.base, .int .i64 c.most, .int .i64 c.brk, .int .i64 c.opn, .int .i64 c.rate, .int .i64 c.burst, .int .i64 c.keep, .string c.agent] 23)).alloc (by simp) (.cells #[.int .i64 p.last, .int .i64 p.gap, .int .i64 p.exp, .int .i64 p.fails, .int .i64 p.state, .int .i64 p.till, .int .i64 p.retry, .int .i64 p.reset, .int .i64 p.flying, .int .i64 p.known, .bool p.all, .bool p.none, .slice p.ra p.rl p.rc, .int .i64 p.delay] 28)).alloc (by simp; omega) (.cells #[.int .i64 0, .int .i64 0, .int .i64 0, .int .i64 0, .int .i64 0, .int .i64 0, .int .i64 0, .int .i64 0, .int .i64 0, .int .i64 0, .bool false, .bool false, .slice .none 0 0, .int .i64 0] 28)
  rw [World.size_alloc] at x0
  rw [World.size_alloc, World.size_alloc] at y0
  go_enter Try.func49, Try.ntmps49
  go_upto_region 1 with fail
  generalize ((w.alloc (.cells #[.int .i64 c.hosts, .int .i64 c.perHost, .int .i64 c.memory, .int .i64 c.segs, .int .i64 c.floor, .int .i64 c.cap, .int .i64 c.base, .int .i64 c.most, .int .i64 c.brk, .int .i64 c.opn, .int .i64 c.rate, .int .i64 c.burst, .int .i64 c.keep, .string c.agent] 23)).alloc (.cells #[.int .i64 p.last, .int .i64 p.gap, .int .i64 p.exp, .int .i64 p.fails, .int .i64 p.state, .int .i64 p.till, .int .i64 p.retry, .int .i64 p.reset, .int .i64 p.flying, .int .i64 p.known, .bool p.all, .bool p.none, .slice p.ra p.rl p.rc, .int .i64 p.delay] 28)).alloc (.cells #[.int .i64 0, .int .i64 0, .int .i64 0, .int .i64 0, .int .i64 0, .int .i64 0, .int .i64 0, .int .i64 0, .int .i64 0, .int .i64 0, .bool false, .bool false, .slice .none 0 0, .int .i64 0] 28) = wz at *
  obtain ⟨l0, c0, f0⟩ := x0.facts
  obtain ⟨l9, c9, f9⟩ := z0.facts
  go_wp2_with fail
  refine (cut_as _ _ _ F0 HC.out _).mono ?_
  rintro e w1 ⟨rfl, rfl⟩
  go_wp2_with fail
  refine (radd_as _ _ A HA.out _).mono ?_
  rintro e w1 ⟨rfl, rfl⟩
  go_wp2_with fail
  refine (rup_as _ E HE.out _).mono ?_
  rintro e w1 ⟨rfl, rfl⟩
  go_wp2_with fail
  refine (rleast_as c { p with fails := (F0 + 1), exp := E, state := 1 } L HL.out _).mono ?_
  rintro e w2 ⟨rfl, hb⟩
  have x1 := (((x0.set 3 (.int .i64 (F0 + 1))).set 4 (.int .i64 1)).set 2 (.int .i64 E))
  have z1 := (((z0.other (a := ⟨w.heap.size + 1, 3, none⟩) (by simp) (.int .i64 (F0 + 1))).other (a := ⟨w.heap.size + 1, 4, none⟩) (by simp) (.int .i64 1)).other (a := ⟨w.heap.size + 1, 2, none⟩) (by simp) (.int .i64 E))
  have y1 := (((y0.other (a := ⟨w.heap.size + 1, 3, none⟩) (by simp) (.int .i64 (F0 + 1))).other (a := ⟨w.heap.size + 1, 4, none⟩) (by simp) (.int .i64 1)).other (a := ⟨w.heap.size + 1, 2, none⟩) (by simp) (.int .i64 E))
  have B1 := (((hB.setCell (p := ⟨w.heap.size + 1, 3, none⟩) (by simp) (.int .i64 (F0 + 1))).setCell (p := ⟨w.heap.size + 1, 4, none⟩) (by simp) (.int .i64 1)).setCell (p := ⟨w.heap.size + 1, 2, none⟩) (by simp) (.int .i64 E))
  simp only [List.setIfInBounds_toArray, List.set_cons_succ, List.set_cons_zero] at x1
  have x2 := x1.later hb
  have z2 := z1.later hb
  have y2 := y1.later hb
  have B2 := B1.trans (hb.mono B1.size)
  clear x0 y0 z0 hB l0 c0 f0 l9 c9 f9 x1 z1 y1 B1 hb
  obtain ⟨l0, c0, f0⟩ := x2.facts
  obtain ⟨l9, c9, f9⟩ := z2.facts
  obtain ⟨l8, c8, f8⟩ := y2.facts
  go_wp2_with fail
  refine (rmost_as _ _ _ M HM.out _).mono ?_
  rintro e w1 ⟨rfl, rfl⟩
  go_wp2_with fail
  refine (rjit_as _ _ J HJ.out _).mono ?_
  rintro e w1 ⟨rfl, rfl⟩
  by_cases hj : L < J
  · have HG := Lib.hid (show max L J = J by omega)
    go_wp2_with fail
    exact bodyPost_ret (v := .agg #[.int .i64 p.last, .int .i64 J, .int .i64 E, .int .i64 (F0 + 1), .int .i64 1, .int .i64 p.till, .int .i64 p.retry, .int .i64 p.reset, .int .i64 p.flying, .int .i64 p.known, .bool p.all, .bool p.none, .slice p.ra p.rl p.rc, .int .i64 p.delay]) (by simp [results, Try.results49, go_sem, c8]) rfl ⟨by rw [HG.out], below14 ((B2.setCell (p := ⟨w.heap.size + 1, 1, none⟩) (by simp) (.int .i64 L)).setCell (p := ⟨w.heap.size + 1, 1, none⟩) (by simp) (.int .i64 J)) (by omega) _ _ _ _ _ _ _ _ _ _ _ _ _ _⟩
  · have HG := Lib.hid (show max L J = L by omega)
    go_wp2_with fail
    exact bodyPost_ret (v := .agg #[.int .i64 p.last, .int .i64 L, .int .i64 E, .int .i64 (F0 + 1), .int .i64 1, .int .i64 p.till, .int .i64 p.retry, .int .i64 p.reset, .int .i64 p.flying, .int .i64 p.known, .bool p.all, .bool p.none, .slice p.ra p.rl p.rc, .int .i64 p.delay]) (by simp [results, Try.results49, go_sem, c8]) rfl ⟨by rw [HG.out], below14 (B2.setCell (p := ⟨w.heap.size + 1, 1, none⟩) (by simp) (.int .i64 L)) (by omega) _ _ _ _ _ _ _ _ _ _ _ _ _ _⟩

set_option maxRecDepth 100000 in
set_option maxHeartbeats 4000000 in
theorem rfail_m_s (c : Cfg) (p : Pol) (now draw F0 A E M J L : Int) (hC : cutI p.fails 0 1099511627776 = F0) (hA : addI now c.opn = A) (hE : upI p.exp = E) (hM : mostI c.base c.most E = M) (hJ : jitI M draw = J) (hL : least3 c.floor p.delay = L) (h0 : 0 ≤ F0) (h1 : F0 ≤ 1099511627776) (dm : ¬ c.brk < 1) (hs : ¬ p.state = 2) (hm : ¬ c.brk ≤ F0 + 1) (w : World) : Calls Try.prog 49 #[.agg #[.int .i64 c.hosts, .int .i64 c.perHost, .int .i64 c.memory, .int .i64 c.segs, .int .i64 c.floor, .int .i64 c.cap, .int .i64 c.base, .int .i64 c.most, .int .i64 c.brk, .int .i64 c.opn, .int .i64 c.rate, .int .i64 c.burst, .int .i64 c.keep, .string c.agent], .agg #[.int .i64 p.last, .int .i64 p.gap, .int .i64 p.exp, .int .i64 p.fails, .int .i64 p.state, .int .i64 p.till, .int .i64 p.retry, .int .i64 p.reset, .int .i64 p.flying, .int .i64 p.known, .bool p.all, .bool p.none, .slice p.ra p.rl p.rc, .int .i64 p.delay], .int .i64 now, .int .i64 draw] w fun e w' => e = .returned (.agg #[.int .i64 p.last, .int .i64 (max L J), .int .i64 E, .int .i64 (F0 + 1), .int .i64 p.state, .int .i64 p.till, .int .i64 p.retry, .int .i64 p.reset, .int .i64 p.flying, .int .i64 p.known, .bool p.all, .bool p.none, .slice p.ra p.rl p.rc, .int .i64 p.delay]) ∧ Below w.heap.size w w' := by
  have HC := Lib.hid hC
  have HA := Lib.hid hA
  have HE := Lib.hid hE
  have HM := Lib.hid hM
  have HJ := Lib.hid hJ
  have HL := Lib.hid hL
  clear hC hA hE hM hJ hL
  have dm' : decide (c.brk < 1) = false := decide_eq_false dm
  have d1 : (p.state == 2) = false := by simp [hs]
  clear hs
  have d2 : decide (c.brk ≤ F0 + 1) = false := decide_eq_false hm
  have z0 := ((Box.new w #[.int .i64 c.hosts, .int .i64 c.perHost, .int .i64 c.memory, .int .i64 c.segs, .int .i64 c.floor, .int .i64 c.cap, .int .i64 c.base, .int .i64 c.most, .int .i64 c.brk, .int .i64 c.opn, .int .i64 c.rate, .int .i64 c.burst, .int .i64 c.keep, .string c.agent] 23).alloc (.cells #[.int .i64 p.last, .int .i64 p.gap, .int .i64 p.exp, .int .i64 p.fails, .int .i64 p.state, .int .i64 p.till, .int .i64 p.retry, .int .i64 p.reset, .int .i64 p.flying, .int .i64 p.known, .bool p.all, .bool p.none, .slice p.ra p.rl p.rc, .int .i64 p.delay] 28)).alloc (.cells #[.int .i64 0, .int .i64 0, .int .i64 0, .int .i64 0, .int .i64 0, .int .i64 0, .int .i64 0, .int .i64 0, .int .i64 0, .int .i64 0, .bool false, .bool false, .slice .none 0 0, .int .i64 0] 28)
  have x0 := (Box.new (w.alloc (.cells #[.int .i64 c.hosts, .int .i64 c.perHost, .int .i64 c.memory, .int .i64 c.segs, .int .i64 c.floor, .int .i64 c.cap, .int .i64 c.base, .int .i64 c.most, .int .i64 c.brk, .int .i64 c.opn, .int .i64 c.rate, .int .i64 c.burst, .int .i64 c.keep, .string c.agent] 23)) #[.int .i64 p.last, .int .i64 p.gap, .int .i64 p.exp, .int .i64 p.fails, .int .i64 p.state, .int .i64 p.till, .int .i64 p.retry, .int .i64 p.reset, .int .i64 p.flying, .int .i64 p.known, .bool p.all, .bool p.none, .slice p.ra p.rl p.rc, .int .i64 p.delay] 28).alloc (.cells #[.int .i64 0, .int .i64 0, .int .i64 0, .int .i64 0, .int .i64 0, .int .i64 0, .int .i64 0, .int .i64 0, .int .i64 0, .int .i64 0, .bool false, .bool false, .slice .none 0 0, .int .i64 0] 28)
  have y0 := Box.new ((w.alloc (.cells #[.int .i64 c.hosts, .int .i64 c.perHost, .int .i64 c.memory, .int .i64 c.segs, .int .i64 c.floor, .int .i64 c.cap, .int .i64 c.base, .int .i64 c.most, .int .i64 c.brk, .int .i64 c.opn, .int .i64 c.rate, .int .i64 c.burst, .int .i64 c.keep, .string c.agent] 23)).alloc (.cells #[.int .i64 p.last, .int .i64 p.gap, .int .i64 p.exp, .int .i64 p.fails, .int .i64 p.state, .int .i64 p.till, .int .i64 p.retry, .int .i64 p.reset, .int .i64 p.flying, .int .i64 p.known, .bool p.all, .bool p.none, .slice p.ra p.rl p.rc, .int .i64 p.delay] 28)) #[.int .i64 0, .int .i64 0, .int .i64 0, .int .i64 0, .int .i64 0, .int .i64 0, .int .i64 0, .int .i64 0, .int .i64 0, .int .i64 0, .bool false, .bool false, .slice .none 0 0, .int .i64 0] 28
  have hB := (((Below.refl w.heap.size w).alloc (Nat.le_refl _) (.cells #[.int .i64 c.hosts, .int .i64 c.perHost, .int .i64 c.memory, .int .i64 c.segs, .int .i64 c.floor, .int .i64 c.cap, .int .i64 c.base, .int .i64 c.most, .int .i64 c.brk, .int .i64 c.opn, .int .i64 c.rate, .int .i64 c.burst, .int .i64 c.keep, .string c.agent] 23)).alloc (by simp) (.cells #[.int .i64 p.last, .int .i64 p.gap, .int .i64 p.exp, .int .i64 p.fails, .int .i64 p.state, .int .i64 p.till, .int .i64 p.retry, .int .i64 p.reset, .int .i64 p.flying, .int .i64 p.known, .bool p.all, .bool p.none, .slice p.ra p.rl p.rc, .int .i64 p.delay] 28)).alloc (by simp; omega) (.cells #[.int .i64 0, .int .i64 0, .int .i64 0, .int .i64 0, .int .i64 0, .int .i64 0, .int .i64 0, .int .i64 0, .int .i64 0, .int .i64 0, .bool false, .bool false, .slice .none 0 0, .int .i64 0] 28)
  rw [World.size_alloc] at x0
  rw [World.size_alloc, World.size_alloc] at y0
  go_enter Try.func49, Try.ntmps49
  go_upto_region 1 with fail
  generalize ((w.alloc (.cells #[.int .i64 c.hosts, .int .i64 c.perHost, .int .i64 c.memory, .int .i64 c.segs, .int .i64 c.floor, .int .i64 c.cap, .int .i64 c.base, .int .i64 c.most, .int .i64 c.brk, .int .i64 c.opn, .int .i64 c.rate, .int .i64 c.burst, .int .i64 c.keep, .string c.agent] 23)).alloc (.cells #[.int .i64 p.last, .int .i64 p.gap, .int .i64 p.exp, .int .i64 p.fails, .int .i64 p.state, .int .i64 p.till, .int .i64 p.retry, .int .i64 p.reset, .int .i64 p.flying, .int .i64 p.known, .bool p.all, .bool p.none, .slice p.ra p.rl p.rc, .int .i64 p.delay] 28)).alloc (.cells #[.int .i64 0, .int .i64 0, .int .i64 0, .int .i64 0, .int .i64 0, .int .i64 0, .int .i64 0, .int .i64 0, .int .i64 0, .int .i64 0, .bool false, .bool false, .slice .none 0 0, .int .i64 0] 28) = wz at *
  obtain ⟨l0, c0, f0⟩ := x0.facts
  obtain ⟨l9, c9, f9⟩ := z0.facts
  go_wp2_with fail
  refine (cut_as _ _ _ F0 HC.out _).mono ?_
  rintro e w1 ⟨rfl, rfl⟩
  go_wp2_with fail
  refine (rup_as _ E HE.out _).mono ?_
  rintro e w1 ⟨rfl, rfl⟩
  go_wp2_with fail
  refine (rleast_as c { p with fails := (F0 + 1), exp := E } L HL.out _).mono ?_
  rintro e w2 ⟨rfl, hb⟩
  have x1 := ((x0.set 3 (.int .i64 (F0 + 1))).set 2 (.int .i64 E))
  have z1 := ((z0.other (a := ⟨w.heap.size + 1, 3, none⟩) (by simp) (.int .i64 (F0 + 1))).other (a := ⟨w.heap.size + 1, 2, none⟩) (by simp) (.int .i64 E))
  have y1 := ((y0.other (a := ⟨w.heap.size + 1, 3, none⟩) (by simp) (.int .i64 (F0 + 1))).other (a := ⟨w.heap.size + 1, 2, none⟩) (by simp) (.int .i64 E))
  have B1 := ((hB.setCell (p := ⟨w.heap.size + 1, 3, none⟩) (by simp) (.int .i64 (F0 + 1))).setCell (p := ⟨w.heap.size + 1, 2, none⟩) (by simp) (.int .i64 E))
  simp only [List.setIfInBounds_toArray, List.set_cons_succ, List.set_cons_zero] at x1
  have x2 := x1.later hb
  have z2 := z1.later hb
  have y2 := y1.later hb
  have B2 := B1.trans (hb.mono B1.size)
  clear x0 y0 z0 hB l0 c0 f0 l9 c9 f9 x1 z1 y1 B1 hb
  obtain ⟨l0, c0, f0⟩ := x2.facts
  obtain ⟨l9, c9, f9⟩ := z2.facts
  obtain ⟨l8, c8, f8⟩ := y2.facts
  go_wp2_with fail
  refine (rmost_as _ _ _ M HM.out _).mono ?_
  rintro e w1 ⟨rfl, rfl⟩
  go_wp2_with fail
  refine (rjit_as _ _ J HJ.out _).mono ?_
  rintro e w1 ⟨rfl, rfl⟩
  by_cases hj : L < J
  · have HG := Lib.hid (show max L J = J by omega)
    go_wp2_with fail
    exact bodyPost_ret (v := .agg #[.int .i64 p.last, .int .i64 J, .int .i64 E, .int .i64 (F0 + 1), .int .i64 p.state, .int .i64 p.till, .int .i64 p.retry, .int .i64 p.reset, .int .i64 p.flying, .int .i64 p.known, .bool p.all, .bool p.none, .slice p.ra p.rl p.rc, .int .i64 p.delay]) (by simp [results, Try.results49, go_sem, c8]) rfl ⟨by rw [HG.out], below14 ((B2.setCell (p := ⟨w.heap.size + 1, 1, none⟩) (by simp) (.int .i64 L)).setCell (p := ⟨w.heap.size + 1, 1, none⟩) (by simp) (.int .i64 J)) (by omega) _ _ _ _ _ _ _ _ _ _ _ _ _ _⟩
  · have HG := Lib.hid (show max L J = L by omega)
    go_wp2_with fail
    exact bodyPost_ret (v := .agg #[.int .i64 p.last, .int .i64 L, .int .i64 E, .int .i64 (F0 + 1), .int .i64 p.state, .int .i64 p.till, .int .i64 p.retry, .int .i64 p.reset, .int .i64 p.flying, .int .i64 p.known, .bool p.all, .bool p.none, .slice p.ra p.rl p.rc, .int .i64 p.delay]) (by simp [results, Try.results49, go_sem, c8]) rfl ⟨by rw [HG.out], below14 (B2.setCell (p := ⟨w.heap.size + 1, 1, none⟩) (by simp) (.int .i64 L)) (by omega) _ _ _ _ _ _ _ _ _ _ _ _ _ _⟩

end Go.Proofs.Ytelakgbpfnlpiaa
