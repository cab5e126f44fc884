/- An answer. -/
import Derived.Test.YtonfbkffngplcaaPolF
namespace Go.Proofs.Ytonfbkffngplcaa
open Go.RowKit

set_option maxRecDepth 100000 in
set_option maxHeartbeats 40000000 in
theorem pans3 (c : Cfg) (p : Pol) (f : Fb) (now draw S F T E M J L N R Q : Int) (hf : p.flying ≤ 9223372036854775807) (hN : max p.flying 1 - 1 = N) (hR : max p.retry f.retry = R) (hQ : max p.reset f.reset = Q) (hc : f.cls = 3) (hS : failS p.state p.fails c.brk = S) (hF : failF p.fails = F) (hT : failU p.state p.fails p.till now c.brk c.opn = T) (hE : upI p.exp = E) (hM : mostI c.base c.most E = M) (hJ : jitI M draw = J) (hL : least3 c.floor p.delay = L) (w : World) : Calls Try.prog 6 #[.agg #[.int .i64 c.hosts, .int .i64 c.perHost, .int .i64 c.memory, .int .i64 c.segs, .int .i64 c.floor, .int .i64 c.cap, .int .i64 c.base, .int .i64 c.most, .int .i64 c.brk, .int .i64 c.opn, .int .i64 c.rate, .int .i64 c.burst, .int .i64 c.keep, .string c.agent], .agg #[.int .i64 p.last, .int .i64 p.gap, .int .i64 p.exp, .int .i64 p.fails, .int .i64 p.state, .int .i64 p.till, .int .i64 p.retry, .int .i64 p.reset, .int .i64 p.flying, .int .i64 p.known, .bool p.all, .bool p.none, .slice p.ra p.rl p.rc, .int .i64 p.delay], .agg #[.int .i64 f.cls, .int .i64 f.retry, .int .i64 f.reset], .int .i64 now, .int .i64 draw] w fun e w' => e = .returned (.agg #[.int .i64 p.last, .int .i64 (max L J), .int .i64 E, .int .i64 F, .int .i64 S, .int .i64 T, .int .i64 R, .int .i64 Q, .int .i64 N, .int .i64 p.known, .bool p.all, .bool p.none, .slice p.ra p.rl p.rc, .int .i64 p.delay]) ∧ Below w.heap.size w w' := by
  have HS := Lib.hid hS
  have HF := Lib.hid hF
  have HT := Lib.hid hT
  have HE := Lib.hid hE
  have HM := Lib.hid hM
  have HJ := Lib.hid hJ
  have HL := Lib.hid hL
  have HN := Lib.hid hN
  have HR := Lib.hid hR
  have HQ := Lib.hid hQ
  clear hS hF hT hE hM hJ hL hN hR hQ
  have d1 : (f.cls == 3) = true := by simp [hc]
  clear hc
  have z0 := (((Box.new w #[.int .i64 c.hosts, .int .i64 c.perHost, .int .i64 c.memory, .int .i64 c.segs, .int .i64 c.floor, .int .i64 c.cap, .int .i64 c.base, .int .i64 c.most, .int .i64 c.brk, .int .i64 c.opn, .int .i64 c.rate, .int .i64 c.burst, .int .i64 c.keep, .string c.agent] 24).alloc (.cells #[.int .i64 p.last, .int .i64 p.gap, .int .i64 p.exp, .int .i64 p.fails, .int .i64 p.state, .int .i64 p.till, .int .i64 p.retry, .int .i64 p.reset, .int .i64 p.flying, .int .i64 p.known, .bool p.all, .bool p.none, .slice p.ra p.rl p.rc, .int .i64 p.delay] 29)).alloc (.cells #[.int .i64 f.cls, .int .i64 f.retry, .int .i64 f.reset] 35)).alloc (.cells #[.int .i64 0, .int .i64 0, .int .i64 0, .int .i64 0, .int .i64 0, .int .i64 0, .int .i64 0, .int .i64 0, .int .i64 0, .int .i64 0, .bool false, .bool false, .slice .none 0 0, .int .i64 0] 29)
  have x0 := ((Box.new (w.alloc (.cells #[.int .i64 c.hosts, .int .i64 c.perHost, .int .i64 c.memory, .int .i64 c.segs, .int .i64 c.floor, .int .i64 c.cap, .int .i64 c.base, .int .i64 c.most, .int .i64 c.brk, .int .i64 c.opn, .int .i64 c.rate, .int .i64 c.burst, .int .i64 c.keep, .string c.agent] 24)) #[.int .i64 p.last, .int .i64 p.gap, .int .i64 p.exp, .int .i64 p.fails, .int .i64 p.state, .int .i64 p.till, .int .i64 p.retry, .int .i64 p.reset, .int .i64 p.flying, .int .i64 p.known, .bool p.all, .bool p.none, .slice p.ra p.rl p.rc, .int .i64 p.delay] 29).alloc (.cells #[.int .i64 f.cls, .int .i64 f.retry, .int .i64 f.reset] 35)).alloc (.cells #[.int .i64 0, .int .i64 0, .int .i64 0, .int .i64 0, .int .i64 0, .int .i64 0, .int .i64 0, .int .i64 0, .int .i64 0, .int .i64 0, .bool false, .bool false, .slice .none 0 0, .int .i64 0] 29)
  have v0 := (Box.new ((w.alloc (.cells #[.int .i64 c.hosts, .int .i64 c.perHost, .int .i64 c.memory, .int .i64 c.segs, .int .i64 c.floor, .int .i64 c.cap, .int .i64 c.base, .int .i64 c.most, .int .i64 c.brk, .int .i64 c.opn, .int .i64 c.rate, .int .i64 c.burst, .int .i64 c.keep, .string c.agent] 24)).alloc (.cells #[.int .i64 p.last, .int .i64 p.gap, .int .i64 p.exp, .int .i64 p.fails, .int .i64 p.state, .int .i64 p.till, .int .i64 p.retry, .int .i64 p.reset, .int .i64 p.flying, .int .i64 p.known, .bool p.all, .bool p.none, .slice p.ra p.rl p.rc, .int .i64 p.delay] 29)) #[.int .i64 f.cls, .int .i64 f.retry, .int .i64 f.reset] 35).alloc (.cells #[.int .i64 0, .int .i64 0, .int .i64 0, .int .i64 0, .int .i64 0, .int .i64 0, .int .i64 0, .int .i64 0, .int .i64 0, .int .i64 0, .bool false, .bool false, .slice .none 0 0, .int .i64 0] 29)
  have y0 := Box.new (((w.alloc (.cells #[.int .i64 c.hosts, .int .i64 c.perHost, .int .i64 c.memory, .int .i64 c.segs, .int .i64 c.floor, .int .i64 c.cap, .int .i64 c.base, .int .i64 c.most, .int .i64 c.brk, .int .i64 c.opn, .int .i64 c.rate, .int .i64 c.burst, .int .i64 c.keep, .string c.agent] 24)).alloc (.cells #[.int .i64 p.last, .int .i64 p.gap, .int .i64 p.exp, .int .i64 p.fails, .int .i64 p.state, .int .i64 p.till, .int .i64 p.retry, .int .i64 p.reset, .int .i64 p.flying, .int .i64 p.known, .bool p.all, .bool p.none, .slice p.ra p.rl p.rc, .int .i64 p.delay] 29)).alloc (.cells #[.int .i64 f.cls, .int .i64 f.retry, .int .i64 f.reset] 35)) #[.int .i64 0, .int .i64 0, .int .i64 0, .int .i64 0, .int .i64 0, .int .i64 0, .int .i64 0, .int .i64 0, .int .i64 0, .int .i64 0, .bool false, .bool false, .slice .none 0 0, .int .i64 0] 29
  have B0 := ((((Below.refl w.heap.size w).alloc (Nat.le_refl _) (.cells #[.int .i64 c.hosts, .int .i64 c.perHost, .int .i64 c.memory, .int .i64 c.segs, .int .i64 c.floor, .int .i64 c.cap, .int .i64 c.base, .int .i64 c.most, .int .i64 c.brk, .int .i64 c.opn, .int .i64 c.rate, .int .i64 c.burst, .int .i64 c.keep, .string c.agent] 24)).alloc (by simp) (.cells #[.int .i64 p.last, .int .i64 p.gap, .int .i64 p.exp, .int .i64 p.fails, .int .i64 p.state, .int .i64 p.till, .int .i64 p.retry, .int .i64 p.reset, .int .i64 p.flying, .int .i64 p.known, .bool p.all, .bool p.none, .slice p.ra p.rl p.rc, .int .i64 p.delay] 29)).alloc (by simp; omega) (.cells #[.int .i64 f.cls, .int .i64 f.retry, .int .i64 f.reset] 35)).alloc (by simp; omega) (.cells #[.int .i64 0, .int .i64 0, .int .i64 0, .int .i64 0, .int .i64 0, .int .i64 0, .int .i64 0, .int .i64 0, .int .i64 0, .int .i64 0, .bool false, .bool false, .slice .none 0 0, .int .i64 0] 29)
  rw [World.size_alloc] at x0
  rw [World.size_alloc, World.size_alloc] at v0
  rw [World.size_alloc, World.size_alloc, World.size_alloc] at y0
  go_enter Try.func6, Try.ntmps6
  go_upto_region 1 with fail
  generalize (((w.alloc (.cells #[.int .i64 c.hosts, .int .i64 c.perHost, .int .i64 c.memory, .int .i64 c.segs, .int .i64 c.floor, .int .i64 c.cap, .int .i64 c.base, .int .i64 c.most, .int .i64 c.brk, .int .i64 c.opn, .int .i64 c.rate, .int .i64 c.burst, .int .i64 c.keep, .string c.agent] 24)).alloc (.cells #[.int .i64 p.last, .int .i64 p.gap, .int .i64 p.exp, .int .i64 p.fails, .int .i64 p.state, .int .i64 p.till, .int .i64 p.retry, .int .i64 p.reset, .int .i64 p.flying, .int .i64 p.known, .bool p.all, .bool p.none, .slice p.ra p.rl p.rc, .int .i64 p.delay] 29)).alloc (.cells #[.int .i64 f.cls, .int .i64 f.retry, .int .i64 f.reset] 35)).alloc (.cells #[.int .i64 0, .int .i64 0, .int .i64 0, .int .i64 0, .int .i64 0, .int .i64 0, .int .i64 0, .int .i64 0, .int .i64 0, .int .i64 0, .bool false, .bool false, .slice .none 0 0, .int .i64 0] 29) = wz at *
  obtain ⟨lx, cx, fx⟩ := x0.facts
  go_wp2_with fail
  refine (landed_as p N hf HN.out _).mono ?_
  rintro e w2 ⟨rfl, hb⟩
  clear lx cx fx
  have z1 := z0.later hb
  have x1 := x0.later hb
  have v1 := v0.later hb
  have y1 := y0.later hb
  have B1 := B0.trans (hb.mono B0.size)
  clear z0 x0 v0 y0 B0 hb
  obtain ⟨lx, cx, fx⟩ := x1.facts
  go_upto_region 2 with fail
  refine code_forget (fun wx => Below w.heap.size w wx ∧ Box wx (w.heap.size) #[.int .i64 c.hosts, .int .i64 c.perHost, .int .i64 c.memory, .int .i64 c.segs, .int .i64 c.floor, .int .i64 c.cap, .int .i64 c.base, .int .i64 c.most, .int .i64 c.brk, .int .i64 c.opn, .int .i64 c.rate, .int .i64 c.burst, .int .i64 c.keep, .string c.agent] 24 ∧ Box wx (w.heap.size + 1) #[.int .i64 p.last, .int .i64 p.gap, .int .i64 p.exp, .int .i64 p.fails, .int .i64 p.state, .int .i64 p.till, .int .i64 p.retry, .int .i64 p.reset, .int .i64 N, .int .i64 p.known, .bool p.all, .bool p.none, .slice p.ra p.rl p.rc, .int .i64 p.delay] 29 ∧ Box wx (w.heap.size + 1 + 1) #[.int .i64 f.cls, .int .i64 f.retry, .int .i64 f.reset] 35 ∧ Box wx (w.heap.size + 1 + 1 + 1) #[.int .i64 0, .int .i64 0, .int .i64 0, .int .i64 0, .int .i64 0, .int .i64 0, .int .i64 0, .int .i64 0, .int .i64 0, .int .i64 0, .bool false, .bool false, .slice .none 0 0, .int .i64 0] 29) ⟨below14 B1 (by omega) _ _ _ _ _ _ _ _ _ _ _ _ _ _, z1.other14 (by omega) _ _ _ _ _ _ _ _ _ _ _ _ _ _, x1.set14 _ _ _ _ _ _ _ _ _ _ _ _ _ _, v1.other14 (by omega) _ _ _ _ _ _ _ _ _ _ _ _ _ _, y1.other14 (by omega) _ _ _ _ _ _ _ _ _ _ _ _ _ _⟩ ?_
  rintro w3 ⟨B3, z3, x3, v3, y3⟩
  clear lx cx fx
  clear z1 x1 v1 y1 B1
  go_cut [] (fun wx => Below w.heap.size w wx ∧ Box wx (w.heap.size) #[.int .i64 c.hosts, .int .i64 c.perHost, .int .i64 c.memory, .int .i64 c.segs, .int .i64 c.floor, .int .i64 c.cap, .int .i64 c.base, .int .i64 c.most, .int .i64 c.brk, .int .i64 c.opn, .int .i64 c.rate, .int .i64 c.burst, .int .i64 c.keep, .string c.agent] 24 ∧ Box wx (w.heap.size + 1) #[.int .i64 p.last, .int .i64 p.gap, .int .i64 p.exp, .int .i64 p.fails, .int .i64 p.state, .int .i64 p.till, .int .i64 R, .int .i64 p.reset, .int .i64 N, .int .i64 p.known, .bool p.all, .bool p.none, .slice p.ra p.rl p.rc, .int .i64 p.delay] 29 ∧ Box wx (w.heap.size + 1 + 1) #[.int .i64 f.cls, .int .i64 f.retry, .int .i64 f.reset] 35 ∧ Box wx (w.heap.size + 1 + 1 + 1) #[.int .i64 0, .int .i64 0, .int .i64 0, .int .i64 0, .int .i64 0, .int .i64 0, .int .i64 0, .int .i64 0, .int .i64 0, .int .i64 0, .bool false, .bool false, .slice .none 0 0, .int .i64 0] 29)
  case first =>
    obtain ⟨lx, cx, fx⟩ := x3.facts
    obtain ⟨lv, cv, fv⟩ := v3.facts
    by_cases hr : p.retry < f.retry
    · have d9 : decide (p.retry < f.retry) = true := decide_eq_true hr
      have e9 : Hid (R = f.retry) := Lib.hid (by have := HR.out; omega)
      go_wp2_with fail
      go_meet
      rw [e9.out]
      exact ⟨B3.setCell (p := ⟨w.heap.size + 1, 6, none⟩) (by simp) _, z3.other (a := ⟨w.heap.size + 1, 6, none⟩) (by dsimp only; omega) _, (by have := x3.set 6 (.int .i64 f.retry); simp only [List.setIfInBounds_toArray, List.set_cons_succ, List.set_cons_zero] at this; exact this), v3.other (a := ⟨w.heap.size + 1, 6, none⟩) (by dsimp only; omega) _, y3.other (a := ⟨w.heap.size + 1, 6, none⟩) (by dsimp only; omega) _⟩
    · have d9 : decide (p.retry < f.retry) = false := decide_eq_false hr
      have e9 : Hid (R = p.retry) := Lib.hid (by have := HR.out; omega)
      go_wp2_with fail
      go_meet
      rw [e9.out]
      exact ⟨B3.setCell (p := ⟨w.heap.size + 1, 6, none⟩) (by simp) _, z3.other (a := ⟨w.heap.size + 1, 6, none⟩) (by dsimp only; omega) _, (by have := x3.set 6 (.int .i64 p.retry); simp only [List.setIfInBounds_toArray, List.set_cons_succ, List.set_cons_zero] at this; exact this), v3.other (a := ⟨w.heap.size + 1, 6, none⟩) (by dsimp only; omega) _, y3.other (a := ⟨w.heap.size + 1, 6, none⟩) (by dsimp only; omega) _⟩
  case rest =>
    obtain ⟨B4, z4, x4, v4, y4⟩ := hcut
    clear B3 z3 x3 v3 y3
    go_upto_region 3 with fail
    go_cut [] (fun wx => Below w.heap.size w wx ∧ Box wx (w.heap.size) #[.int .i64 c.hosts, .int .i64 c.perHost, .int .i64 c.memory, .int .i64 c.segs, .int .i64 c.floor, .int .i64 c.cap, .int .i64 c.base, .int .i64 c.most, .int .i64 c.brk, .int .i64 c.opn, .int .i64 c.rate, .int .i64 c.burst, .int .i64 c.keep, .string c.agent] 24 ∧ Box wx (w.heap.size + 1) #[.int .i64 p.last, .int .i64 p.gap, .int .i64 p.exp, .int .i64 p.fails, .int .i64 p.state, .int .i64 p.till, .int .i64 R, .int .i64 Q, .int .i64 N, .int .i64 p.known, .bool p.all, .bool p.none, .slice p.ra p.rl p.rc, .int .i64 p.delay] 29 ∧ Box wx (w.heap.size + 1 + 1) #[.int .i64 f.cls, .int .i64 f.retry, .int .i64 f.reset] 35 ∧ Box wx (w.heap.size + 1 + 1 + 1) #[.int .i64 0, .int .i64 0, .int .i64 0, .int .i64 0, .int .i64 0, .int .i64 0, .int .i64 0, .int .i64 0, .int .i64 0, .int .i64 0, .bool false, .bool false, .slice .none 0 0, .int .i64 0] 29)
    case first =>
      obtain ⟨lx, cx, fx⟩ := x4.facts
      obtain ⟨lv, cv, fv⟩ := v4.facts
      by_cases hr : p.reset < f.reset
      · have d9 : decide (p.reset < f.reset) = true := decide_eq_true hr
        have e9 : Hid (Q = f.reset) := Lib.hid (by have := HQ.out; omega)
        go_wp2_with fail
        go_meet
        rw [e9.out]
        exact ⟨B4.setCell (p := ⟨w.heap.size + 1, 7, none⟩) (by simp) _, z4.other (a := ⟨w.heap.size + 1, 7, none⟩) (by dsimp only; omega) _, (by have := x4.set 7 (.int .i64 f.reset); simp only [List.setIfInBounds_toArray, List.set_cons_succ, List.set_cons_zero] at this; exact this), v4.other (a := ⟨w.heap.size + 1, 7, none⟩) (by dsimp only; omega) _, y4.other (a := ⟨w.heap.size + 1, 7, none⟩) (by dsimp only; omega) _⟩
      · have d9 : decide (p.reset < f.reset) = false := decide_eq_false hr
        have e9 : Hid (Q = p.reset) := Lib.hid (by have := HQ.out; omega)
        go_wp2_with fail
        go_meet
        rw [e9.out]
        exact ⟨B4.setCell (p := ⟨w.heap.size + 1, 7, none⟩) (by simp) _, z4.other (a := ⟨w.heap.size + 1, 7, none⟩) (by dsimp only; omega) _, (by have := x4.set 7 (.int .i64 p.reset); simp only [List.setIfInBounds_toArray, List.set_cons_succ, List.set_cons_zero] at this; exact this), v4.other (a := ⟨w.heap.size + 1, 7, none⟩) (by dsimp only; omega) _, y4.other (a := ⟨w.heap.size + 1, 7, none⟩) (by dsimp only; omega) _⟩
    case rest =>
      obtain ⟨B5, z5, x5, v5, y5⟩ := hcut
      clear B4 z4 x4 v4 y4
      obtain ⟨lz, cz, fz⟩ := z5.facts
      obtain ⟨lx, cx, fx⟩ := x5.facts
      obtain ⟨lv, cv, fv⟩ := v5.facts
      go_wp2_with fail
      refine (failed_as c { p with flying := N, retry := R, reset := Q } now draw S F T E M J L HS.out HF.out HT.out HE.out HM.out HJ.out HL.out _).mono ?_
      rintro e w6 ⟨rfl, hb⟩
      clear lz cz fz lx cx fx lv cv fv
      have z6 := z5.later hb
      have x6 := x5.later hb
      have v6 := v5.later hb
      have y6 := y5.later hb
      have B6 := B5.trans (hb.mono B5.size)
      clear z5 x5 v5 y5 B5 hb
      obtain ⟨ly, cy, fy⟩ := y6.facts
      go_wp2_with fail
      exact bodyPost_ret (v := .agg #[.int .i64 p.last, .int .i64 (max L J), .int .i64 E, .int .i64 F, .int .i64 S, .int .i64 T, .int .i64 R, .int .i64 Q, .int .i64 N, .int .i64 p.known, .bool p.all, .bool p.none, .slice p.ra p.rl p.rc, .int .i64 p.delay]) (by simp [results, Try.results6, go_sem, cy]) rfl ⟨rfl, below14 B6 (by omega) _ _ _ _ _ _ _ _ _ _ _ _ _ _⟩

end Go.Proofs.Ytonfbkffngplcaa
