/- Rules that are learnt. -/
import Derived.Test.YtonfbkffngplcaaPolG
import Derived.Test.YtonfbkffngplcaaLast
namespace Go.Proofs.Ytonfbkffngplcaa
open Go.RowKit

set_option maxRecDepth 100000 in
set_option maxHeartbeats 40000000 in
theorem plearn_as (c : Cfg) (p : Pol) (r : Rob) (now K L : Int) (hK : addI now c.keep = K) (hL : least3 c.floor r.delay = L) (w : World) : Calls Try.prog 7 #[.agg #[.int .i64 c.hosts, .int .i64 c.perHost, .int .i64 c.memory, .int .i64 c.segs, .int .i64 c.floor, .int .i64 c.cap, .int .i64 c.base, .int .i64 c.most, .int .i64 c.brk, .int .i64 c.opn, .int .i64 c.rate, .int .i64 c.burst, .int .i64 c.keep, .string c.agent], .agg #[.int .i64 p.last, .int .i64 p.gap, .int .i64 p.exp, .int .i64 p.fails, .int .i64 p.state, .int .i64 p.till, .int .i64 p.retry, .int .i64 p.reset, .int .i64 p.flying, .int .i64 p.known, .bool p.all, .bool p.none, .slice p.ra p.rl p.rc, .int .i64 p.delay], .agg #[.bool r.all, .bool r.none, .slice r.ra r.rl r.rc, .int .i64 r.delay], .int .i64 now] w fun e w' => e = .returned (.agg #[.int .i64 p.last, .int .i64 (max p.gap L), .int .i64 p.exp, .int .i64 p.fails, .int .i64 p.state, .int .i64 p.till, .int .i64 p.retry, .int .i64 p.reset, .int .i64 p.flying, .int .i64 K, .bool r.all, .bool r.none, .slice r.ra r.rl r.rc, .int .i64 r.delay]) ∧ Below w.heap.size w w' := by
  have HK := Lib.hid hK
  have HL := Lib.hid hL
  clear hK hL
  have z0 := (((Box.new w #[.int .i64 c.hosts, .int .i64 c.perHost, .int .i64 c.memory, .int .i64 c.segs, .int .i64 c.floor, .int .i64 c.cap, .int .i64 c.base, .int .i64 c.most, .int .i64 c.brk, .int .i64 c.opn, .int .i64 c.rate, .int .i64 c.burst, .int .i64 c.keep, .string c.agent] 24).alloc (.cells #[.int .i64 p.last, .int .i64 p.gap, .int .i64 p.exp, .int .i64 p.fails, .int .i64 p.state, .int .i64 p.till, .int .i64 p.retry, .int .i64 p.reset, .int .i64 p.flying, .int .i64 p.known, .bool p.all, .bool p.none, .slice p.ra p.rl p.rc, .int .i64 p.delay] 29)).alloc (.cells #[.bool r.all, .bool r.none, .slice r.ra r.rl r.rc, .int .i64 r.delay] 27)).alloc (.cells #[.int .i64 0, .int .i64 0, .int .i64 0, .int .i64 0, .int .i64 0, .int .i64 0, .int .i64 0, .int .i64 0, .int .i64 0, .int .i64 0, .bool false, .bool false, .slice .none 0 0, .int .i64 0] 29)
  have x0 := ((Box.new (w.alloc (.cells #[.int .i64 c.hosts, .int .i64 c.perHost, .int .i64 c.memory, .int .i64 c.segs, .int .i64 c.floor, .int .i64 c.cap, .int .i64 c.base, .int .i64 c.most, .int .i64 c.brk, .int .i64 c.opn, .int .i64 c.rate, .int .i64 c.burst, .int .i64 c.keep, .string c.agent] 24)) #[.int .i64 p.last, .int .i64 p.gap, .int .i64 p.exp, .int .i64 p.fails, .int .i64 p.state, .int .i64 p.till, .int .i64 p.retry, .int .i64 p.reset, .int .i64 p.flying, .int .i64 p.known, .bool p.all, .bool p.none, .slice p.ra p.rl p.rc, .int .i64 p.delay] 29).alloc (.cells #[.bool r.all, .bool r.none, .slice r.ra r.rl r.rc, .int .i64 r.delay] 27)).alloc (.cells #[.int .i64 0, .int .i64 0, .int .i64 0, .int .i64 0, .int .i64 0, .int .i64 0, .int .i64 0, .int .i64 0, .int .i64 0, .int .i64 0, .bool false, .bool false, .slice .none 0 0, .int .i64 0] 29)
  have v0 := (Box.new ((w.alloc (.cells #[.int .i64 c.hosts, .int .i64 c.perHost, .int .i64 c.memory, .int .i64 c.segs, .int .i64 c.floor, .int .i64 c.cap, .int .i64 c.base, .int .i64 c.most, .int .i64 c.brk, .int .i64 c.opn, .int .i64 c.rate, .int .i64 c.burst, .int .i64 c.keep, .string c.agent] 24)).alloc (.cells #[.int .i64 p.last, .int .i64 p.gap, .int .i64 p.exp, .int .i64 p.fails, .int .i64 p.state, .int .i64 p.till, .int .i64 p.retry, .int .i64 p.reset, .int .i64 p.flying, .int .i64 p.known, .bool p.all, .bool p.none, .slice p.ra p.rl p.rc, .int .i64 p.delay] 29)) #[.bool r.all, .bool r.none, .slice r.ra r.rl r.rc, .int .i64 r.delay] 27).alloc (.cells #[.int .i64 0, .int .i64 0, .int .i64 0, .int .i64 0, .int .i64 0, .int .i64 0, .int .i64 0, .int .i64 0, .int .i64 0, .int .i64 0, .bool false, .bool false, .slice .none 0 0, .int .i64 0] 29)
  have y0 := Box.new (((w.alloc (.cells #[.int .i64 c.hosts, .int .i64 c.perHost, .int .i64 c.memory, .int .i64 c.segs, .int .i64 c.floor, .int .i64 c.cap, .int .i64 c.base, .int .i64 c.most, .int .i64 c.brk, .int .i64 c.opn, .int .i64 c.rate, .int .i64 c.burst, .int .i64 c.keep, .string c.agent] 24)).alloc (.cells #[.int .i64 p.last, .int .i64 p.gap, .int .i64 p.exp, .int .i64 p.fails, .int .i64 p.state, .int .i64 p.till, .int .i64 p.retry, .int .i64 p.reset, .int .i64 p.flying, .int .i64 p.known, .bool p.all, .bool p.none, .slice p.ra p.rl p.rc, .int .i64 p.delay] 29)).alloc (.cells #[.bool r.all, .bool r.none, .slice r.ra r.rl r.rc, .int .i64 r.delay] 27)) #[.int .i64 0, .int .i64 0, .int .i64 0, .int .i64 0, .int .i64 0, .int .i64 0, .int .i64 0, .int .i64 0, .int .i64 0, .int .i64 0, .bool false, .bool false, .slice .none 0 0, .int .i64 0] 29
  have B0 := ((((Below.refl w.heap.size w).alloc (Nat.le_refl _) (.cells #[.int .i64 c.hosts, .int .i64 c.perHost, .int .i64 c.memory, .int .i64 c.segs, .int .i64 c.floor, .int .i64 c.cap, .int .i64 c.base, .int .i64 c.most, .int .i64 c.brk, .int .i64 c.opn, .int .i64 c.rate, .int .i64 c.burst, .int .i64 c.keep, .string c.agent] 24)).alloc (by simp) (.cells #[.int .i64 p.last, .int .i64 p.gap, .int .i64 p.exp, .int .i64 p.fails, .int .i64 p.state, .int .i64 p.till, .int .i64 p.retry, .int .i64 p.reset, .int .i64 p.flying, .int .i64 p.known, .bool p.all, .bool p.none, .slice p.ra p.rl p.rc, .int .i64 p.delay] 29)).alloc (by simp; omega) (.cells #[.bool r.all, .bool r.none, .slice r.ra r.rl r.rc, .int .i64 r.delay] 27)).alloc (by simp; omega) (.cells #[.int .i64 0, .int .i64 0, .int .i64 0, .int .i64 0, .int .i64 0, .int .i64 0, .int .i64 0, .int .i64 0, .int .i64 0, .int .i64 0, .bool false, .bool false, .slice .none 0 0, .int .i64 0] 29)
  rw [World.size_alloc] at x0
  rw [World.size_alloc, World.size_alloc] at v0
  rw [World.size_alloc, World.size_alloc, World.size_alloc] at y0
  go_enter Try.func7, Try.ntmps7
  go_upto_region 1 with fail
  generalize (((w.alloc (.cells #[.int .i64 c.hosts, .int .i64 c.perHost, .int .i64 c.memory, .int .i64 c.segs, .int .i64 c.floor, .int .i64 c.cap, .int .i64 c.base, .int .i64 c.most, .int .i64 c.brk, .int .i64 c.opn, .int .i64 c.rate, .int .i64 c.burst, .int .i64 c.keep, .string c.agent] 24)).alloc (.cells #[.int .i64 p.last, .int .i64 p.gap, .int .i64 p.exp, .int .i64 p.fails, .int .i64 p.state, .int .i64 p.till, .int .i64 p.retry, .int .i64 p.reset, .int .i64 p.flying, .int .i64 p.known, .bool p.all, .bool p.none, .slice p.ra p.rl p.rc, .int .i64 p.delay] 29)).alloc (.cells #[.bool r.all, .bool r.none, .slice r.ra r.rl r.rc, .int .i64 r.delay] 27)).alloc (.cells #[.int .i64 0, .int .i64 0, .int .i64 0, .int .i64 0, .int .i64 0, .int .i64 0, .int .i64 0, .int .i64 0, .int .i64 0, .int .i64 0, .bool false, .bool false, .slice .none 0 0, .int .i64 0] 29) = wz at *
  obtain ⟨lz, cz, fz⟩ := z0.facts
  obtain ⟨lx, cx, fx⟩ := x0.facts
  obtain ⟨lv, cv, fv⟩ := v0.facts
  go_upto_region 3 with (go_at_call 17; refine (add_as _ _ K HK.out _).mono ?_; rintro e w' ⟨rfl, rfl⟩)
  have x1 := (((((x0.set 10 (.bool r.all)).set 11 (.bool r.none)).set 12 (.slice r.ra r.rl r.rc)).set 13 (.int .i64 r.delay)).set 9 (.int .i64 K))
  simp only [List.setIfInBounds_toArray, List.set_cons_succ, List.set_cons_zero] at x1
  refine code_forget (fun wx => Below w.heap.size w wx ∧ Box wx (w.heap.size) #[.int .i64 c.hosts, .int .i64 c.perHost, .int .i64 c.memory, .int .i64 c.segs, .int .i64 c.floor, .int .i64 c.cap, .int .i64 c.base, .int .i64 c.most, .int .i64 c.brk, .int .i64 c.opn, .int .i64 c.rate, .int .i64 c.burst, .int .i64 c.keep, .string c.agent] 24 ∧ Box wx (w.heap.size + 1) #[.int .i64 p.last, .int .i64 p.gap, .int .i64 p.exp, .int .i64 p.fails, .int .i64 p.state, .int .i64 p.till, .int .i64 p.retry, .int .i64 p.reset, .int .i64 p.flying, .int .i64 K, .bool r.all, .bool r.none, .slice r.ra r.rl r.rc, .int .i64 r.delay] 29 ∧ Box wx (w.heap.size + 1 + 1) #[.bool r.all, .bool r.none, .slice r.ra r.rl r.rc, .int .i64 r.delay] 27 ∧ Box wx (w.heap.size + 1 + 1 + 1) #[.int .i64 0, .int .i64 0, .int .i64 0, .int .i64 0, .int .i64 0, .int .i64 0, .int .i64 0, .int .i64 0, .int .i64 0, .int .i64 0, .bool false, .bool false, .slice .none 0 0, .int .i64 0] 29) ⟨(((((B0.setCell (p := ⟨w.heap.size + 1, 10, none⟩) (by simp) (.bool r.all)).setCell (p := ⟨w.heap.size + 1, 11, none⟩) (by simp) (.bool r.none)).setCell (p := ⟨w.heap.size + 1, 12, none⟩) (by simp) (.slice r.ra r.rl r.rc)).setCell (p := ⟨w.heap.size + 1, 13, none⟩) (by simp) (.int .i64 r.delay)).setCell (p := ⟨w.heap.size + 1, 9, none⟩) (by simp) (.int .i64 K)), (((((z0.other (a := ⟨w.heap.size + 1, 10, none⟩) (by dsimp only; omega) (.bool r.all)).other (a := ⟨w.heap.size + 1, 11, none⟩) (by dsimp only; omega) (.bool r.none)).other (a := ⟨w.heap.size + 1, 12, none⟩) (by dsimp only; omega) (.slice r.ra r.rl r.rc)).other (a := ⟨w.heap.size + 1, 13, none⟩) (by dsimp only; omega) (.int .i64 r.delay)).other (a := ⟨w.heap.size + 1, 9, none⟩) (by dsimp only; omega) (.int .i64 K)), x1, (((((v0.other (a := ⟨w.heap.size + 1, 10, none⟩) (by dsimp only; omega) (.bool r.all)).other (a := ⟨w.heap.size + 1, 11, none⟩) (by dsimp only; omega) (.bool r.none)).other (a := ⟨w.heap.size + 1, 12, none⟩) (by dsimp only; omega) (.slice r.ra r.rl r.rc)).other (a := ⟨w.heap.size + 1, 13, none⟩) (by dsimp only; omega) (.int .i64 r.delay)).other (a := ⟨w.heap.size + 1, 9, none⟩) (by dsimp only; omega) (.int .i64 K)), (((((y0.other (a := ⟨w.heap.size + 1, 10, none⟩) (by dsimp only; omega) (.bool r.all)).other (a := ⟨w.heap.size + 1, 11, none⟩) (by dsimp only; omega) (.bool r.none)).other (a := ⟨w.heap.size + 1, 12, none⟩) (by dsimp only; omega) (.slice r.ra r.rl r.rc)).other (a := ⟨w.heap.size + 1, 13, none⟩) (by dsimp only; omega) (.int .i64 r.delay)).other (a := ⟨w.heap.size + 1, 9, none⟩) (by dsimp only; omega) (.int .i64 K))⟩ ?_
  rintro w3 ⟨B3, z3, x3, v3, y3⟩
  clear lz cz fz lx cx fx lv cv fv
  clear z0 x0 v0 y0 B0 x1
  go_cut [] (fun wx => Below w.heap.size w wx ∧ Box wx (w.heap.size) #[.int .i64 c.hosts, .int .i64 c.perHost, .int .i64 c.memory, .int .i64 c.segs, .int .i64 c.floor, .int .i64 c.cap, .int .i64 c.base, .int .i64 c.most, .int .i64 c.brk, .int .i64 c.opn, .int .i64 c.rate, .int .i64 c.burst, .int .i64 c.keep, .string c.agent] 24 ∧ Box wx (w.heap.size + 1) #[.int .i64 p.last, .int .i64 (max p.gap L), .int .i64 p.exp, .int .i64 p.fails, .int .i64 p.state, .int .i64 p.till, .int .i64 p.retry, .int .i64 p.reset, .int .i64 p.flying, .int .i64 K, .bool r.all, .bool r.none, .slice r.ra r.rl r.rc, .int .i64 r.delay] 29 ∧ Box wx (w.heap.size + 1 + 1) #[.bool r.all, .bool r.none, .slice r.ra r.rl r.rc, .int .i64 r.delay] 27 ∧ Box wx (w.heap.size + 1 + 1 + 1) #[.int .i64 0, .int .i64 0, .int .i64 0, .int .i64 0, .int .i64 0, .int .i64 0, .int .i64 0, .int .i64 0, .int .i64 0, .int .i64 0, .bool false, .bool false, .slice .none 0 0, .int .i64 0] 29)
  case first =>
    by_cases hj : p.gap < L
    · have HG := Lib.hid (show max p.gap L = L by omega)
      refine wp_region_last 7 (fun w' => Below w.heap.size w w' ∧ Box w' (w.heap.size) #[.int .i64 c.hosts, .int .i64 c.perHost, .int .i64 c.memory, .int .i64 c.segs, .int .i64 c.floor, .int .i64 c.cap, .int .i64 c.base, .int .i64 c.most, .int .i64 c.brk, .int .i64 c.opn, .int .i64 c.rate, .int .i64 c.burst, .int .i64 c.keep, .string c.agent] 24 ∧ Box w' (w.heap.size + 1) #[.int .i64 p.last, .int .i64 p.gap, .int .i64 p.exp, .int .i64 p.fails, .int .i64 p.state, .int .i64 p.till, .int .i64 p.retry, .int .i64 p.reset, .int .i64 p.flying, .int .i64 K, .bool r.all, .bool r.none, .slice r.ra r.rl r.rc, .int .i64 r.delay] 29 ∧ Box w' (w.heap.size + 1 + 1) #[.bool r.all, .bool r.none, .slice r.ra r.rl r.rc, .int .i64 r.delay] 27 ∧ Box w' (w.heap.size + 1 + 1 + 1) #[.int .i64 0, .int .i64 0, .int .i64 0, .int .i64 0, .int .i64 0, .int .i64 0, .int .i64 0, .int .i64 0, .int .i64 0, .int .i64 0, .bool false, .bool false, .slice .none 0 0, .int .i64 0] 29) (by kernel_rfl) (⟨B3.drew, z3.drew, x3.drew, v3.drew, y3.drew⟩) (fun hHeld hClosed => ?_)
      refine wpAnyL_take (i := 0) (v := ?_) rfl (by kernel_rfl) (by kernel_rfl) (by kernel_rfl) (by kernel_rfl) (fun _ _ _ h => h) (by kernel_rfl) (by assumption) (Or.inl ⟨by rfl, ?_⟩) (by assumption) (fun hClosed => ?_)
      rotate_left
      · intro wv hSw; go_simp; all_goals (with_reducible rfl)
      (try simp only [put_at, List.set])
      refine wpAnyL_take (i := 1) (v := ?_) rfl (by kernel_rfl) (by kernel_rfl) (by kernel_rfl) (by kernel_rfl) (fun _ _ _ h => h) (by kernel_rfl) (by assumption) (Or.inl ⟨by rfl, ?_⟩) (by assumption) (fun hClosed => ?_)
      rotate_left
      · intro wv hSw; obtain ⟨_, hz, hx, _⟩ := hSw; have cz := hz.cell; have cx := hx.cell; go_simp; all_goals (with_reducible rfl)
      (try simp only [put_at, List.set])
      refine wpAnyL_take (i := 2) (v := ?_) rfl (by kernel_rfl) (by kernel_rfl) (by kernel_rfl) (by kernel_rfl) (fun _ _ _ h => h) (by kernel_rfl) (by assumption) (Or.inl ⟨by rfl, ?_⟩) (by assumption) (fun hClosed => ?_)
      rotate_left
      · intro wv hSw; obtain ⟨_, hz, hx, _⟩ := hSw; have cz := hz.cell; have cx := hx.cell; go_simp; all_goals (with_reducible rfl)
      (try simp only [put_at, List.set])
      refine wpAnyL_take (i := 3) (v := ?_) rfl (by kernel_rfl) (by kernel_rfl) (by kernel_rfl) (by kernel_rfl) (fun _ _ _ h => h) (by kernel_rfl) (by assumption) (Or.inl ⟨by rfl, ?_⟩) (by assumption) (fun hClosed => ?_)
      rotate_left
      · intro wv hSw; obtain ⟨_, hz, hx, _⟩ := hSw; have cz := hz.cell; have cx := hx.cell; go_simp; all_goals (with_reducible rfl)
      (try simp only [put_at, List.set])
      refine wpAnyL_one (i := 4) rfl (by kernel_rfl) (by kernel_rfl) (by assumption) (fun KK hK => ?_)
      go_simp
      refine (min_as c { p with all := r.all, none := r.none, ra := r.ra, rl := r.rl, rc := r.rc, delay := r.delay, known := K } L HL.out _).mono ?_
      rintro e w' ⟨rfl, hb⟩
      go_wp2_with fail
      refine hK.out _ _ ?_ (fun hClosed hHeld => ?_)
      · exact ⟨hHeld.1.trans (hb.mono hHeld.1.size), hHeld.2.1.later hb, hHeld.2.2.1.later hb, hHeld.2.2.2.1.later hb, hHeld.2.2.2.2.later hb⟩
      clear hK KK
      (try simp only [put_at, List.set])
      refine wpAnyL_one (i := 5) rfl (by kernel_rfl) (by kernel_rfl) (by assumption) (fun KK hK => ?_)
      go_simp
      refine hK.out _ _ ?_ (fun hClosed hHeld => ?_)
      · assumption
      clear hK KK
      (try simp only [put_at, List.set])
      refine wpAnyL_take (i := 6) (v := ?_) rfl (by kernel_rfl) (by kernel_rfl) (by kernel_rfl) (by kernel_rfl) (fun _ _ _ h => h) (by kernel_rfl) (by assumption) (Or.inl ⟨by rfl, ?_⟩) (by assumption) (fun hClosed => ?_)
      rotate_left
      · intro wv hSw; go_simp; all_goals (with_reducible rfl)
      (try simp only [put_at, List.set])
      refine wpAnyL_last rfl (by kernel_rfl) (by kernel_rfl) (fun KK hK => ?_)
      obtain ⟨l1, c1, f1⟩ := hHeld.2.2.1.facts
      go_simp
      refine hK.out _ _ ?_
      (try simp only [put_at, List.set])
      go_wp2_with fail
      go_meet
      rw [HG.out]
      exact ⟨hHeld.1.setCell (p := ⟨w.heap.size + 1, 1, none⟩) (by simp) _, hHeld.2.1.other (a := ⟨w.heap.size + 1, 1, none⟩) (by dsimp only; omega) _, (by have := hHeld.2.2.1.set 1 (.int .i64 L); simp only [List.setIfInBounds_toArray, List.set_cons_succ, List.set_cons_zero] at this; exact this), hHeld.2.2.2.1.other (a := ⟨w.heap.size + 1, 1, none⟩) (by dsimp only; omega) _, hHeld.2.2.2.2.other (a := ⟨w.heap.size + 1, 1, none⟩) (by dsimp only; omega) _⟩
    · have HG := Lib.hid (show max p.gap L = p.gap by omega)
      refine wp_region_last 7 (fun w' => Below w.heap.size w w' ∧ Box w' (w.heap.size) #[.int .i64 c.hosts, .int .i64 c.perHost, .int .i64 c.memory, .int .i64 c.segs, .int .i64 c.floor, .int .i64 c.cap, .int .i64 c.base, .int .i64 c.most, .int .i64 c.brk, .int .i64 c.opn, .int .i64 c.rate, .int .i64 c.burst, .int .i64 c.keep, .string c.agent] 24 ∧ Box w' (w.heap.size + 1) #[.int .i64 p.last, .int .i64 p.gap, .int .i64 p.exp, .int .i64 p.fails, .int .i64 p.state, .int .i64 p.till, .int .i64 p.retry, .int .i64 p.reset, .int .i64 p.flying, .int .i64 K, .bool r.all, .bool r.none, .slice r.ra r.rl r.rc, .int .i64 r.delay] 29 ∧ Box w' (w.heap.size + 1 + 1) #[.bool r.all, .bool r.none, .slice r.ra r.rl r.rc, .int .i64 r.delay] 27 ∧ Box w' (w.heap.size + 1 + 1 + 1) #[.int .i64 0, .int .i64 0, .int .i64 0, .int .i64 0, .int .i64 0, .int .i64 0, .int .i64 0, .int .i64 0, .int .i64 0, .int .i64 0, .bool false, .bool false, .slice .none 0 0, .int .i64 0] 29) (by kernel_rfl) (⟨B3.drew, z3.drew, x3.drew, v3.drew, y3.drew⟩) (fun hHeld hClosed => ?_)
      refine wpAnyL_take (i := 0) (v := ?_) rfl (by kernel_rfl) (by kernel_rfl) (by kernel_rfl) (by kernel_rfl) (fun _ _ _ h => h) (by kernel_rfl) (by assumption) (Or.inl ⟨by rfl, ?_⟩) (by assumption) (fun hClosed => ?_)
      rotate_left
      · intro wv hSw; go_simp; all_goals (with_reducible rfl)
      (try simp only [put_at, List.set])
      refine wpAnyL_take (i := 1) (v := ?_) rfl (by kernel_rfl) (by kernel_rfl) (by kernel_rfl) (by kernel_rfl) (fun _ _ _ h => h) (by kernel_rfl) (by assumption) (Or.inl ⟨by rfl, ?_⟩) (by assumption) (fun hClosed => ?_)
      rotate_left
      · intro wv hSw; obtain ⟨_, hz, hx, _⟩ := hSw; have cz := hz.cell; have cx := hx.cell; go_simp; all_goals (with_reducible rfl)
      (try simp only [put_at, List.set])
      refine wpAnyL_take (i := 2) (v := ?_) rfl (by kernel_rfl) (by kernel_rfl) (by kernel_rfl) (by kernel_rfl) (fun _ _ _ h => h) (by kernel_rfl) (by assumption) (Or.inl ⟨by rfl, ?_⟩) (by assumption) (fun hClosed => ?_)
      rotate_left
      · intro wv hSw; obtain ⟨_, hz, hx, _⟩ := hSw; have cz := hz.cell; have cx := hx.cell; go_simp; all_goals (with_reducible rfl)
      (try simp only [put_at, List.set])
      refine wpAnyL_take (i := 3) (v := ?_) rfl (by kernel_rfl) (by kernel_rfl) (by kernel_rfl) (by kernel_rfl) (fun _ _ _ h => h) (by kernel_rfl) (by assumption) (Or.inl ⟨by rfl, ?_⟩) (by assumption) (fun hClosed => ?_)
      rotate_left
      · intro wv hSw; obtain ⟨_, hz, hx, _⟩ := hSw; have cz := hz.cell; have cx := hx.cell; go_simp; all_goals (with_reducible rfl)
      (try simp only [put_at, List.set])
      refine wpAnyL_one (i := 4) rfl (by kernel_rfl) (by kernel_rfl) (by assumption) (fun KK hK => ?_)
      go_simp
      refine (min_as c { p with all := r.all, none := r.none, ra := r.ra, rl := r.rl, rc := r.rc, delay := r.delay, known := K } L HL.out _).mono ?_
      rintro e w' ⟨rfl, hb⟩
      go_wp2_with fail
      refine hK.out _ _ ?_ (fun hClosed hHeld => ?_)
      · exact ⟨hHeld.1.trans (hb.mono hHeld.1.size), hHeld.2.1.later hb, hHeld.2.2.1.later hb, hHeld.2.2.2.1.later hb, hHeld.2.2.2.2.later hb⟩
      clear hK KK
      (try simp only [put_at, List.set])
      refine wpAnyL_one (i := 5) rfl (by kernel_rfl) (by kernel_rfl) (by assumption) (fun KK hK => ?_)
      go_simp
      refine hK.out _ _ ?_ (fun hClosed hHeld => ?_)
      · assumption
      clear hK KK
      (try simp only [put_at, List.set])
      refine wpAnyL_take (i := 6) (v := ?_) rfl (by kernel_rfl) (by kernel_rfl) (by kernel_rfl) (by kernel_rfl) (fun _ _ _ h => h) (by kernel_rfl) (by assumption) (Or.inl ⟨by rfl, ?_⟩) (by assumption) (fun hClosed => ?_)
      rotate_left
      · intro wv hSw; go_simp; all_goals (with_reducible rfl)
      (try simp only [put_at, List.set])
      refine wpAnyL_last rfl (by kernel_rfl) (by kernel_rfl) (fun KK hK => ?_)
      obtain ⟨l1, c1, f1⟩ := hHeld.2.2.1.facts
      go_simp
      refine hK.out _ _ ?_
      (try simp only [put_at, List.set])
      go_wp2_with fail
      go_meet
      rw [HG.out]
      exact ⟨hHeld.1.setCell (p := ⟨w.heap.size + 1, 1, none⟩) (by simp) _, hHeld.2.1.other (a := ⟨w.heap.size + 1, 1, none⟩) (by dsimp only; omega) _, (by have := hHeld.2.2.1.set 1 (.int .i64 p.gap); simp only [List.setIfInBounds_toArray, List.set_cons_succ, List.set_cons_zero] at this; exact this), hHeld.2.2.2.1.other (a := ⟨w.heap.size + 1, 1, none⟩) (by dsimp only; omega) _, hHeld.2.2.2.2.other (a := ⟨w.heap.size + 1, 1, none⟩) (by dsimp only; omega) _⟩
  case rest =>
    obtain ⟨B4, z4, x4, v4, y4⟩ := hcut
    clear B3 z3 x3 v3 y3
    obtain ⟨lx, cx, fx⟩ := x4.facts
    obtain ⟨ly, cy, fy⟩ := y4.facts
    have HG : Hid (max p.gap L = max p.gap L) := Lib.hid rfl
    go_wp2_with fail
    exact bodyPost_ret (v := .agg #[.int .i64 p.last, .int .i64 (max p.gap L), .int .i64 p.exp, .int .i64 p.fails, .int .i64 p.state, .int .i64 p.till, .int .i64 p.retry, .int .i64 p.reset, .int .i64 p.flying, .int .i64 K, .bool r.all, .bool r.none, .slice r.ra r.rl r.rc, .int .i64 r.delay]) (by simp [results, Try.results7, go_sem, cy]) rfl ⟨rfl, below14 B4 (by omega) _ _ _ _ _ _ _ _ _ _ _ _ _ _⟩

end Go.Proofs.Ytonfbkffngplcaa
