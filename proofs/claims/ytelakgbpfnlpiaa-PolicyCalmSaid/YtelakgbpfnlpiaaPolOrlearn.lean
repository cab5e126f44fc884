/- Rules that are learnt. -/
import Derived.Test.YtelakgbpfnlpiaaPolG
import Derived.Test.YtelakgbpfnlpiaaLast
namespace Go.Proofs.Ytelakgbpfnlpiaa
open Go.RowKit

set_option maxRecDepth 100000 in
set_option maxHeartbeats 40000000 in
theorem rlearn_as (c : Cfg) (p : Pol) (r : Rob) (now K L : Int) (hK : addI now c.keep = K) (hL : least3 c.floor r.delay = L) (w : World) : Calls Try.prog 28 #[.agg #[.int .i64 c.hosts, .int .i64 c.perHost, .int .i64 c.memory, .int .i64 c.segs, .int .i64 c.floor, .int .i64 c.cap, .int .i64 c.base, .int .i64 c.most, .int .i64 c.brk, .int .i64 c.opn, .int .i64 c.rate, .int .i64 c.burst, .int .i64 c.keep, .string c.agent], .agg #[.int .i64 p.last, .int .i64 p.gap, .int .i64 p.exp, .int .i64 p.fails, .int .i64 p.state, .int .i64 p.till, .int .i64 p.retry, .int .i64 p.reset, .int .i64 p.flying, .int .i64 p.known, .bool p.all, .bool p.none, .slice p.ra p.rl p.rc, .int .i64 p.delay], .agg #[.bool r.all, .bool r.none, .slice r.ra r.rl r.rc, .int .i64 r.delay], .int .i64 now] w fun e w' => e = .returned (.agg #[.int .i64 p.last, .int .i64 (max p.gap L), .int .i64 p.exp, .int .i64 p.fails, .int .i64 p.state, .int .i64 p.till, .int .i64 p.retry, .int .i64 p.reset, .int .i64 p.flying, .int .i64 K, .bool r.all, .bool r.none, .slice r.ra r.rl r.rc, .int .i64 r.delay]) ∧ Below w.heap.size w w' := by
  have HK := Lib.hid hK
  have HL := Lib.hid hL
  clear hK hL
  have z0 := (((Box.new w #[.int .i64 c.hosts, .int .i64 c.perHost, .int .i64 c.memory, .int .i64 c.segs, .int .i64 c.floor, .int .i64 c.cap, .int .i64 c.base, .int .i64 c.most, .int .i64 c.brk, .int .i64 c.opn, .int .i64 c.rate, .int .i64 c.burst, .int .i64 c.keep, .string c.agent] 23).alloc (.cells #[.int .i64 p.last, .int .i64 p.gap, .int .i64 p.exp, .int .i64 p.fails, .int .i64 p.state, .int .i64 p.till, .int .i64 p.retry, .int .i64 p.reset, .int .i64 p.flying, .int .i64 p.known, .bool p.all, .bool p.none, .slice p.ra p.rl p.rc, .int .i64 p.delay] 28)).alloc (.cells #[.bool r.all, .bool r.none, .slice r.ra r.rl r.rc, .int .i64 r.delay] 26)).alloc (.cells #[.int .i64 0, .int .i64 0, .int .i64 0, .int .i64 0, .int .i64 0, .int .i64 0, .int .i64 0, .int .i64 0, .int .i64 0, .int .i64 0, .bool false, .bool false, .slice .none 0 0, .int .i64 0] 28)
  have x0 := ((Box.new (w.alloc (.cells #[.int .i64 c.hosts, .int .i64 c.perHost, .int .i64 c.memory, .int .i64 c.segs, .int .i64 c.floor, .int .i64 c.cap, .int .i64 c.base, .int .i64 c.most, .int .i64 c.brk, .int .i64 c.opn, .int .i64 c.rate, .int .i64 c.burst, .int .i64 c.keep, .string c.agent] 23)) #[.int .i64 p.last, .int .i64 p.gap, .int .i64 p.exp, .int .i64 p.fails, .int .i64 p.state, .int .i64 p.till, .int .i64 p.retry, .int .i64 p.reset, .int .i64 p.flying, .int .i64 p.known, .bool p.all, .bool p.none, .slice p.ra p.rl p.rc, .int .i64 p.delay] 28).alloc (.cells #[.bool r.all, .bool r.none, .slice r.ra r.rl r.rc, .int .i64 r.delay] 26)).alloc (.cells #[.int .i64 0, .int .i64 0, .int .i64 0, .int .i64 0, .int .i64 0, .int .i64 0, .int .i64 0, .int .i64 0, .int .i64 0, .int .i64 0, .bool false, .bool false, .slice .none 0 0, .int .i64 0] 28)
  have v0 := (Box.new ((w.alloc (.cells #[.int .i64 c.hosts, .int .i64 c.perHost, .int .i64 c.memory, .int .i64 c.segs, .int .i64 c.floor, .int .i64 c.cap, .int .i64 c.base, .int .i64 c.most, .int .i64 c.brk, .int .i64 c.opn, .int .i64 c.rate, .int .i64 c.burst, .int .i64 c.keep, .string c.agent] 23)).alloc (.cells #[.int .i64 p.last, .int .i64 p.gap, .int .i64 p.exp, .int .i64 p.fails, .int .i64 p.state, .int .i64 p.till, .int .i64 p.retry, .int .i64 p.reset, .int .i64 p.flying, .int .i64 p.known, .bool p.all, .bool p.none, .slice p.ra p.rl p.rc, .int .i64 p.delay] 28)) #[.bool r.all, .bool r.none, .slice r.ra r.rl r.rc, .int .i64 r.delay] 26).alloc (.cells #[.int .i64 0, .int .i64 0, .int .i64 0, .int .i64 0, .int .i64 0, .int .i64 0, .int .i64 0, .int .i64 0, .int .i64 0, .int .i64 0, .bool false, .bool false, .slice .none 0 0, .int .i64 0] 28)
  have y0 := Box.new (((w.alloc (.cells #[.int .i64 c.hosts, .int .i64 c.perHost, .int .i64 c.memory, .int .i64 c.segs, .int .i64 c.floor, .int .i64 c.cap, .int .i64 c.base, .int .i64 c.most, .int .i64 c.brk, .int .i64 c.opn, .int .i64 c.rate, .int .i64 c.burst, .int .i64 c.keep, .string c.agent] 23)).alloc (.cells #[.int .i64 p.last, .int .i64 p.gap, .int .i64 p.exp, .int .i64 p.fails, .int .i64 p.state, .int .i64 p.till, .int .i64 p.retry, .int .i64 p.reset, .int .i64 p.flying, .int .i64 p.known, .bool p.all, .bool p.none, .slice p.ra p.rl p.rc, .int .i64 p.delay] 28)).alloc (.cells #[.bool r.all, .bool r.none, .slice r.ra r.rl r.rc, .int .i64 r.delay] 26)) #[.int .i64 0, .int .i64 0, .int .i64 0, .int .i64 0, .int .i64 0, .int .i64 0, .int .i64 0, .int .i64 0, .int .i64 0, .int .i64 0, .bool false, .bool false, .slice .none 0 0, .int .i64 0] 28
  have B0 := ((((Below.refl w.heap.size w).alloc (Nat.le_refl _) (.cells #[.int .i64 c.hosts, .int .i64 c.perHost, .int .i64 c.memory, .int .i64 c.segs, .int .i64 c.floor, .int .i64 c.cap, .int .i64 c.base, .int .i64 c.most, .int .i64 c.brk, .int .i64 c.opn, .int .i64 c.rate, .int .i64 c.burst, .int .i64 c.keep, .string c.agent] 23)).alloc (by simp) (.cells #[.int .i64 p.last, .int .i64 p.gap, .int .i64 p.exp, .int .i64 p.fails, .int .i64 p.state, .int .i64 p.till, .int .i64 p.retry, .int .i64 p.reset, .int .i64 p.flying, .int .i64 p.known, .bool p.all, .bool p.none, .slice p.ra p.rl p.rc, .int .i64 p.delay] 28)).alloc (by simp; omega) (.cells #[.bool r.all, .bool r.none, .slice r.ra r.rl r.rc, .int .i64 r.delay] 26)).alloc (by simp; omega) (.cells #[.int .i64 0, .int .i64 0, .int .i64 0, .int .i64 0, .int .i64 0, .int .i64 0, .int .i64 0, .int .i64 0, .int .i64 0, .int .i64 0, .bool false, .bool false, .slice .none 0 0, .int .i64 0] 28)
  rw [World.size_alloc] at x0
  rw [World.size_alloc, World.size_alloc] at v0
  rw [World.size_alloc, World.size_alloc, World.size_alloc] at y0
  go_enter Try.func28, Try.ntmps28
  go_upto_region 1 with fail
  generalize (((w.alloc (.cells #[.int .i64 c.hosts, .int .i64 c.perHost, .int .i64 c.memory, .int .i64 c.segs, .int .i64 c.floor, .int .i64 c.cap, .int .i64 c.base, .int .i64 c.most, .int .i64 c.brk, .int .i64 c.opn, .int .i64 c.rate, .int .i64 c.burst, .int .i64 c.keep, .string c.agent] 23)).alloc (.cells #[.int .i64 p.last, .int .i64 p.gap, .int .i64 p.exp, .int .i64 p.fails, .int .i64 p.state, .int .i64 p.till, .int .i64 p.retry, .int .i64 p.reset, .int .i64 p.flying, .int .i64 p.known, .bool p.all, .bool p.none, .slice p.ra p.rl p.rc, .int .i64 p.delay] 28)).alloc (.cells #[.bool r.all, .bool r.none, .slice r.ra r.rl r.rc, .int .i64 r.delay] 26)).alloc (.cells #[.int .i64 0, .int .i64 0, .int .i64 0, .int .i64 0, .int .i64 0, .int .i64 0, .int .i64 0, .int .i64 0, .int .i64 0, .int .i64 0, .bool false, .bool false, .slice .none 0 0, .int .i64 0] 28) = wz at *
  go_cut [] (fun wx => Below w.heap.size w wx ∧ Box wx (w.heap.size) #[.int .i64 c.hosts, .int .i64 c.perHost, .int .i64 c.memory, .int .i64 c.segs, .int .i64 c.floor, .int .i64 c.cap, .int .i64 c.base, .int .i64 c.most, .int .i64 c.brk, .int .i64 c.opn, .int .i64 c.rate, .int .i64 c.burst, .int .i64 c.keep, .string c.agent] 23 ∧ Box wx (w.heap.size + 1) #[.int .i64 p.last, .int .i64 p.gap, .int .i64 p.exp, .int .i64 p.fails, .int .i64 p.state, .int .i64 p.till, .int .i64 p.retry, .int .i64 p.reset, .int .i64 p.flying, .int .i64 K, .bool r.all, .bool r.none, .slice r.ra r.rl r.rc, .int .i64 r.delay] 28 ∧ Box wx (w.heap.size + 1 + 1) #[.bool r.all, .bool r.none, .slice r.ra r.rl r.rc, .int .i64 r.delay] 26 ∧ Box wx (w.heap.size + 1 + 1 + 1) #[.int .i64 0, .int .i64 0, .int .i64 0, .int .i64 0, .int .i64 0, .int .i64 0, .int .i64 0, .int .i64 0, .int .i64 0, .int .i64 0, .bool false, .bool false, .slice .none 0 0, .int .i64 0] 28)
  case first =>
    refine wp_region_last 8 (fun w' => Below w.heap.size w w' ∧ Box w' (w.heap.size) #[.int .i64 c.hosts, .int .i64 c.perHost, .int .i64 c.memory, .int .i64 c.segs, .int .i64 c.floor, .int .i64 c.cap, .int .i64 c.base, .int .i64 c.most, .int .i64 c.brk, .int .i64 c.opn, .int .i64 c.rate, .int .i64 c.burst, .int .i64 c.keep, .string c.agent] 23 ∧ Box w' (w.heap.size + 1 + 1) #[.bool r.all, .bool r.none, .slice r.ra r.rl r.rc, .int .i64 r.delay] 26 ∧ Box w' (w.heap.size + 1 + 1 + 1) #[.int .i64 0, .int .i64 0, .int .i64 0, .int .i64 0, .int .i64 0, .int .i64 0, .int .i64 0, .int .i64 0, .int .i64 0, .int .i64 0, .bool false, .bool false, .slice .none 0 0, .int .i64 0] 28) (by kernel_rfl) (⟨B0.drew, z0.drew, v0.drew, y0.drew⟩) (fun hHeld hClosed => ?_)
    refine wpAnyL_take (i := 0) (v := ?_) rfl (by kernel_rfl) (by kernel_rfl) (by kernel_rfl) (by kernel_rfl) (fun _ _ _ h => h) (by kernel_rfl) (by assumption) (Or.inl ⟨by rfl, ?_⟩) (by assumption) (fun hClosed => ?_)
    rotate_left
    · intro wv hSw; obtain ⟨_, hz, hv, _⟩ := hSw; have cz := hz.cell; have cv := hv.cell; go_simp; all_goals (with_reducible rfl)
    (try simp only [put_at, List.set])
    refine wpAnyL_take (i := 1) (v := ?_) rfl (by kernel_rfl) (by kernel_rfl) (by kernel_rfl) (by kernel_rfl) (fun _ _ _ h => h) (by kernel_rfl) (by assumption) (Or.inl ⟨by rfl, ?_⟩) (by assumption) (fun hClosed => ?_)
    rotate_left
    · intro wv hSw; go_simp; all_goals (with_reducible rfl)
    (try simp only [put_at, List.set])
    refine wpAnyL_take (i := 2) (v := ?_) rfl (by kernel_rfl) (by kernel_rfl) (by kernel_rfl) (by kernel_rfl) (fun _ _ _ h => h) (by kernel_rfl) (by assumption) (Or.inl ⟨by rfl, ?_⟩) (by assumption) (fun hClosed => ?_)
    rotate_left
    · intro wv hSw; go_simp; all_goals (with_reducible rfl)
    (try simp only [put_at, List.set])
    refine wpAnyL_take (i := 3) (v := ?_) rfl (by kernel_rfl) (by kernel_rfl) (by kernel_rfl) (by kernel_rfl) (fun _ _ _ h => h) (by kernel_rfl) (by assumption) (Or.inl ⟨by rfl, ?_⟩) (by assumption) (fun hClosed => ?_)
    rotate_left
    · intro wv hSw; obtain ⟨_, hz, hv, _⟩ := hSw; have cz := hz.cell; have cv := hv.cell; go_simp; all_goals (with_reducible rfl)
    (try simp only [put_at, List.set])
    refine wpAnyL_take (i := 5) (v := ?_) rfl (by kernel_rfl) (by kernel_rfl) (by kernel_rfl) (by kernel_rfl) (fun _ _ _ h => h) (by kernel_rfl) (by assumption) (Or.inl ⟨by rfl, ?_⟩) (by assumption) (fun hClosed => ?_)
    rotate_left
    · intro wv hSw; go_simp; all_goals (with_reducible rfl)
    (try simp only [put_at, List.set])
    refine wpAnyL_one (i := 4) rfl (by kernel_rfl) (by kernel_rfl) (by assumption) (fun KK hK => ?_)
    go_simp
    refine (radd_as _ _ K HK.out _).mono ?_
    rintro e w' ⟨rfl, rfl⟩
    go_wp2_with fail
    refine hK.out _ _ ?_ (fun hClosed hHeld => ?_)
    · exact hHeld
    clear hK KK
    (try simp only [put_at, List.set])
    refine wpAnyL_one (i := 6) rfl (by kernel_rfl) (by kernel_rfl) (by assumption) (fun KK hK => ?_)
    obtain ⟨lx, cx, fx⟩ := x0.facts
    go_simp
    refine hK.out _ _ ?_ (fun hClosed hHeld => ?_)
    · exact ⟨((((B0.setCell (p := ⟨w.heap.size + 1, 10, none⟩) (by simp) (.bool r.all)).setCell (p := ⟨w.heap.size + 1, 11, none⟩) (by simp) (.bool r.none)).setCell (p := ⟨w.heap.size + 1, 12, none⟩) (by simp) (.slice r.ra r.rl r.rc)).setCell (p := ⟨w.heap.size + 1, 13, none⟩) (by simp) (.int .i64 r.delay)).drew, ((((z0.other (a := ⟨w.heap.size + 1, 10, none⟩) (by dsimp only; omega) (.bool r.all)).other (a := ⟨w.heap.size + 1, 11, none⟩) (by dsimp only; omega) (.bool r.none)).other (a := ⟨w.heap.size + 1, 12, none⟩) (by dsimp only; omega) (.slice r.ra r.rl r.rc)).other (a := ⟨w.heap.size + 1, 13, none⟩) (by dsimp only; omega) (.int .i64 r.delay)).drew, ((((v0.other (a := ⟨w.heap.size + 1, 10, none⟩) (by dsimp only; omega) (.bool r.all)).other (a := ⟨w.heap.size + 1, 11, none⟩) (by dsimp only; omega) (.bool r.none)).other (a := ⟨w.heap.size + 1, 12, none⟩) (by dsimp only; omega) (.slice r.ra r.rl r.rc)).other (a := ⟨w.heap.size + 1, 13, none⟩) (by dsimp only; omega) (.int .i64 r.delay)).drew, ((((y0.other (a := ⟨w.heap.size + 1, 10, none⟩) (by dsimp only; omega) (.bool r.all)).other (a := ⟨w.heap.size + 1, 11, none⟩) (by dsimp only; omega) (.bool r.none)).other (a := ⟨w.heap.size + 1, 12, none⟩) (by dsimp only; omega) (.slice r.ra r.rl r.rc)).other (a := ⟨w.heap.size + 1, 13, none⟩) (by dsimp only; omega) (.int .i64 r.delay)).drew⟩
    clear hK KK
    (try simp only [put_at, List.set])
    have x5 := ((((x0.set 10 (.bool r.all)).set 11 (.bool r.none)).set 12 (.slice r.ra r.rl r.rc)).set 13 (.int .i64 r.delay)).drew
    simp only [List.setIfInBounds_toArray, List.set_cons_succ, List.set_cons_zero] at x5
    refine last_forget (fun w' => (Below w.heap.size w w' ∧ Box w' (w.heap.size) #[.int .i64 c.hosts, .int .i64 c.perHost, .int .i64 c.memory, .int .i64 c.segs, .int .i64 c.floor, .int .i64 c.cap, .int .i64 c.base, .int .i64 c.most, .int .i64 c.brk, .int .i64 c.opn, .int .i64 c.rate, .int .i64 c.burst, .int .i64 c.keep, .string c.agent] 23 ∧ Box w' (w.heap.size + 1 + 1) #[.bool r.all, .bool r.none, .slice r.ra r.rl r.rc, .int .i64 r.delay] 26 ∧ Box w' (w.heap.size + 1 + 1 + 1) #[.int .i64 0, .int .i64 0, .int .i64 0, .int .i64 0, .int .i64 0, .int .i64 0, .int .i64 0, .int .i64 0, .int .i64 0, .int .i64 0, .bool false, .bool false, .slice .none 0 0, .int .i64 0] 28) ∧ Box w' (w.heap.size + 1) #[.int .i64 p.last, .int .i64 p.gap, .int .i64 p.exp, .int .i64 p.fails, .int .i64 p.state, .int .i64 p.till, .int .i64 p.retry, .int .i64 p.reset, .int .i64 p.flying, .int .i64 p.known, .bool r.all, .bool r.none, .slice r.ra r.rl r.rc, .int .i64 r.delay] 28) ⟨hHeld, x5⟩ ?_
    clear lx cx fx x5
    rintro w6 ⟨hHeld, x6⟩
    refine wpAnyL_take (i := 7) (v := ?_) rfl (by kernel_rfl) (by kernel_rfl) (by kernel_rfl) (by kernel_rfl) (fun _ _ _ h => h) (by kernel_rfl) (by assumption) (Or.inl ⟨by rfl, ?_⟩) (by assumption) (fun hClosed => ?_)
    rotate_left
    · intro wv hSw; go_simp; all_goals (with_reducible rfl)
    (try simp only [put_at, List.set])
    refine wpAnyL_last rfl (by kernel_rfl) (by kernel_rfl) (fun KK hK => ?_)
    obtain ⟨lx, cx, fx⟩ := x6.facts
    go_simp
    refine hK.out _ _ ?_
    (try simp only [put_at, List.set])
    go_wp2_with fail
    go_meet
    exact ⟨(hHeld.1.setCell (p := ⟨w.heap.size + 1, 9, none⟩) (by simp) (.int .i64 K)), (hHeld.2.1.other (a := ⟨w.heap.size + 1, 9, none⟩) (by dsimp only; omega) (.int .i64 K)), (by have := (x6.set 9 (.int .i64 K)); simp only [List.setIfInBounds_toArray, List.set_cons_succ, List.set_cons_zero] at this; exact this), (hHeld.2.2.1.other (a := ⟨w.heap.size + 1, 9, none⟩) (by dsimp only; omega) (.int .i64 K)), (hHeld.2.2.2.other (a := ⟨w.heap.size + 1, 9, none⟩) (by dsimp only; omega) (.int .i64 K))⟩
  case rest =>
    obtain ⟨B1, z1, x1, v1, y1⟩ := hcut
    clear B0 z0 x0 v0 y0
    obtain ⟨lz, cz, fz⟩ := z1.facts
    obtain ⟨lx, cx, fx⟩ := x1.facts
    go_wp2_with fail
    refine (rleast_as c { p with all := r.all, none := r.none, ra := r.ra, rl := r.rl, rc := r.rc, delay := r.delay, known := K } L HL.out _).mono ?_
    rintro e w2 ⟨rfl, hb⟩
    clear lz cz fz lx cx fx
    have z2 := z1.later hb
    have x2 := x1.later hb
    have v2 := v1.later hb
    have y2 := y1.later hb
    have B2 := B1.trans (hb.mono B1.size)
    clear z1 x1 v1 y1 B1 hb
    obtain ⟨lx, cx, fx⟩ := x2.facts
    obtain ⟨ly, cy, fy⟩ := y2.facts
    by_cases hj : p.gap < L
    · have HG := Lib.hid (show max p.gap L = L by omega)
      go_wp2_with fail
      exact bodyPost_ret (v := .agg #[.int .i64 p.last, .int .i64 L, .int .i64 p.exp, .int .i64 p.fails, .int .i64 p.state, .int .i64 p.till, .int .i64 p.retry, .int .i64 p.reset, .int .i64 p.flying, .int .i64 K, .bool r.all, .bool r.none, .slice r.ra r.rl r.rc, .int .i64 r.delay]) (by simp [results, Try.results28, go_sem, cy]) rfl ⟨by rw [HG.out], below14 (B2.setCell (p := ⟨w.heap.size + 1, 1, none⟩) (by simp) (.int .i64 L)) (by omega) _ _ _ _ _ _ _ _ _ _ _ _ _ _⟩
    · have HG := Lib.hid (show max p.gap L = p.gap by omega)
      go_wp2_with fail
      exact bodyPost_ret (v := .agg #[.int .i64 p.last, .int .i64 p.gap, .int .i64 p.exp, .int .i64 p.fails, .int .i64 p.state, .int .i64 p.till, .int .i64 p.retry, .int .i64 p.reset, .int .i64 p.flying, .int .i64 K, .bool r.all, .bool r.none, .slice r.ra r.rl r.rc, .int .i64 r.delay]) (by simp [results, Try.results28, go_sem, cy]) rfl ⟨by rw [HG.out], below14 B2 (by omega) _ _ _ _ _ _ _ _ _ _ _ _ _ _⟩

end Go.Proofs.Ytelakgbpfnlpiaa
