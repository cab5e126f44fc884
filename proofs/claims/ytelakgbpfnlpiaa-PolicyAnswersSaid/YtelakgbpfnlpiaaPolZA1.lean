/- PolicyAnswers, walked. -/
import Derived.Test.YtelakgbpfnlpiaaPolV
import Derived.Test.YtelakgbpfnlpiaaRow
namespace Go.Proofs.Ytelakgbpfnlpiaa
open Go.RowKit

set_option maxRecDepth 100000 in
set_option maxHeartbeats 40000000 in
theorem policyAnswers_bad (c : Cfg) (p : Pol) (f : Fb) (now draw : Int) (w : World) (hp : (-9223372036854775808 ≤ p.flying ∧ p.flying ≤ 9223372036854775807) ∧ (∃ L a', IsRules w a' p.rl p.rc L ∧ (a' = p.ra ∨ p.rc = 0))) (hcl : f.cls = 3 ∨ f.cls = 4) : Calls Try.prog 5 #[.agg #[.int .i64 c.hosts, .int .i64 c.perHost, .int .i64 c.memory, .int .i64 c.segs, .int .i64 c.floor, .int .i64 c.cap, .int .i64 c.base, .int .i64 c.most, .int .i64 c.brk, .int .i64 c.opn, .int .i64 c.rate, .int .i64 c.burst, .int .i64 c.keep, .string c.agent], .agg #[.int .i64 p.last, .int .i64 p.gap, .int .i64 p.exp, .int .i64 p.fails, .int .i64 p.state, .int .i64 p.till, .int .i64 p.retry, .int .i64 p.reset, .int .i64 p.flying, .int .i64 p.known, .bool p.all, .bool p.none, .slice p.ra p.rl p.rc, .int .i64 p.delay], .agg #[.int .i64 f.cls, .int .i64 f.retry, .int .i64 f.reset], .int .i64 now, .int .i64 draw] w fun e w' => e = .returned (.bool true) ∧ Below w.heap.size w w' := by
  obtain ⟨hfl, L, a', hr, ha⟩ := hp
  have HR0 := Lib.hid (And.intro hr ha)
  clear hr ha
  have b0 := ((Box.new (w) #[.int .i64 c.hosts, .int .i64 c.perHost, .int .i64 c.memory, .int .i64 c.segs, .int .i64 c.floor, .int .i64 c.cap, .int .i64 c.base, .int .i64 c.most, .int .i64 c.brk, .int .i64 c.opn, .int .i64 c.rate, .int .i64 c.burst, .int .i64 c.keep, .string c.agent] 23).alloc (.cells #[.int .i64 p.last, .int .i64 p.gap, .int .i64 p.exp, .int .i64 p.fails, .int .i64 p.state, .int .i64 p.till, .int .i64 p.retry, .int .i64 p.reset, .int .i64 p.flying, .int .i64 p.known, .bool p.all, .bool p.none, .slice p.ra p.rl p.rc, .int .i64 p.delay] 28)).alloc (.cells #[.int .i64 f.cls, .int .i64 f.retry, .int .i64 f.reset] 39)
  have b1 := (Box.new ((w).alloc (.cells #[.int .i64 c.hosts, .int .i64 c.perHost, .int .i64 c.memory, .int .i64 c.segs, .int .i64 c.floor, .int .i64 c.cap, .int .i64 c.base, .int .i64 c.most, .int .i64 c.brk, .int .i64 c.opn, .int .i64 c.rate, .int .i64 c.burst, .int .i64 c.keep, .string c.agent] 23)) #[.int .i64 p.last, .int .i64 p.gap, .int .i64 p.exp, .int .i64 p.fails, .int .i64 p.state, .int .i64 p.till, .int .i64 p.retry, .int .i64 p.reset, .int .i64 p.flying, .int .i64 p.known, .bool p.all, .bool p.none, .slice p.ra p.rl p.rc, .int .i64 p.delay] 28).alloc (.cells #[.int .i64 f.cls, .int .i64 f.retry, .int .i64 f.reset] 39)
  have b2 := Box.new (((w).alloc (.cells #[.int .i64 c.hosts, .int .i64 c.perHost, .int .i64 c.memory, .int .i64 c.segs, .int .i64 c.floor, .int .i64 c.cap, .int .i64 c.base, .int .i64 c.most, .int .i64 c.brk, .int .i64 c.opn, .int .i64 c.rate, .int .i64 c.burst, .int .i64 c.keep, .string c.agent] 23)).alloc (.cells #[.int .i64 p.last, .int .i64 p.gap, .int .i64 p.exp, .int .i64 p.fails, .int .i64 p.state, .int .i64 p.till, .int .i64 p.retry, .int .i64 p.reset, .int .i64 p.flying, .int .i64 p.known, .bool p.all, .bool p.none, .slice p.ra p.rl p.rc, .int .i64 p.delay] 28)) #[.int .i64 f.cls, .int .i64 f.retry, .int .i64 f.reset] 39
  have B := (((Below.refl w.heap.size w).alloc (Nat.le_refl _) (.cells #[.int .i64 c.hosts, .int .i64 c.perHost, .int .i64 c.memory, .int .i64 c.segs, .int .i64 c.floor, .int .i64 c.cap, .int .i64 c.base, .int .i64 c.most, .int .i64 c.brk, .int .i64 c.opn, .int .i64 c.rate, .int .i64 c.burst, .int .i64 c.keep, .string c.agent] 23)).alloc (by simp) (.cells #[.int .i64 p.last, .int .i64 p.gap, .int .i64 p.exp, .int .i64 p.fails, .int .i64 p.state, .int .i64 p.till, .int .i64 p.retry, .int .i64 p.reset, .int .i64 p.flying, .int .i64 p.known, .bool p.all, .bool p.none, .slice p.ra p.rl p.rc, .int .i64 p.delay] 28)).alloc (by simp; omega) (.cells #[.int .i64 f.cls, .int .i64 f.retry, .int .i64 f.reset] 39)
  rw [World.size_alloc] at b1
  rw [World.size_alloc, World.size_alloc] at b2
  by_cases hl : p.rl ≤ 100
  · have dl : decide ((p.rl : Int) ≤ 100) = true := decide_eq_true (by omega)
    by_cases ht : p.flying < 4611686018427387904 ∧ -4611686018427387904 < p.flying
    · obtain ⟨ht1, ht2⟩ := ht
      have hf : p.flying ≤ 9223372036854775807 := by omega
      obtain ⟨S, hS⟩ : ∃ x, failS p.state p.fails c.brk = x := ⟨_, rfl⟩
      have HS := Lib.hid hS
      clear hS
      obtain ⟨F, hF⟩ : ∃ x, failF p.fails = x := ⟨_, rfl⟩
      have HF := Lib.hid hF
      clear hF
      obtain ⟨T, hT⟩ : ∃ x, failU p.state p.fails p.till now c.brk c.opn = x := ⟨_, rfl⟩
      have HT := Lib.hid hT
      clear hT
      obtain ⟨E, hE⟩ : ∃ x, upI p.exp = x := ⟨_, rfl⟩
      have HE := Lib.hid hE
      clear hE
      obtain ⟨M, hM⟩ : ∃ x, mostI c.base c.most E = x := ⟨_, rfl⟩
      have HM := Lib.hid hM
      clear hM
      obtain ⟨J, hJ⟩ : ∃ x, jitI M draw = x := ⟨_, rfl⟩
      have HJ := Lib.hid hJ
      clear hJ
      obtain ⟨D, hD⟩ : ∃ x, least3 c.floor p.delay = x := ⟨_, rfl⟩
      have HD := Lib.hid hD
      clear hD
      obtain ⟨G, hG⟩ : ∃ x, max D J = x := ⟨_, rfl⟩
      have HG := Lib.hid hG
      clear hG
      obtain ⟨N, hN⟩ : ∃ x, max p.flying 1 - 1 = x := ⟨_, rfl⟩
      have HN := Lib.hid hN
      clear hN
      obtain ⟨R, hR⟩ : ∃ x, max p.retry f.retry = x := ⟨_, rfl⟩
      have HR := Lib.hid hR
      clear hR
      obtain ⟨Q, hQ⟩ : ∃ x, max p.reset f.reset = x := ⟨_, rfl⟩
      have HQ := Lib.hid hQ
      clear hQ
      go_enter Try.func5, Try.ntmps5
      go_upto_region 1 with fail
      generalize (((w).alloc (.cells #[.int .i64 c.hosts, .int .i64 c.perHost, .int .i64 c.memory, .int .i64 c.segs, .int .i64 c.floor, .int .i64 c.cap, .int .i64 c.base, .int .i64 c.most, .int .i64 c.brk, .int .i64 c.opn, .int .i64 c.rate, .int .i64 c.burst, .int .i64 c.keep, .string c.agent] 23)).alloc (.cells #[.int .i64 p.last, .int .i64 p.gap, .int .i64 p.exp, .int .i64 p.fails, .int .i64 p.state, .int .i64 p.till, .int .i64 p.retry, .int .i64 p.reset, .int .i64 p.flying, .int .i64 p.known, .bool p.all, .bool p.none, .slice p.ra p.rl p.rc, .int .i64 p.delay] 28)).alloc (.cells #[.int .i64 f.cls, .int .i64 f.retry, .int .i64 f.reset] 39) = wz at *
      obtain ⟨l1, c1, f1⟩ := b1.facts
      go_wp2_with fail
      refine (light_as p true dl _).mono ?_
      rintro e w1 ⟨rfl, hb⟩
      clear l1 c1 f1
      have B' := B.trans (hb.mono B.size)
      clear B
      have B := B'
      clear B'
      have d0 := b0.later hb
      clear b0
      have b0 := d0
      clear d0
      have d1 := b1.later hb
      clear b1
      have b1 := d1
      clear d1
      have d2 := b2.later hb
      clear b2
      have b2 := d2
      clear d2
      clear hb
      obtain ⟨l1, c1, f1⟩ := b1.facts
      go_wp2_with fail
      refine (tame_yes p ht1 ht2 _).mono ?_
      rintro e w2 ⟨rfl, hb⟩
      clear l1 c1 f1
      have B' := B.trans (hb.mono B.size)
      clear B
      have B := B'
      clear B'
      have d0 := b0.later hb
      clear b0
      have b0 := d0
      clear d0
      have d1 := b1.later hb
      clear b1
      have b1 := d1
      clear d1
      have d2 := b2.later hb
      clear b2
      have b2 := d2
      clear d2
      clear hb
      go_upto_region 3 with fail
      generalize (Value.agg #[.int .i64 c.hosts, .int .i64 c.perHost, .int .i64 c.memory, .int .i64 c.segs, .int .i64 c.floor, .int .i64 c.cap, .int .i64 c.base, .int .i64 c.most, .int .i64 c.brk, .int .i64 c.opn, .int .i64 c.rate, .int .i64 c.burst, .int .i64 c.keep, .string c.agent]) = vc
      generalize (Value.agg #[.int .i64 p.last, .int .i64 p.gap, .int .i64 p.exp, .int .i64 p.fails, .int .i64 p.state, .int .i64 p.till, .int .i64 p.retry, .int .i64 p.reset, .int .i64 p.flying, .int .i64 p.known, .bool p.all, .bool p.none, .slice p.ra p.rl p.rc, .int .i64 p.delay]) = vp
      generalize (Value.agg #[.int .i64 f.cls, .int .i64 f.retry, .int .i64 f.reset]) = vx
      refine wp_region_last 29 (fun w' => Below w.heap.size w w' ∧ Box w' (w.heap.size) #[.int .i64 c.hosts, .int .i64 c.perHost, .int .i64 c.memory, .int .i64 c.segs, .int .i64 c.floor, .int .i64 c.cap, .int .i64 c.base, .int .i64 c.most, .int .i64 c.brk, .int .i64 c.opn, .int .i64 c.rate, .int .i64 c.burst, .int .i64 c.keep, .string c.agent] 23 ∧ Box w' (w.heap.size + 1) #[.int .i64 p.last, .int .i64 p.gap, .int .i64 p.exp, .int .i64 p.fails, .int .i64 p.state, .int .i64 p.till, .int .i64 p.retry, .int .i64 p.reset, .int .i64 p.flying, .int .i64 p.known, .bool p.all, .bool p.none, .slice p.ra p.rl p.rc, .int .i64 p.delay] 28 ∧ Box w' (w.heap.size + 1 + 1) #[.int .i64 f.cls, .int .i64 f.retry, .int .i64 f.reset] 39) (by kernel_rfl) (⟨B.drew, b0.drew, b1.drew, b2.drew⟩) (fun hHeld hClosed => ?_)
      clear B b0 b1 b2
      refine wpAnyL_one (i := 0) rfl (by kernel_rfl) (by kernel_rfl) hClosed (fun KK hK => ?_)
      go_simp
      refine (awake20 _).mono ?_
      rintro e w' ⟨rfl, hb⟩
      go_wp2_with fail
      refine hK.out _ _ ?_ (fun hClosed hHeld => ?_)
      · exact ⟨hHeld.1.trans (hb.mono hHeld.1.size), hHeld.2.1.later hb, hHeld.2.2.1.later hb, hHeld.2.2.2.later hb⟩
      clear hK KK
      (first | simp only [List.getElem_toArray, List.getElem_cons_zero, put_at, List.set] | (try simp only [put_at, List.set]))
      refine wpAnyL_take (i := 1) (v := ?_) rfl (by kernel_rfl) (by kernel_rfl) (by kernel_rfl) (by kernel_rfl) (fun _ _ _ h => h) (by kernel_rfl) hClosed (Or.inl ⟨by rfl, ?_⟩) hHeld (fun hClosed => ?_)
      rotate_left
      · intro wv hSw; go_simp; all_goals (with_reducible rfl)
      (try simp only [List.getElem_toArray, List.getElem_cons_succ, List.getElem_cons_zero, put_at, List.set])
      refine wpAnyL_take (i := 2) (v := cV c) rfl (by kernel_rfl) (by kernel_rfl) (by kernel_rfl) (by kernel_rfl) (fun _ _ _ h => h) (by kernel_rfl) hClosed (Or.inl ⟨by rfl, ?_⟩) hHeld (fun hClosed => ?_)
      · intro wv hSw; exact exec_load_box (by rfl) (by rfl) hSw.2.1 Try.underlying23 rfl (by kernel_rfl)
      (try simp only [List.getElem_toArray, List.getElem_cons_succ, List.getElem_cons_zero, put_at, List.set])
      refine wpAnyL_take (i := 3) (v := pV p) rfl (by kernel_rfl) (by kernel_rfl) (by kernel_rfl) (by kernel_rfl) (fun _ _ _ h => h) (by kernel_rfl) hClosed (Or.inl ⟨by rfl, ?_⟩) hHeld (fun hClosed => ?_)
      · intro wv hSw; exact exec_load_box (by rfl) (by rfl) hSw.2.2.1 Try.underlying28 rfl (by kernel_rfl)
      (try simp only [List.getElem_toArray, List.getElem_cons_succ, List.getElem_cons_zero, put_at, List.set])
      refine wpAnyL_take (i := 4) (v := fV f) rfl (by kernel_rfl) (by kernel_rfl) (by kernel_rfl) (by kernel_rfl) (fun _ _ _ h => h) (by kernel_rfl) hClosed (Or.inl ⟨by rfl, ?_⟩) hHeld (fun hClosed => ?_)
      · intro wv hSw; exact exec_load_box (by rfl) (by rfl) hSw.2.2.2 Try.underlying39 rfl (by kernel_rfl)
      (try simp only [List.getElem_toArray, List.getElem_cons_succ, List.getElem_cons_zero, put_at, List.set])
      refine wpAnyL_take (i := 5) (v := ?_) rfl (by kernel_rfl) (by kernel_rfl) (by kernel_rfl) (by kernel_rfl) (fun _ _ _ h => h) (by kernel_rfl) hClosed (Or.inl ⟨by rfl, ?_⟩) hHeld (fun hClosed => ?_)
      rotate_left
      · intro wv hSw; go_simp; all_goals (with_reducible rfl)
      (try simp only [List.getElem_toArray, List.getElem_cons_succ, List.getElem_cons_zero, put_at, List.set])
      refine wpAnyL_take (i := 6) (v := ?_) rfl (by kernel_rfl) (by kernel_rfl) (by kernel_rfl) (by kernel_rfl) (fun _ _ _ h => h) (by kernel_rfl) hClosed (Or.inl ⟨by rfl, ?_⟩) hHeld (fun hClosed => ?_)
      rotate_left
      · intro wv hSw; go_simp; all_goals (with_reducible rfl)
      (try simp only [List.getElem_toArray, List.getElem_cons_succ, List.getElem_cons_zero, put_at, List.set])
      refine wpAnyL_take (i := 8) (v := cV c) rfl (by kernel_rfl) (by kernel_rfl) (by kernel_rfl) (by kernel_rfl) (fun _ _ _ h => h) (by kernel_rfl) hClosed (Or.inl ⟨by rfl, ?_⟩) hHeld (fun hClosed => ?_)
      · intro wv hSw; exact exec_load_box (by rfl) (by rfl) hSw.2.1 Try.underlying23 rfl (by kernel_rfl)
      (try simp only [List.getElem_toArray, List.getElem_cons_succ, List.getElem_cons_zero, put_at, List.set])
      refine wpAnyL_take (i := 9) (v := pV p) rfl (by kernel_rfl) (by kernel_rfl) (by kernel_rfl) (by kernel_rfl) (fun _ _ _ h => h) (by kernel_rfl) hClosed (Or.inl ⟨by rfl, ?_⟩) hHeld (fun hClosed => ?_)
      · intro wv hSw; exact exec_load_box (by rfl) (by rfl) hSw.2.2.1 Try.underlying28 rfl (by kernel_rfl)
      (try simp only [List.getElem_toArray, List.getElem_cons_succ, List.getElem_cons_zero, put_at, List.set])
      refine wpAnyL_take (i := 10) (v := fV f) rfl (by kernel_rfl) (by kernel_rfl) (by kernel_rfl) (by kernel_rfl) (fun _ _ _ h => h) (by kernel_rfl) hClosed (Or.inl ⟨by rfl, ?_⟩) hHeld (fun hClosed => ?_)
      · intro wv hSw; exact exec_load_box (by rfl) (by rfl) hSw.2.2.2 Try.underlying39 rfl (by kernel_rfl)
      (try simp only [List.getElem_toArray, List.getElem_cons_succ, List.getElem_cons_zero, put_at, List.set])
      refine wpAnyL_take (i := 11) (v := ?_) rfl (by kernel_rfl) (by kernel_rfl) (by kernel_rfl) (by kernel_rfl) (fun _ _ _ h => h) (by kernel_rfl) hClosed (Or.inl ⟨by rfl, ?_⟩) hHeld (fun hClosed => ?_)
      rotate_left
      · intro wv hSw; go_simp; all_goals (with_reducible rfl)
      (try simp only [List.getElem_toArray, List.getElem_cons_succ, List.getElem_cons_zero, put_at, List.set])
      refine wpAnyL_take (i := 12) (v := ?_) rfl (by kernel_rfl) (by kernel_rfl) (by kernel_rfl) (by kernel_rfl) (fun _ _ _ h => h) (by kernel_rfl) hClosed (Or.inl ⟨by rfl, ?_⟩) hHeld (fun hClosed => ?_)
      rotate_left
      · intro wv hSw; go_simp; all_goals (with_reducible rfl)
      (try simp only [List.getElem_toArray, List.getElem_cons_succ, List.getElem_cons_zero, put_at, List.set])
      refine wpAnyL_one (i := 7) rfl (by kernel_rfl) (by kernel_rfl) hClosed (fun KK hK => ?_)
      go_simp
      refine (pbad_v c p f now draw S F T E M J D N R Q G hf HN.out HR.out HQ.out hcl HS.out HF.out HT.out HE.out HM.out HJ.out HD.out HG.out _).mono ?_
      rintro e w' ⟨rfl, hb⟩
      go_wp2_with fail
      refine hK.out _ _ ?_ (fun hClosed hHeld => ?_)
      · exact ⟨hHeld.1.trans (hb.mono hHeld.1.size), hHeld.2.1.later hb, hHeld.2.2.1.later hb, hHeld.2.2.2.later hb⟩
      clear hK KK
      (first | simp only [List.getElem_toArray, List.getElem_cons_succ, List.getElem_cons_zero, put_at, List.set] | (try simp only [put_at, List.set]))
      refine wpAnyL_one (i := 13) rfl (by kernel_rfl) (by kernel_rfl) hClosed (fun KK hK => ?_)
      go_simp
      refine (rbad_v c p f now draw S F T E M J D N R Q G hf HN.out HR.out HQ.out hcl HS.out HF.out HT.out HE.out HM.out HJ.out HD.out HG.out _).mono ?_
      rintro e w' ⟨rfl, hb⟩
      go_wp2_with fail
      refine hK.out _ _ ?_ (fun hClosed hHeld => ?_)
      · exact ⟨hHeld.1.trans (hb.mono hHeld.1.size), hHeld.2.1.later hb, hHeld.2.2.1.later hb, hHeld.2.2.2.later hb⟩
      clear hK KK
      (first | simp only [List.getElem_toArray, List.getElem_cons_succ, List.getElem_cons_zero, put_at, List.set] | (try simp only [put_at, List.set]))
      refine wpAnyL_one (i := 14) rfl (by kernel_rfl) (by kernel_rfl) hClosed (fun KK hK => ?_)
      go_simp
      refine (same_v { p with gap := G, exp := E, fails := F, state := S, till := T, retry := R, reset := Q, flying := N } a' L _ (HR0.out.1.later hHeld.1) HR0.out.2 hl).mono ?_
      rintro e w' ⟨rfl, hb⟩
      go_wp2_with fail
      refine hK.out _ _ ?_ (fun hClosed hHeld => ?_)
      · exact ⟨hHeld.1.trans (hb.mono hHeld.1.size), hHeld.2.1.later hb, hHeld.2.2.1.later hb, hHeld.2.2.2.later hb⟩
      clear hK KK
      (first | simp only [List.getElem_toArray, List.getElem_cons_succ, List.getElem_cons_zero, put_at, List.set] | (try simp only [put_at, List.set]))
      refine wpAnyL_take (i := 15) (v := ?_) rfl (by kernel_rfl) (by kernel_rfl) (by kernel_rfl) (by kernel_rfl) (fun _ _ _ h => h) (by kernel_rfl) hClosed (Or.inl ⟨by rfl, ?_⟩) hHeld (fun hClosed => ?_)
      rotate_left
      · intro wv hSw; go_simp; all_goals (with_reducible rfl)
      (try simp only [List.getElem_toArray, List.getElem_cons_succ, List.getElem_cons_zero, put_at, List.set])
      refine wpAnyL_take (i := 16) (v := ?_) rfl (by kernel_rfl) (by kernel_rfl) (by kernel_rfl) (by kernel_rfl) (fun _ _ _ h => h) (by kernel_rfl) hClosed (Or.inl ⟨by rfl, ?_⟩) hHeld (fun hClosed => ?_)
      rotate_left
      · intro wv hSw; go_simp; all_goals (with_reducible rfl)
      (try simp only [List.getElem_toArray, List.getElem_cons_succ, List.getElem_cons_zero, put_at, List.set])
      refine wpAnyL_take (i := 17) (v := cV c) rfl (by kernel_rfl) (by kernel_rfl) (by kernel_rfl) (by kernel_rfl) (fun _ _ _ h => h) (by kernel_rfl) hClosed (Or.inl ⟨by rfl, ?_⟩) hHeld (fun hClosed => ?_)
      · intro wv hSw; exact exec_load_box (by rfl) (by rfl) hSw.2.1 Try.underlying23 rfl (by kernel_rfl)
      (try simp only [List.getElem_toArray, List.getElem_cons_succ, List.getElem_cons_zero, put_at, List.set])
      refine wpAnyL_take (i := 18) (v := pV p) rfl (by kernel_rfl) (by kernel_rfl) (by kernel_rfl) (by kernel_rfl) (fun _ _ _ h => h) (by kernel_rfl) hClosed (Or.inl ⟨by rfl, ?_⟩) hHeld (fun hClosed => ?_)
      · intro wv hSw; exact exec_load_box (by rfl) (by rfl) hSw.2.2.1 Try.underlying28 rfl (by kernel_rfl)
      (try simp only [List.getElem_toArray, List.getElem_cons_succ, List.getElem_cons_zero, put_at, List.set])
      refine wpAnyL_take (i := 19) (v := ?_) rfl (by kernel_rfl) (by kernel_rfl) (by kernel_rfl) (by kernel_rfl) (fun _ _ _ h => h) (by kernel_rfl) hClosed (Or.inl ⟨by rfl, ?_⟩) hHeld (fun hClosed => ?_)
      rotate_left
      · intro wv hSw; go_simp; all_goals (with_reducible rfl)
      (try simp only [List.getElem_toArray, List.getElem_cons_succ, List.getElem_cons_zero, put_at, List.set])
      refine wpAnyL_take (i := 20) (v := ?_) rfl (by kernel_rfl) (by kernel_rfl) (by kernel_rfl) (by kernel_rfl) (fun _ _ _ h => h) (by kernel_rfl) hClosed (Or.inl ⟨by rfl, ?_⟩) hHeld (fun hClosed => ?_)
      rotate_left
      · intro wv hSw; go_simp; all_goals (with_reducible rfl)
      (try simp only [List.getElem_toArray, List.getElem_cons_succ, List.getElem_cons_zero, put_at, List.set])
      refine wpAnyL_take (i := 22) (v := cV c) rfl (by kernel_rfl) (by kernel_rfl) (by kernel_rfl) (by kernel_rfl) (fun _ _ _ h => h) (by kernel_rfl) hClosed (Or.inl ⟨by rfl, ?_⟩) hHeld (fun hClosed => ?_)
      · intro wv hSw; exact exec_load_box (by rfl) (by rfl) hSw.2.1 Try.underlying23 rfl (by kernel_rfl)
      (try simp only [List.getElem_toArray, List.getElem_cons_succ, List.getElem_cons_zero, put_at, List.set])
      refine wpAnyL_take (i := 23) (v := pV p) rfl (by kernel_rfl) (by kernel_rfl) (by kernel_rfl) (by kernel_rfl) (fun _ _ _ h => h) (by kernel_rfl) hClosed (Or.inl ⟨by rfl, ?_⟩) hHeld (fun hClosed => ?_)
      · intro wv hSw; exact exec_load_box (by rfl) (by rfl) hSw.2.2.1 Try.underlying28 rfl (by kernel_rfl)
      (try simp only [List.getElem_toArray, List.getElem_cons_succ, List.getElem_cons_zero, put_at, List.set])
      refine wpAnyL_take (i := 24) (v := ?_) rfl (by kernel_rfl) (by kernel_rfl) (by kernel_rfl) (by kernel_rfl) (fun _ _ _ h => h) (by kernel_rfl) hClosed (Or.inl ⟨by rfl, ?_⟩) hHeld (fun hClosed => ?_)
      rotate_left
      · intro wv hSw; go_simp; all_goals (with_reducible rfl)
      (try simp only [List.getElem_toArray, List.getElem_cons_succ, List.getElem_cons_zero, put_at, List.set])
      refine wpAnyL_take (i := 25) (v := ?_) rfl (by kernel_rfl) (by kernel_rfl) (by kernel_rfl) (by kernel_rfl) (fun _ _ _ h => h) (by kernel_rfl) hClosed (Or.inl ⟨by rfl, ?_⟩) hHeld (fun hClosed => ?_)
      rotate_left
      · intro wv hSw; go_simp; all_goals (with_reducible rfl)
      (try simp only [List.getElem_toArray, List.getElem_cons_succ, List.getElem_cons_zero, put_at, List.set])
      refine wpAnyL_one (i := 21) rfl (by kernel_rfl) (by kernel_rfl) hClosed (fun KK hK => ?_)
      go_simp
      refine (plost_v c p now draw S F T E M J D N G hf HN.out HS.out HF.out HT.out HE.out HM.out HJ.out HD.out HG.out _).mono ?_
      rintro e w' ⟨rfl, hb⟩
      go_wp2_with fail
      refine hK.out _ _ ?_ (fun hClosed hHeld => ?_)
      · exact ⟨hHeld.1.trans (hb.mono hHeld.1.size), hHeld.2.1.later hb, hHeld.2.2.1.later hb, hHeld.2.2.2.later hb⟩
      clear hK KK
      (first | simp only [List.getElem_toArray, List.getElem_cons_succ, List.getElem_cons_zero, put_at, List.set] | (try simp only [put_at, List.set]))
      refine wpAnyL_one (i := 26) rfl (by kernel_rfl) (by kernel_rfl) hClosed (fun KK hK => ?_)
      go_simp
      refine (rlost_v c p now draw S F T E M J D N G hf HN.out HS.out HF.out HT.out HE.out HM.out HJ.out HD.out HG.out _).mono ?_
      rintro e w' ⟨rfl, hb⟩
      go_wp2_with fail
      refine hK.out _ _ ?_ (fun hClosed hHeld => ?_)
      · exact ⟨hHeld.1.trans (hb.mono hHeld.1.size), hHeld.2.1.later hb, hHeld.2.2.1.later hb, hHeld.2.2.2.later hb⟩
      clear hK KK
      (first | simp only [List.getElem_toArray, List.getElem_cons_succ, List.getElem_cons_zero, put_at, List.set] | (try simp only [put_at, List.set]))
      refine wpAnyL_one (i := 27) rfl (by kernel_rfl) (by kernel_rfl) hClosed (fun KK hK => ?_)
      go_simp
      refine (same_v { p with gap := G, exp := E, fails := F, state := S, till := T, flying := N } a' L _ (HR0.out.1.later hHeld.1) HR0.out.2 hl).mono ?_
      rintro e w' ⟨rfl, hb⟩
      go_wp2_with fail
      refine hK.out _ _ ?_ (fun hClosed hHeld => ?_)
      · exact ⟨hHeld.1.trans (hb.mono hHeld.1.size), hHeld.2.1.later hb, hHeld.2.2.1.later hb, hHeld.2.2.2.later hb⟩
      clear hK KK
      (first | simp only [List.getElem_toArray, List.getElem_cons_succ, List.getElem_cons_zero, put_at, List.set] | (try simp only [put_at, List.set]))
      refine wpAnyL_take (i := 28) (v := ?_) rfl (by kernel_rfl) (by kernel_rfl) (by kernel_rfl) (by kernel_rfl) (fun _ _ _ h => h) (by kernel_rfl) hClosed (Or.inl ⟨by rfl, ?_⟩) hHeld (fun hClosed => ?_)
      rotate_left
      · intro wv hSw; go_simp; all_goals (with_reducible rfl)
      (try simp only [List.getElem_toArray, List.getElem_cons_succ, List.getElem_cons_zero, put_at, List.set])
      refine wpAnyL_last rfl (by kernel_rfl) (by kernel_rfl) (fun KK hK => ?_)
      go_simp
      refine hK.out _ _ ?_
      (try simp only [put_at, List.set])
      go_wp2_with fail
      go_ret
      exact ⟨rfl, hHeld.1⟩
    · go_enter Try.func5, Try.ntmps5
      go_upto_region 1 with fail
      generalize (((w).alloc (.cells #[.int .i64 c.hosts, .int .i64 c.perHost, .int .i64 c.memory, .int .i64 c.segs, .int .i64 c.floor, .int .i64 c.cap, .int .i64 c.base, .int .i64 c.most, .int .i64 c.brk, .int .i64 c.opn, .int .i64 c.rate, .int .i64 c.burst, .int .i64 c.keep, .string c.agent] 23)).alloc (.cells #[.int .i64 p.last, .int .i64 p.gap, .int .i64 p.exp, .int .i64 p.fails, .int .i64 p.state, .int .i64 p.till, .int .i64 p.retry, .int .i64 p.reset, .int .i64 p.flying, .int .i64 p.known, .bool p.all, .bool p.none, .slice p.ra p.rl p.rc, .int .i64 p.delay] 28)).alloc (.cells #[.int .i64 f.cls, .int .i64 f.retry, .int .i64 f.reset] 39) = wz at *
      obtain ⟨l1, c1, f1⟩ := b1.facts
      go_wp2_with fail
      refine (light_as p true dl _).mono ?_
      rintro e w1 ⟨rfl, hb⟩
      clear l1 c1 f1
      have B' := B.trans (hb.mono B.size)
      clear B
      have B := B'
      clear B'
      have d0 := b0.later hb
      clear b0
      have b0 := d0
      clear d0
      have d1 := b1.later hb
      clear b1
      have b1 := d1
      clear d1
      have d2 := b2.later hb
      clear b2
      have b2 := d2
      clear d2
      clear hb
      obtain ⟨l1, c1, f1⟩ := b1.facts
      go_wp2_with fail
      refine (tame_no p ht _).mono ?_
      rintro e w2 ⟨rfl, hb⟩
      clear l1 c1 f1
      have B' := B.trans (hb.mono B.size)
      clear B
      have B := B'
      clear B'
      have d0 := b0.later hb
      clear b0
      have b0 := d0
      clear d0
      have d1 := b1.later hb
      clear b1
      have b1 := d1
      clear d1
      have d2 := b2.later hb
      clear b2
      have b2 := d2
      clear d2
      clear hb
      go_wp2_with fail
      refine (awake20 _).mono ?_
      rintro e w9 ⟨rfl, hb⟩
      go_wp2_with fail
      go_ret
      exact ⟨rfl, B.trans (hb.mono B.size)⟩
  · have dl : decide ((p.rl : Int) ≤ 100) = false := decide_eq_false (by omega)
    go_enter Try.func5, Try.ntmps5
    go_upto_region 1 with fail
    generalize (((w).alloc (.cells #[.int .i64 c.hosts, .int .i64 c.perHost, .int .i64 c.memory, .int .i64 c.segs, .int .i64 c.floor, .int .i64 c.cap, .int .i64 c.base, .int .i64 c.most, .int .i64 c.brk, .int .i64 c.opn, .int .i64 c.rate, .int .i64 c.burst, .int .i64 c.keep, .string c.agent] 23)).alloc (.cells #[.int .i64 p.last, .int .i64 p.gap, .int .i64 p.exp, .int .i64 p.fails, .int .i64 p.state, .int .i64 p.till, .int .i64 p.retry, .int .i64 p.reset, .int .i64 p.flying, .int .i64 p.known, .bool p.all, .bool p.none, .slice p.ra p.rl p.rc, .int .i64 p.delay] 28)).alloc (.cells #[.int .i64 f.cls, .int .i64 f.retry, .int .i64 f.reset] 39) = wz at *
    obtain ⟨l1, c1, f1⟩ := b1.facts
    go_wp2_with fail
    refine (light_as p false dl _).mono ?_
    rintro e w1 ⟨rfl, hb⟩
    clear l1 c1 f1
    have B' := B.trans (hb.mono B.size)
    clear B
    have B := B'
    clear B'
    have d0 := b0.later hb
    clear b0
    have b0 := d0
    clear d0
    have d1 := b1.later hb
    clear b1
    have b1 := d1
    clear d1
    have d2 := b2.later hb
    clear b2
    have b2 := d2
    clear d2
    clear hb
    go_wp2_with fail
    refine (awake20 _).mono ?_
    rintro e w9 ⟨rfl, hb⟩
    go_wp2_with fail
    go_ret
    exact ⟨rfl, B.trans (hb.mono B.size)⟩
end Go.Proofs.Ytelakgbpfnlpiaa
