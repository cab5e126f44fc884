/- Whether no more went than a bucket lets. -/
import Derived.Test.YtelakgbpfnlpiaaAudGapsL
namespace Go.Proofs.Ytelakgbpfnlpiaa
open Go.RowKit Go.Maps Go.WideMaps

/-- From the n-th on those that went are within what is let. -/
def RateP (full rate t0 : Int) : Nat → List Ev → Prop
  | _, [] => True
  | n, x :: r => if wentE x = true then ¬ addI full (mulI rate (subI x.time t0)) < 1000 * ((n : Int) + 1) ∧ RateP full rate t0 (n + 1) r else RateP full rate t0 n r
theorem mul_small (n : Nat) (h : n < 100000) : mulI 1000 ((n : Int) + 1) = 1000 * ((n : Int) + 1) := by
  unfold mulI
  rw [clampI_id (a := 1000) (by omega) (by omega), clampI_id (a := (n : Int) + 1) (by omega) (by omega), clampI_id (by omega) (by omega)]
theorem mulI_comm (a b : Int) : mulI a b = mulI b a := by
  unfold mulI
  rw [Int.mul_comm]
theorem rateIn_iff (full rate t0 : Int) : ∀ (r : List Ev) (n : Nat), n + r.length < 100000 → (rateIn full rate t0 n (r.filter wentE) = true ↔ RateP full rate t0 n r)
  | [], n, _ => by simp [rateIn, RateP]
  | x :: r, n, hn => by
    simp at hn
    cases hw : wentE x with
    | false =>
      rw [List.filter_cons_of_neg (by rw [hw]; decide), rateIn_iff full rate t0 r n (by omega), RateP, if_neg (by rw [hw]; decide)]
    | true =>
      rw [List.filter_cons_of_pos hw, rateIn, RateP, if_pos hw, mul_small n (by omega)]
      by_cases hlt : addI full (mulI rate (subI x.time t0)) < 1000 * ((n : Int) + 1)
      · rw [if_pos hlt]
        exact ⟨fun h => (by cases h), fun h => absurd hlt h.1⟩
      · rw [if_neg hlt, rateIn_iff full rate t0 r (n + 1) (by omega)]
        exact ⟨fun h => ⟨hlt, h⟩, fun h => h.2⟩
def WantR (full rate : Int) (es : List Ev) (k : Nat) : Prop := ∀ i e, i < k → es[i]? = some e → wentE e = true → RateP full rate e.time 0 (es.drop i)
theorem rateL_iff (full rate : Int) : ∀ (es : List Ev), es.length < 1000 → (rateL full rate (es.filter wentE) = true ↔ WantR full rate es es.length)
  | [], _ => by simp [rateL, WantR]
  | e :: r, hl => by
    simp at hl
    have hcons : WantR full rate (e :: r) (e :: r).length ↔ (wentE e = true → RateP full rate e.time 0 (e :: r)) ∧ WantR full rate r r.length := by
      constructor
      · intro h
        refine ⟨fun hw => by simpa using h 0 e (by simp) (by simp) hw, fun i x hi hx hw => ?_⟩
        have := h (i + 1) x (by simp; omega) (by simpa using hx) hw
        simpa using this
      · rintro ⟨h1, h2⟩ i x hi hx hw
        cases i with
        | zero =>
          simp at hx
          subst hx
          simpa using h1 hw
        | succ i =>
          have := h2 i x (by simp at hi; omega) (by simpa using hx) hw
          simpa using this
    rw [hcons]
    cases hw : wentE e with
    | false =>
      rw [List.filter_cons_of_neg (by rw [hw]; decide), rateL_iff full rate r (by omega)]
      exact ⟨fun h => ⟨fun h => (by cases h), h⟩, fun h => h.2⟩
    | true =>
      have h1 := rateIn_iff full rate e.time (e :: r) 0 (by simp; omega)
      rw [List.filter_cons_of_pos hw] at h1 ⊢
      rw [rateL]
      by_cases hr : rateIn full rate e.time 0 (e :: r.filter wentE) = true
      · rw [if_pos hr, rateL_iff full rate r (by omega)]
        exact ⟨fun h => ⟨fun _ => h1.1 hr, h⟩, fun h => h.2⟩
      · rw [if_neg hr]
        exact ⟨fun h => (by cases h), fun h => absurd (h1.2 (h.1 rfl)) hr⟩
theorem wantR_step {full rate : Int} {es : List Ev} {k : Nat} {e : Ev} (he : es[k]? = some e) : WantR full rate es (k + 1) ↔ WantR full rate es k ∧ (wentE e = true → RateP full rate e.time 0 (es.drop k)) := by
  constructor
  · intro h
    exact ⟨fun i x hi => h i x (by omega), fun hw => h k e (by omega) he hw⟩
  · rintro ⟨h1, h2⟩ i x hi hx hw
    by_cases e1 : i = k
    · subst e1
      rw [he] at hx
      cases hx
      exact h2 hw
    · exact h1 i x (by omega) hx hw
theorem rates_is {es : List Ev} {full rate : Int} {b : Bool} (hl : es.length < 1000) (h : b = true ↔ WantR full rate es es.length) : rateL full rate (es.filter wentE) = b := by
  have h2 := rateL_iff full rate es hl
  cases b with
  | true => exact h2.2 (h.1 rfl)
  | false =>
    cases hv : rateL full rate (es.filter wentE) with
    | false => rfl
    | true => exact absurd (h.2 (h2.1 hv)) (by decide)
theorem rmul_as (a b v : Int) (h : mulI a b = v) (w : World) : Calls Try.prog 36 #[.int .i64 a, .int .i64 b] w fun e w' => e = .returned (.int .i64 v) ∧ w = w' := by
  subst h
  exact rmul_any a b w

set_option maxRecDepth 100000 in
set_option maxHeartbeats 4000000 in
theorem auditRates_walk (x : Option Addr × Nat × Nat) (rate burst : Int) (w : World) (hx : IsEvs w x) (_ : (Lit.int .i64 rate).wf = true) (_ : (Lit.int .i64 burst).wf = true) :
    Calls Try.prog 10 #[.slice x.1 x.2.1 x.2.2, .int .i64 rate, .int .i64 burst] w fun e w' => e = .returned (.bool true) ∧ Below w.heap.size w w' := by
  obtain ⟨a, len, cap⟩ := x
  obtain ⟨es0, hlen, hmax, hcap, hrd0, hok0⟩ := hx
  simp only at hlen hcap hrd0
  show Calls Try.prog 10 #[.slice a len cap, .int .i64 rate, .int .i64 burst] w _
  obtain ⟨es, hes⟩ : ∃ es, es0.take 60 = es := ⟨_, rfl⟩
  have HES := Lib.hid hes
  have hl60 : es.length ≤ 60 := by rw [← hes, List.length_take]; omega
  have HRD0 := Lib.hid hrd0
  have HRD := Lib.hid (show Rd w a es by rw [← hes]; exact hrd0.take 60)
  obtain ⟨full, hf⟩ : ∃ full, mulI 1000 burst = full := ⟨_, rfl⟩
  have HF := Lib.hid hf
  have HF2 := Lib.hid (show mulI burst 1000 = full by rw [mulI_comm]; exact hf)
  clear hes hrd0 hok0 hf
  go_enter Try.func10, Try.ntmps10
  go_wp2_with fail
  refine (cut_as es0 es HES.out a len cap hlen _ HRD0.out hmax (by omega)).mono ?_
  rintro e w0 ⟨rfl, rfl⟩
  clear HES HRD0 hlen hmax hcap
  go_wp2_with fail
  obtain ⟨b, off, ha, hc⟩ := HRD.out.row
  have HA := Lib.hid ha
  have HC := Lib.hid hc
  clear ha hc
  go_loopw [7, 8] (fun vo vk wx => ∃ (k : Nat) (ob : Bool), k ≤ es.length ∧ vk = .int .i64 k ∧ vo = .bool ob ∧ Hid (Below w0.heap.size w0 wx) ∧ Hid (ob = true ↔ WantR full rate es k)) (fun _ vk _ => es.length - (intOf vk).toNat)
  case atStart => exact ⟨0, true, by omega, rfl, rfl, Lib.hid (Below.refl _ _), Lib.hid ⟨fun _ i e hi => absurd hi (Nat.not_lt_zero i), fun _ => rfl⟩⟩
  case round =>
    obtain ⟨k, ob, hk, rfl, rfl, HB, HO⟩ := hrel
    by_cases hlt : k < es.length
    · have hd1 : decide ((k : Int) < es.length) = true := decide_eq_true (by omega)
      have ha := HA.out (by omega)
      subst ha
      obtain ⟨⟨kd, tm, id, ho, pa, pr, la⟩, he⟩ : ∃ e, es[k]? = some e := ⟨_, List.getElem?_eq_getElem hlt⟩
      have HE := Lib.hid he
      clear he
      obtain ⟨wv, hwv⟩ : ∃ v, wentE ⟨kd, tm, id, ho, pa, pr, la⟩ = v := ⟨_, rfl⟩
      have HWV := Lib.hid hwv
      clear hwv
      go_wp2_with fail
      go_loopw [7, 9, 10] (fun vo vn vm wx => ∃ (m n : Nat) (ob2 : Bool), k ≤ m ∧ m ≤ es.length ∧ n ≤ m ∧ vm = .int .i64 m ∧ vn = .int .i64 n ∧ vo = .bool ob2 ∧ Hid (Below w0.heap.size w0 wx) ∧ Hid (wv = false → ob2 = ob) ∧ Hid ((ob2 = true ∧ RateP full rate tm n (es.drop m)) ↔ (ob = true ∧ RateP full rate tm 0 (es.drop k)))) (fun _ _ vm _ => es.length - (intOf vm).toNat)
      case atStart => exact ⟨k, 0, ob, by omega, by omega, by omega, rfl, rfl, rfl, HB, Lib.hid (fun _ => rfl), Lib.hid Iff.rfl⟩
      case round =>
        clear HB
        obtain ⟨m, n, ob2, hm1, hm2, hnm, rfl, rfl, rfl, HB, HW, HN⟩ := hrel
        obtain ⟨c0, c1, c2, c3, c4, c5, c6⟩ := (RdB.later HC.out HB.out).at HE.out
        simp only at c0 c1 c2 c3 c4 c5 c6
        by_cases hml : m < es.length
        · have hd2 : decide ((m : Int) < es.length) = true := decide_eq_true (by omega)
          go_wp2_with fail
          refine (went_at kd tm id ho pa pr la wv HWV.out _).mono ?_
          rintro e w1 ⟨rfl, hb1⟩
          have HB1 := Lib.hid (HB.out.trans (hb1.mono HB.out.size))
          clear hb1 c0 c1 c2 c3 c4 c5 c6 HB
          cases wv with
          | false =>
            have HO2 := Lib.hid (show ob2 = true ↔ WantR full rate es (k + 1) by rw [wantR_step HE.out, HW.out rfl, HO.out]; exact ⟨fun h => ⟨h, fun hw => (by rw [HWV.out] at hw; cases hw)⟩, fun h => h.1⟩)
            go_wp2_with fail
            go_roundw
            case rel => exact ⟨k + 1, ob2, by omega, by go_num, rfl, HB1, HO2⟩
            case measure => simp [intOf]; omega
          | true =>
            obtain ⟨⟨kd2, tm2, id2, ho2, pa2, pr2, la2⟩, he2⟩ : ∃ e, es[m]? = some e := ⟨_, List.getElem?_eq_getElem hml⟩
            have HE2 := Lib.hid he2
            have hdr := drop_at he2
            have HDR := Lib.hid hdr
            clear he2 hdr
            obtain ⟨g0, g1, g2, g3, g4, g5, g6⟩ := (RdB.later HC.out HB1.out).at HE2.out
            simp only at g0 g1 g2 g3 g4 g5 g6
            obtain ⟨v2, hv2⟩ : ∃ v, wentE ⟨kd2, tm2, id2, ho2, pa2, pr2, la2⟩ = v := ⟨_, rfl⟩
            have HV2 := Lib.hid hv2
            clear hv2
            go_wp2_with fail
            refine (went_at kd2 tm2 id2 ho2 pa2 pr2 la2 v2 HV2.out _).mono ?_
            rintro e w2 ⟨rfl, hb2⟩
            have HB := Lib.hid (HB1.out.trans (hb2.mono HB1.out.size))
            clear hb2 g0 g1 g2 g3 g4 g5 g6 HB1
            cases v2 with
            | false =>
              have HN2 := Lib.hid (show (ob2 = true ∧ RateP full rate tm n (es.drop (m + 1))) ↔ (ob = true ∧ RateP full rate tm 0 (es.drop k)) by rw [← HN.out, HDR.out, RateP, if_neg (by rw [HV2.out]; decide)])
              go_wp2_with fail
              go_roundw
              case rel => exact ⟨m + 1, n, ob2, by omega, by omega, by omega, by go_num, rfl, rfl, HB, HW, HN2⟩
              case measure => simp [intOf]; omega
            | true =>
              go_wp2_with fail
              obtain ⟨q, hq⟩ : ∃ q, clampI tm = q := ⟨_, rfl⟩
              obtain ⟨s, hs⟩ : ∃ s, subI tm2 tm = s := ⟨_, rfl⟩
              obtain ⟨u, hu⟩ : ∃ u, mulI rate s = u := ⟨_, rfl⟩
              obtain ⟨y, hy⟩ : ∃ y, addI full u = y := ⟨_, rfl⟩
              have HN1 := Lib.hid (show (ob2 = true ∧ ¬ y < 1000 * ((n : Int) + 1) ∧ RateP full rate tm (n + 1) (es.drop (m + 1))) ↔ (ob = true ∧ RateP full rate tm 0 (es.drop k)) by rw [← HN.out, HDR.out, RateP, if_pos HV2.out, hs, hu, hy])
              have HQ := Lib.hid hq
              have HS := Lib.hid hs
              have HU := Lib.hid hu
              have HY := Lib.hid hy
              have HM := Lib.hid (show -clampI tm = -q by rw [hq])
              have q1 := clampI_lo tm
              have q2 := clampI_hi tm
              rw [hq] at q1 q2
              clear hq hs hu hy HN
              go_upto_region 12 with fail
              go_cut [11] (fun v wx => v = .int .i64 s ∧ Hid (Below w0.heap.size w0 wx))
              case first =>
                have hwq : IntKind.i64.wrap (-q) = -q := IntWalk.i64_in _ (by omega)
                refine wp_region_last 13 (fun w' => Below w0.heap.size w0 w' ∧ RdB w' b off es) (by kernel_rfl) (⟨HB.out.drew, RdB.later (RdB.later HC.out HB.out) ((Below.refl _ _).drew)⟩) (fun hHeld hClosed => ?_)
                refine wpAnyL_take (i := 0) (v := ?_) rfl (by kernel_rfl) (by kernel_rfl) (by kernel_rfl) (by kernel_rfl) (fun _ _ _ h => h) (by kernel_rfl) hClosed (Or.inl ⟨by rfl, ?_⟩) hHeld (fun hClosed => ?_)
                rotate_left
                · intro wv hSw; go_simp; all_goals (with_reducible rfl)
                (try simp only [List.getElem_toArray, List.getElem_cons_zero, put_at, List.set])
                refine wpAnyL_take (i := 1) (v := ?_) rfl (by kernel_rfl) (by kernel_rfl) (by kernel_rfl) (by kernel_rfl) (fun _ _ _ h => h) (by kernel_rfl) hClosed (Or.inl ⟨by rfl, ?_⟩) hHeld (fun hClosed => ?_)
                rotate_left
                · intro wv hSw; go_simp; all_goals (with_reducible rfl)
                (try simp only [List.getElem_toArray, List.getElem_cons_succ, List.getElem_cons_zero, put_at, List.set])
                refine wpAnyL_take (i := 2) (v := ?_) rfl (by kernel_rfl) (by kernel_rfl) (by kernel_rfl) (by kernel_rfl) (fun _ _ _ h => h) (by kernel_rfl) hClosed (Or.inl ⟨by rfl, ?_⟩) hHeld (fun hClosed => ?_)
                rotate_left
                · intro wv hSw; go_simp; all_goals (with_reducible rfl)
                (try simp only [List.getElem_toArray, List.getElem_cons_succ, List.getElem_cons_zero, put_at, List.set])
                refine wpAnyL_take (i := 3) (v := ?_) rfl (by kernel_rfl) (by kernel_rfl) (by kernel_rfl) (by kernel_rfl) (fun _ _ _ h => h) (by kernel_rfl) hClosed (Or.inl ⟨by rfl, ?_⟩) hHeld (fun hClosed => ?_)
                rotate_left
                · intro wv hSw; go_simp; all_goals (with_reducible rfl)
                (try simp only [List.getElem_toArray, List.getElem_cons_succ, List.getElem_cons_zero, put_at, List.set])
                refine wpAnyL_take (i := 4) (v := ?_) rfl (by kernel_rfl) (by kernel_rfl) (by kernel_rfl) (by kernel_rfl) (fun _ _ _ h => h) (by kernel_rfl) hClosed (Or.inl ⟨by rfl, ?_⟩) hHeld (fun hClosed => ?_)
                rotate_left
                · intro wv hSw; obtain ⟨g0, g1, g2, g3, g4, g5, g6⟩ := hSw.2.at HE2.out; obtain ⟨f0, f1, f2, f3, f4, f5, f6⟩ := hSw.2.at HE.out; simp only at g0 g1 g2 g3 g4 g5 g6 f0 f1 f2 f3 f4 f5 f6; go_simp; all_goals (with_reducible rfl)
                (try simp only [List.getElem_toArray, List.getElem_cons_succ, List.getElem_cons_zero, put_at, List.set])
                refine wpAnyL_take (i := 5) (v := ?_) rfl (by kernel_rfl) (by kernel_rfl) (by kernel_rfl) (by kernel_rfl) (fun _ _ _ h => h) (by kernel_rfl) hClosed (Or.inl ⟨by rfl, ?_⟩) hHeld (fun hClosed => ?_)
                rotate_left
                · intro wv hSw; go_simp; all_goals (with_reducible rfl)
                (try simp only [List.getElem_toArray, List.getElem_cons_succ, List.getElem_cons_zero, put_at, List.set])
                refine wpAnyL_take (i := 6) (v := ?_) rfl (by kernel_rfl) (by kernel_rfl) (by kernel_rfl) (by kernel_rfl) (fun _ _ _ h => h) (by kernel_rfl) hClosed (Or.inl ⟨by rfl, ?_⟩) hHeld (fun hClosed => ?_)
                rotate_left
                · intro wv hSw; go_simp; all_goals (with_reducible rfl)
                (try simp only [List.getElem_toArray, List.getElem_cons_succ, List.getElem_cons_zero, put_at, List.set])
                refine wpAnyL_take (i := 7) (v := ?_) rfl (by kernel_rfl) (by kernel_rfl) (by kernel_rfl) (by kernel_rfl) (fun _ _ _ h => h) (by kernel_rfl) hClosed (Or.inl ⟨by rfl, ?_⟩) hHeld (fun hClosed => ?_)
                rotate_left
                · intro wv hSw; go_simp; all_goals (with_reducible rfl)
                (try simp only [List.getElem_toArray, List.getElem_cons_succ, List.getElem_cons_zero, put_at, List.set])
                refine wpAnyL_take (i := 8) (v := ?_) rfl (by kernel_rfl) (by kernel_rfl) (by kernel_rfl) (by kernel_rfl) (fun _ _ _ h => h) (by kernel_rfl) hClosed (Or.inl ⟨by rfl, ?_⟩) hHeld (fun hClosed => ?_)
                rotate_left
                · intro wv hSw; go_simp; all_goals (with_reducible rfl)
                (try simp only [List.getElem_toArray, List.getElem_cons_succ, List.getElem_cons_zero, put_at, List.set])
                refine wpAnyL_take (i := 9) (v := ?_) rfl (by kernel_rfl) (by kernel_rfl) (by kernel_rfl) (by kernel_rfl) (fun _ _ _ h => h) (by kernel_rfl) hClosed (Or.inl ⟨by rfl, ?_⟩) hHeld (fun hClosed => ?_)
                rotate_left
                · intro wv hSw; obtain ⟨g0, g1, g2, g3, g4, g5, g6⟩ := hSw.2.at HE2.out; obtain ⟨f0, f1, f2, f3, f4, f5, f6⟩ := hSw.2.at HE.out; simp only at g0 g1 g2 g3 g4 g5 g6 f0 f1 f2 f3 f4 f5 f6; go_simp; all_goals (with_reducible rfl)
                (try simp only [List.getElem_toArray, List.getElem_cons_succ, List.getElem_cons_zero, put_at, List.set])
                refine wpAnyL_one (i := 10) rfl (by kernel_rfl) (by kernel_rfl) hClosed (fun KK hK => ?_)
                go_simp
                refine (held_as tm q HQ.out _).mono ?_
                rintro e w' ⟨rfl, rfl⟩
                go_wp2_with fail
                refine hK.out _ _ ?_ (fun hClosed hHeld => ?_)
                · exact hHeld
                clear hK KK
                (first | simp only [List.getElem_toArray, List.getElem_cons_succ, List.getElem_cons_zero, put_at, List.set] | (try simp only [put_at, List.set]))
                refine wpAnyL_take (i := 11) (v := ?_) rfl (by kernel_rfl) (by kernel_rfl) (by kernel_rfl) (by kernel_rfl) (fun _ _ _ h => h) (by kernel_rfl) hClosed (Or.inl ⟨by rfl, ?_⟩) hHeld (fun hClosed => ?_)
                rotate_left
                · intro wv hSw; go_simp; all_goals (with_reducible rfl)
                (try simp only [List.getElem_toArray, List.getElem_cons_succ, List.getElem_cons_zero, put_at, List.set])
                refine wpAnyL_one (i := 12) rfl (by kernel_rfl) (by kernel_rfl) hClosed (fun KK hK => ?_)
                go_simp
                refine (radd_sub tm2 tm (-q) s HM.out HS.out _).mono ?_
                rintro e w' ⟨rfl, rfl⟩
                go_wp2_with fail
                refine hK.out _ _ ?_ (fun hClosed hHeld => ?_)
                · exact hHeld
                clear hK KK
                (first | simp only [List.getElem_toArray, List.getElem_cons_succ, List.getElem_cons_zero, put_at, List.set] | (try simp only [put_at, List.set]))
                refine wpAnyL_last rfl (by kernel_rfl) (by kernel_rfl) (fun KK hK => ?_)
                go_simp
                refine hK.out _ _ ?_
                (try simp only [put_at, List.set])
                go_wp2_with fail
                go_meet
                exact ⟨rfl, Lib.hid hHeld.1⟩
              case rest =>
                clear HB q1 q2
                obtain ⟨rfl, HB⟩ := hcut
                go_wp2_with fail
                refine (rmul_as burst 1000 full HF2.out _).mono ?_
                rintro e w3 ⟨rfl, rfl⟩
                go_wp2_with fail
                refine (rmul_as rate s u HU.out _).mono ?_
                rintro e w3 ⟨rfl, rfl⟩
                go_wp2_with fail
                refine (radd_as full u y HY.out _).mono ?_
                rintro e w3 ⟨rfl, rfl⟩
                by_cases hlt2 : y < 1000 * ((n : Int) + 1)
                · have hd3 : decide (y < 1000 * ((n : Int) + 1)) = true := decide_eq_true hlt2
                  have HN2 := Lib.hid (show (false = true ∧ RateP full rate tm (n + 1) (es.drop (m + 1))) ↔ (ob = true ∧ RateP full rate tm 0 (es.drop k)) from ⟨fun h => (by cases h.1), fun h => absurd hlt2 (Int.not_lt.2 (by first | exact (HN1.out.2 h).2.1 | exact Int.not_lt.1 (HN1.out.2 h).2.1))⟩)
                  go_wp2_with fail
                  go_roundw
                  case rel => exact ⟨m + 1, n + 1, false, by omega, by omega, by omega, by go_num, by go_num, rfl, HB, Lib.hid (fun h => (by cases h)), HN2⟩
                  case measure => simp [intOf]; omega
                · have hd3 : decide (y < 1000 * ((n : Int) + 1)) = false := decide_eq_false hlt2
                  have HN2 := Lib.hid (show (ob2 = true ∧ RateP full rate tm (n + 1) (es.drop (m + 1))) ↔ (ob = true ∧ RateP full rate tm 0 (es.drop k)) from ⟨fun h => HN1.out.1 ⟨h.1, (by omega), h.2⟩, fun h => ⟨(HN1.out.2 h).1, (HN1.out.2 h).2.2⟩⟩)
                  go_wp2_with fail
                  go_roundw
                  case rel => exact ⟨m + 1, n + 1, ob2, by omega, by omega, by omega, by go_num, by go_num, rfl, HB, Lib.hid (fun h => (by cases h)), HN2⟩
                  case measure => simp [intOf]; omega
        · have hd2 : decide ((m : Int) < es.length) = false := decide_eq_false (by omega)
          have hdn : es.drop m = [] := List.drop_eq_nil_of_le (by omega)
          have HO2 := Lib.hid (show ob2 = true ↔ WantR full rate es (k + 1) by
            rw [wantR_step HE.out]
            have h1 := HN.out
            rw [hdn, RateP] at h1
            cases hwv : wv with
            | false =>
              rw [HW.out hwv, HO.out]
              exact ⟨fun h => ⟨h, fun hw => (by rw [HWV.out, hwv] at hw; cases hw)⟩, fun h => h.1⟩
            | true =>
              rw [← HO.out]
              exact ⟨fun h => ⟨(h1.1 ⟨h, trivial⟩).1, fun _ => (h1.1 ⟨h, trivial⟩).2⟩, fun h => (h1.2 ⟨h.1, h.2 (by rw [HWV.out, hwv])⟩).1⟩)
          clear c0 c1 c2 c3 c4 c5 c6 HN hdn
          go_wp2_with fail
          go_roundw
          case rel => exact ⟨k + 1, ob2, by omega, by go_num, rfl, HB, HO2⟩
          case measure => simp [intOf]; omega
    · have hd1 : decide ((k : Int) < es.length) = false := decide_eq_false (by omega)
      obtain rfl : k = es.length := by omega
      have HON := Lib.hid (rates_is (by omega) HO.out)
      go_wp2_with fail
      refine (awake22 _).mono ?_
      rintro e w1 ⟨rfl, hb1⟩
      have HB1 := Lib.hid (HB.out.trans (hb1.mono HB.out.size))
      have HRW := Lib.hid (HRD.out.later HB1.out)
      clear hb1 HB HO
      go_wp2_with fail
      refine (rate_as es a cap rate burst ob _ HRW.out (by omega) _ rfl (by rw [HF.out]; exact HON.out)).mono ?_
      rintro e w2 ⟨rfl, hb2⟩
      have HB2 := Lib.hid (HB1.out.trans (hb2.mono HB1.out.size))
      cases ob with
      | true =>
        go_wp2_with fail
        exact bodyPost_ret (v := .bool true) (by simp [results, Try.results10, go_sem]) rfl ⟨rfl, HB2.out⟩
      | false =>
        go_wp2_with fail
        exact bodyPost_ret (v := .bool true) (by simp [results, Try.results10, go_sem]) rfl ⟨rfl, HB2.out⟩
end Go.Proofs.Ytelakgbpfnlpiaa
