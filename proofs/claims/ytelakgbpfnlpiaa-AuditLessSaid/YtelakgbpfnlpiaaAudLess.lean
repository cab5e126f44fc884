/- A part that is looked at alone says no less. -/
import Derived.Test.YtelakgbpfnlpiaaAudRatesL
namespace Go.Proofs.Ytelakgbpfnlpiaa
open Go.RowKit Go.Maps Go.WideMaps

theorem u16_of {z : Int} (h : (Lit.int .u16 z).wf = true) : 0 ≤ z ∧ z ≤ 65535 := by
  simp [Lit.wf, IntKind.min, IntKind.max, IntKind.signed, IntKind.bits] at h
  omega
theorem u8_of {z : Int} (h : (Lit.int .u8 z).wf = true) : 0 ≤ z ∧ z ≤ 255 := by
  simp [Lit.wf, IntKind.min, IntKind.max, IntKind.signed, IntKind.bits] at h
  omega
theorem gapsL_pre (f : Int) : ∀ (xs ys : List Ev) (L : Lasts), gapsL f L (xs ++ ys) = true → gapsL f L xs = true
  | [], _, _, _ => rfl
  | e :: r, ys, L, h => by
    rw [List.cons_append] at h
    unfold gapsL at h ⊢
    cases hL : L e.host with
    | none =>
      rw [hL] at h
      exact gapsL_pre f r ys _ h
    | some t =>
      rw [hL] at h
      simp only at h ⊢
      by_cases hlt : subI e.time t < f
      · rw [if_pos hlt] at h
        cases h
      · rw [if_neg hlt] at h ⊢
        exact gapsL_pre f r ys _ h
theorem gapsL_dec (f g : Int) (hg : g ≤ f) : ∀ (xs : List Ev) (L : Lasts), gapsL f L xs = true → gapsL g L xs = true
  | [], _, _ => rfl
  | e :: r, L, h => by
    unfold gapsL at h ⊢
    cases hL : L e.host with
    | none =>
      rw [hL] at h
      exact gapsL_dec f g hg r _ h
    | some t =>
      rw [hL] at h
      simp only at h ⊢
      by_cases hlt : subI e.time t < f
      · rw [if_pos hlt] at h
        cases h
      · rw [if_neg hlt] at h
        rw [if_neg (by omega)]
        exact gapsL_dec f g hg r _ h
theorem onceL_pre : ∀ (xs ys : List Ev) (S : Int → Bool), onceL S (xs ++ ys) = true → onceL S xs = true
  | [], _, _, _ => rfl
  | e :: r, ys, S, h => by
    rw [List.cons_append] at h
    unfold onceL at h ⊢
    by_cases hk : e.kind = 1
    · rw [if_pos hk] at h ⊢
      by_cases hs : S e.id = true
      · rw [if_pos hs] at h
        cases h
      · rw [if_neg hs] at h ⊢
        exact onceL_pre r ys _ h
    · rw [if_neg hk] at h ⊢
      exact onceL_pre r ys _ h
theorem rateIn_pre (full rate t0 : Int) : ∀ (xs ys : List Ev) (n : Nat), rateIn full rate t0 n (xs ++ ys) = true → rateIn full rate t0 n xs = true
  | [], _, _, _ => rfl
  | e :: r, ys, n, h => by
    rw [List.cons_append] at h
    unfold rateIn at h ⊢
    by_cases hlt : addI full (mulI rate (subI e.time t0)) < mulI 1000 ((n : Int) + 1)
    · rw [if_pos hlt] at h
      cases h
    · rw [if_neg hlt] at h ⊢
      exact rateIn_pre full rate t0 r ys _ h
theorem rateL_pre (full rate : Int) : ∀ (xs ys : List Ev), rateL full rate (xs ++ ys) = true → rateL full rate xs = true
  | [], _, _ => rfl
  | e :: r, ys, h => by
    rw [List.cons_append] at h
    unfold rateL at h ⊢
    by_cases hr : rateIn full rate e.time 0 (e :: (r ++ ys)) = true
    · rw [if_pos hr] at h
      rw [if_pos (rateIn_pre full rate e.time (e :: r) ys 0 hr)]
      exact rateL_pre full rate r ys h
    · rw [if_neg hr] at h
      cases h
theorem clampI_mono {a b : Int} (h : a ≤ b) : clampI a ≤ clampI b := by
  unfold clampI
  repeat' split
  all_goals omega
theorem addI_mono {a b : Int} (c : Int) (h : a ≤ b) : addI a c ≤ addI b c := by
  unfold addI
  apply clampI_mono
  have := clampI_mono h
  omega
theorem rateIn_up {full gull : Int} (hf : full ≤ gull) (rate t0 : Int) : ∀ (xs : List Ev) (n : Nat), rateIn full rate t0 n xs = true → rateIn gull rate t0 n xs = true
  | [], _, _ => rfl
  | e :: r, n, h => by
    unfold rateIn at h ⊢
    have hm := addI_mono (mulI rate (subI e.time t0)) hf
    by_cases hlt : addI full (mulI rate (subI e.time t0)) < mulI 1000 ((n : Int) + 1)
    · rw [if_pos hlt] at h
      cases h
    · rw [if_neg hlt] at h
      rw [if_neg (by omega)]
      exact rateIn_up hf rate t0 r _ h
theorem rateL_up {full gull : Int} (hf : full ≤ gull) (rate : Int) : ∀ (xs : List Ev), rateL full rate xs = true → rateL gull rate xs = true
  | [], _ => rfl
  | e :: r, h => by
    unfold rateL at h ⊢
    by_cases hr : rateIn full rate e.time 0 (e :: r) = true
    · rw [if_pos hr] at h
      rw [if_pos (rateIn_up hf rate e.time (e :: r) 0 hr)]
      exact rateL_up hf rate r h
    · rw [if_neg hr] at h
      cases h
theorem full_up (b : Int) : mulI 1000 b ≤ mulI 1000 (b + 1) := by
  unfold mulI
  apply clampI_mono
  have := clampI_mono (show b ≤ b + 1 by omega)
  rw [clampI_id (a := 1000) (by omega) (by omega)]
  omega
theorem went_split (es : List Ev) (k : Nat) : (es.take k).filter wentE ++ (es.drop k).filter wentE = es.filter wentE := by
  rw [← List.filter_append, List.take_append_drop]

set_option maxRecDepth 100000 in
set_option maxHeartbeats 12000000 in
theorem auditLess_walk (x : Option Addr × Nat × Nat) (gap rate burst cut : Int) (w : World) (hx : IsEvs w x) (hw1 : (Lit.int .u16 gap).wf = true) (hw2 : (Lit.int .u16 rate).wf = true) (hw3 : (Lit.int .u16 burst).wf = true) (hw4 : (Lit.int .u8 cut).wf = true) :
    Calls Try.prog 12 #[.slice x.1 x.2.1 x.2.2, .int .u16 gap, .int .u16 rate, .int .u16 burst, .int .u8 cut] w fun e w' => e = .returned (.bool true) ∧ Below w.heap.size w w' := by
  obtain ⟨a, len, cap⟩ := x
  obtain ⟨es0, hlen, hmax, hcap, hrd0, hok0⟩ := hx
  simp only at hlen hcap hrd0
  have g1 : 0 ≤ gap ∧ gap ≤ 65535 := u16_of hw1
  have g2 : 0 ≤ rate ∧ rate ≤ 65535 := u16_of hw2
  have g3 : 0 ≤ burst ∧ burst ≤ 65535 := u16_of hw3
  have g4 : 0 ≤ cut ∧ cut ≤ 255 := u8_of hw4
  clear hw1 hw2 hw3 hw4
  show Calls Try.prog 12 #[.slice a len cap, .int .u16 gap, .int .u16 rate, .int .u16 burst, .int .u8 cut] w _
  obtain ⟨es, hes⟩ : ∃ es, es0.take 60 = es := ⟨_, rfl⟩
  have HES := Lib.hid hes
  have hl60 : es.length ≤ 60 := by rw [← hes, List.length_take]; omega
  have hlc : es.length ≤ cap := by rw [← hes, List.length_take]; omega
  have HOK := Lib.hid (show ∀ e, e ∈ es → EvOk e by rw [← hes]; exact fun e he => hok0 e (List.mem_of_mem_take he))
  have HRD0 := Lib.hid hrd0
  have HRD := Lib.hid (show Rd w a es by rw [← hes]; exact hrd0.take 60)
  clear hes hrd0 hok0
  go_enter Try.func12, Try.ntmps12
  go_wp2_with fail
  refine (cut_as es0 es HES.out a len cap hlen _ HRD0.out hmax (by omega)).mono ?_
  rintro e w0 ⟨rfl, rfl⟩
  clear HES HRD0 hlen hmax hcap
  go_wp2_with fail
  obtain ⟨b, off, ha, hc⟩ := HRD.out.row
  have HA := Lib.hid ha
  have HC := Lib.hid hc
  clear ha hc
  go_loopw [11] (fun vk wx => ∃ (k : Nat), k ≤ es.length ∧ vk = .int .i64 k ∧ Hid (Below w0.heap.size w0 wx)) (fun vk _ => es.length - (intOf vk).toNat)
  case atStart => exact ⟨0, by omega, rfl, Lib.hid (Below.refl _ _)⟩
  case round =>
    obtain ⟨k, hk, rfl, HB⟩ := hrel
    by_cases hlt : k < es.length
    · have hd1 : decide ((k : Int) < es.length) = true := decide_eq_true (by omega)
      have ha := HA.out (by omega)
      subst ha
      obtain ⟨⟨kd, tm, id, ho, pa, pr, la⟩, he⟩ : ∃ e, es[k]? = some e := ⟨_, List.getElem?_eq_getElem hlt⟩
      have HE := Lib.hid he
      clear he
      obtain ⟨c0, c1, c2, c3, c4, c5, c6⟩ := (RdB.later HC.out HB.out).at HE.out
      simp only at c1
      clear c0 c2 c3 c4 c5 c6
      by_cases h1 : tm < 0
      · have hd2 : decide (tm < 0) = true := decide_eq_true h1
        go_wp2_with fail
        refine (awake22 _).mono ?_
        rintro e w1 ⟨rfl, hb1⟩
        have HB1 := Lib.hid (HB.out.trans (hb1.mono HB.out.size))
        go_wp2_with fail
        exact bodyPost_ret (v := .bool true) (by simp [results, Try.results12, go_sem]) rfl ⟨rfl, HB1.out⟩
      · have hd2 : decide (tm < 0) = false := decide_eq_false h1
        by_cases h3 : 1099511627776 < tm
        · have hd3 : decide (1099511627776 < tm) = true := decide_eq_true h3
          go_wp2_with fail
          refine (awake22 _).mono ?_
          rintro e w1 ⟨rfl, hb1⟩
          have HB1 := Lib.hid (HB.out.trans (hb1.mono HB.out.size))
          go_wp2_with fail
          exact bodyPost_ret (v := .bool true) (by simp [results, Try.results12, go_sem]) rfl ⟨rfl, HB1.out⟩
        · have hd3 : decide (1099511627776 < tm) = false := decide_eq_false h3
          go_wp2_with fail
          go_roundw
          case rel => exact ⟨k + 1, by omega, by go_num, HB⟩
          case measure => simp [intOf]; omega
    · have hd1 : decide ((k : Int) < es.length) = false := decide_eq_false (by omega)
      obtain rfl : k = es.length := by omega
      have w1 : IntKind.i64.wrap cut = cut := IntWalk.i64_in _ (by omega)
      have w2 : IntKind.i64.wrap gap = gap := IntWalk.i64_in _ (by omega)
      have w3 : IntKind.i64.wrap rate = rate := IntWalk.i64_in _ (by omega)
      have w4 : IntKind.i64.wrap burst = burst := IntWalk.i64_in _ (by omega)
      have w5 : IntKind.i64.wrap ((es.length : Int) + 1) = (es.length : Int) + 1 := IntWalk.i64_in _ (by omega)
      obtain ⟨q, hq⟩ : ∃ q : Nat, cut % ((es.length : Int) + 1) = (q : Int) := ⟨(cut % ((es.length : Int) + 1)).toNat, (Int.toNat_of_nonneg (Int.emod_nonneg _ (by omega))).symm⟩
      have hql : q ≤ es.length := by
        have := Int.emod_lt_of_pos cut (show (0 : Int) < (es.length : Int) + 1 by omega)
        omega
      have hqc : (q : Int) ≤ (cap : Int) := by omega
      have hq0 : ¬ (q : Int) < 0 := by omega
      have HLT := Lib.hid (show (es.take q).length = q by rw [List.length_take]; omega)
      obtain ⟨v1, hv1⟩ : ∃ v, gapsL gap (fun _ => none) (es.filter wentE) = v := ⟨_, rfl⟩
      have HV1 := Lib.hid hv1
      obtain ⟨v4, hv4⟩ : ∃ v, onceL (fun _ => false) es = v := ⟨_, rfl⟩
      have HV4 := Lib.hid hv4
      obtain ⟨v6, hv6⟩ : ∃ v, rateL (mulI 1000 burst) rate (es.filter wentE) = v := ⟨_, rfl⟩
      have HV6 := Lib.hid hv6
      have HV2 := Lib.hid (show v1 = true → gapsL gap (fun _ => none) ((es.take q).filter wentE) = true from fun h => gapsL_pre gap _ ((es.drop q).filter wentE) _ (by rw [went_split, hv1, h]))
      have HV3 := Lib.hid (show v1 = true → gapsL (gap - 1) (fun _ => none) (es.filter wentE) = true from fun h => gapsL_dec gap _ (by omega) _ _ (by rw [hv1, h]))
      have HV5 := Lib.hid (show v4 = true → onceL (fun _ => false) (es.take q) = true from fun h => onceL_pre _ (es.drop q) _ (by rw [List.take_append_drop, hv4, h]))
      have HV7 := Lib.hid (show v6 = true → rateL (mulI 1000 burst) rate ((es.take q).filter wentE) = true from fun h => rateL_pre _ rate _ ((es.drop q).filter wentE) (by rw [went_split, hv6, h]))
      have HV8 := Lib.hid (show v6 = true → rateL (mulI 1000 (burst + 1)) rate (es.filter wentE) = true from fun h => rateL_up (full_up burst) rate _ (by rw [hv6, h]))
      clear hv1 hv4 hv6
      have w6 : IntKind.i64.wrap (gap - 1) = gap - 1 := IntWalk.i64_in _ (by omega)
      have w7 : IntKind.i64.wrap (burst + 1) = burst + 1 := IntWalk.i64_in _ (by omega)
      have HOT := Lib.hid (show ∀ e, e ∈ es.take q → EvOk e from fun e he => HOK.out e (List.mem_of_mem_take he))
      have HQ := Lib.hid hql
      cases a with
      | none =>
        have H0 := Lib.hid (show es.length = 0 from Nat.eq_zero_of_not_pos (fun h => by cases HA.out h))
        go_wp2_with fail
        refine (gaps_as es _ _ gap gap _ _ (HRD.out.later HB.out) (by omega) HOK.out _ rfl rfl HV1.out).mono ?_
        rintro e x1 ⟨rfl, hb⟩
        have HBn := Lib.hid (HB.out.trans (hb.mono HB.out.size))
        clear hb HB
        have HB := HBn
        clear HBn
        cases v1 with
        | false =>
          go_wp2_with fail
          refine (once_as es _ _ _ _ (HRD.out.later HB.out) (by omega) HOK.out _ rfl HV4.out).mono ?_
          rintro e x2 ⟨rfl, hb⟩
          have HBn := Lib.hid (HB.out.trans (hb.mono HB.out.size))
          clear hb HB
          have HB := HBn
          clear HBn
          cases v4 with
          | false =>
            go_wp2_with fail
            refine (awake22 _).mono ?_
            rintro e x3 ⟨rfl, hb⟩
            have HBn := Lib.hid (HB.out.trans (hb.mono HB.out.size))
            clear hb HB
            have HB := HBn
            clear HBn
            go_wp2_with fail
            refine (rate_as es _ _ rate burst _ _ (HRD.out.later HB.out) (by omega) _ rfl HV6.out).mono ?_
            rintro e x4 ⟨rfl, hb⟩
            have HBn := Lib.hid (HB.out.trans (hb.mono HB.out.size))
            clear hb HB
            have HB := HBn
            clear HBn
            cases v6 with
            | false =>
              go_wp2_with fail
              exact bodyPost_ret (v := .bool true) (by simp [results, Try.results12, go_sem]) rfl ⟨rfl, HB.out⟩
            | true =>
              go_wp2_with fail
              refine (rate_as (es.take q) _ _ rate burst _ _ ((HRD.out.later HB.out).take q) (by rw [HLT.out]; omega) _ HLT.out (HV7.out (by trivial))).mono ?_
              rintro e x5 ⟨rfl, hb⟩
              have HBn := Lib.hid (HB.out.trans (hb.mono HB.out.size))
              clear hb HB
              have HB := HBn
              clear HBn
              go_wp2_with fail
              refine (rate_as es _ _ rate (burst + 1) _ _ (HRD.out.later HB.out) (by omega) _ rfl (HV8.out (by trivial))).mono ?_
              rintro e x6 ⟨rfl, hb⟩
              have HBn := Lib.hid (HB.out.trans (hb.mono HB.out.size))
              clear hb HB
              have HB := HBn
              clear HBn
              go_wp2_with fail
              exact bodyPost_ret (v := .bool true) (by simp [results, Try.results12, go_sem]) rfl ⟨rfl, HB.out⟩
          | true =>
            go_wp2_with fail
            refine (once_as (es.take q) _ _ _ _ ((HRD.out.later HB.out).take q) (by rw [HLT.out]; omega) HOT.out _ HLT.out (HV5.out (by trivial))).mono ?_
            rintro e x7 ⟨rfl, hb⟩
            have HBn := Lib.hid (HB.out.trans (hb.mono HB.out.size))
            clear hb HB
            have HB := HBn
            clear HBn
            go_wp2_with fail
            refine (awake22 _).mono ?_
            rintro e x8 ⟨rfl, hb⟩
            have HBn := Lib.hid (HB.out.trans (hb.mono HB.out.size))
            clear hb HB
            have HB := HBn
            clear HBn
            go_wp2_with fail
            refine (rate_as es _ _ rate burst _ _ (HRD.out.later HB.out) (by omega) _ rfl HV6.out).mono ?_
            rintro e x9 ⟨rfl, hb⟩
            have HBn := Lib.hid (HB.out.trans (hb.mono HB.out.size))
            clear hb HB
            have HB := HBn
            clear HBn
            cases v6 with
            | false =>
              go_wp2_with fail
              exact bodyPost_ret (v := .bool true) (by simp [results, Try.results12, go_sem]) rfl ⟨rfl, HB.out⟩
            | true =>
              go_wp2_with fail
              refine (rate_as (es.take q) _ _ rate burst _ _ ((HRD.out.later HB.out).take q) (by rw [HLT.out]; omega) _ HLT.out (HV7.out (by trivial))).mono ?_
              rintro e x10 ⟨rfl, hb⟩
              have HBn := Lib.hid (HB.out.trans (hb.mono HB.out.size))
              clear hb HB
              have HB := HBn
              clear HBn
              go_wp2_with fail
              refine (rate_as es _ _ rate (burst + 1) _ _ (HRD.out.later HB.out) (by omega) _ rfl (HV8.out (by trivial))).mono ?_
              rintro e x11 ⟨rfl, hb⟩
              have HBn := Lib.hid (HB.out.trans (hb.mono HB.out.size))
              clear hb HB
              have HB := HBn
              clear HBn
              go_wp2_with fail
              exact bodyPost_ret (v := .bool true) (by simp [results, Try.results12, go_sem]) rfl ⟨rfl, HB.out⟩
        | true =>
          go_wp2_with fail
          refine (gaps_as (es.take q) _ _ gap gap _ _ ((HRD.out.later HB.out).take q) (by rw [HLT.out]; omega) HOT.out _ HLT.out rfl (HV2.out (by trivial))).mono ?_
          rintro e x12 ⟨rfl, hb⟩
          have HBn := Lib.hid (HB.out.trans (hb.mono HB.out.size))
          clear hb HB
          have HB := HBn
          clear HBn
          by_cases hp : 0 < gap
          · have hd9 : decide (0 < gap) = true := decide_eq_true hp
            go_wp2_with fail
            refine (gaps_as es _ _ (gap - 1) (gap - 1) _ _ (HRD.out.later HB.out) (by omega) HOK.out _ rfl rfl (HV3.out (by trivial))).mono ?_
            rintro e x13 ⟨rfl, hb⟩
            have HBn := Lib.hid (HB.out.trans (hb.mono HB.out.size))
            clear hb HB
            have HB := HBn
            clear HBn
            go_wp2_with fail
            refine (once_as es _ _ _ _ (HRD.out.later HB.out) (by omega) HOK.out _ rfl HV4.out).mono ?_
            rintro e x14 ⟨rfl, hb⟩
            have HBn := Lib.hid (HB.out.trans (hb.mono HB.out.size))
            clear hb HB
            have HB := HBn
            clear HBn
            cases v4 with
            | false =>
              go_wp2_with fail
              refine (awake22 _).mono ?_
              rintro e x15 ⟨rfl, hb⟩
              have HBn := Lib.hid (HB.out.trans (hb.mono HB.out.size))
              clear hb HB
              have HB := HBn
              clear HBn
              go_wp2_with fail
              refine (rate_as es _ _ rate burst _ _ (HRD.out.later HB.out) (by omega) _ rfl HV6.out).mono ?_
              rintro e x16 ⟨rfl, hb⟩
              have HBn := Lib.hid (HB.out.trans (hb.mono HB.out.size))
              clear hb HB
              have HB := HBn
              clear HBn
              cases v6 with
              | false =>
                go_wp2_with fail
                exact bodyPost_ret (v := .bool true) (by simp [results, Try.results12, go_sem]) rfl ⟨rfl, HB.out⟩
              | true =>
                go_wp2_with fail
                refine (rate_as (es.take q) _ _ rate burst _ _ ((HRD.out.later HB.out).take q) (by rw [HLT.out]; omega) _ HLT.out (HV7.out (by trivial))).mono ?_
                rintro e x17 ⟨rfl, hb⟩
                have HBn := Lib.hid (HB.out.trans (hb.mono HB.out.size))
                clear hb HB
                have HB := HBn
                clear HBn
                go_wp2_with fail
                refine (rate_as es _ _ rate (burst + 1) _ _ (HRD.out.later HB.out) (by omega) _ rfl (HV8.out (by trivial))).mono ?_
                rintro e x18 ⟨rfl, hb⟩
                have HBn := Lib.hid (HB.out.trans (hb.mono HB.out.size))
                clear hb HB
                have HB := HBn
                clear HBn
                go_wp2_with fail
                exact bodyPost_ret (v := .bool true) (by simp [results, Try.results12, go_sem]) rfl ⟨rfl, HB.out⟩
            | true =>
              go_wp2_with fail
              refine (once_as (es.take q) _ _ _ _ ((HRD.out.later HB.out).take q) (by rw [HLT.out]; omega) HOT.out _ HLT.out (HV5.out (by trivial))).mono ?_
              rintro e x19 ⟨rfl, hb⟩
              have HBn := Lib.hid (HB.out.trans (hb.mono HB.out.size))
              clear hb HB
              have HB := HBn
              clear HBn
              go_wp2_with fail
              refine (awake22 _).mono ?_
              rintro e x20 ⟨rfl, hb⟩
              have HBn := Lib.hid (HB.out.trans (hb.mono HB.out.size))
              clear hb HB
              have HB := HBn
              clear HBn
              go_wp2_with fail
              refine (rate_as es _ _ rate burst _ _ (HRD.out.later HB.out) (by omega) _ rfl HV6.out).mono ?_
              rintro e x21 ⟨rfl, hb⟩
              have HBn := Lib.hid (HB.out.trans (hb.mono HB.out.size))
              clear hb HB
              have HB := HBn
              clear HBn
              cases v6 with
              | false =>
                go_wp2_with fail
                exact bodyPost_ret (v := .bool true) (by simp [results, Try.results12, go_sem]) rfl ⟨rfl, HB.out⟩
              | true =>
                go_wp2_with fail
                refine (rate_as (es.take q) _ _ rate burst _ _ ((HRD.out.later HB.out).take q) (by rw [HLT.out]; omega) _ HLT.out (HV7.out (by trivial))).mono ?_
                rintro e x22 ⟨rfl, hb⟩
                have HBn := Lib.hid (HB.out.trans (hb.mono HB.out.size))
                clear hb HB
                have HB := HBn
                clear HBn
                go_wp2_with fail
                refine (rate_as es _ _ rate (burst + 1) _ _ (HRD.out.later HB.out) (by omega) _ rfl (HV8.out (by trivial))).mono ?_
                rintro e x23 ⟨rfl, hb⟩
                have HBn := Lib.hid (HB.out.trans (hb.mono HB.out.size))
                clear hb HB
                have HB := HBn
                clear HBn
                go_wp2_with fail
                exact bodyPost_ret (v := .bool true) (by simp [results, Try.results12, go_sem]) rfl ⟨rfl, HB.out⟩
          · have hd9 : decide (0 < gap) = false := decide_eq_false hp
            go_wp2_with fail
            refine (once_as es _ _ _ _ (HRD.out.later HB.out) (by omega) HOK.out _ rfl HV4.out).mono ?_
            rintro e x24 ⟨rfl, hb⟩
            have HBn := Lib.hid (HB.out.trans (hb.mono HB.out.size))
            clear hb HB
            have HB := HBn
            clear HBn
            cases v4 with
            | false =>
              go_wp2_with fail
              refine (awake22 _).mono ?_
              rintro e x25 ⟨rfl, hb⟩
              have HBn := Lib.hid (HB.out.trans (hb.mono HB.out.size))
              clear hb HB
              have HB := HBn
              clear HBn
              go_wp2_with fail
              refine (rate_as es _ _ rate burst _ _ (HRD.out.later HB.out) (by omega) _ rfl HV6.out).mono ?_
              rintro e x26 ⟨rfl, hb⟩
              have HBn := Lib.hid (HB.out.trans (hb.mono HB.out.size))
              clear hb HB
              have HB := HBn
              clear HBn
              cases v6 with
              | false =>
                go_wp2_with fail
                exact bodyPost_ret (v := .bool true) (by simp [results, Try.results12, go_sem]) rfl ⟨rfl, HB.out⟩
              | true =>
                go_wp2_with fail
                refine (rate_as (es.take q) _ _ rate burst _ _ ((HRD.out.later HB.out).take q) (by rw [HLT.out]; omega) _ HLT.out (HV7.out (by trivial))).mono ?_
                rintro e x27 ⟨rfl, hb⟩
                have HBn := Lib.hid (HB.out.trans (hb.mono HB.out.size))
                clear hb HB
                have HB := HBn
                clear HBn
                go_wp2_with fail
                refine (rate_as es _ _ rate (burst + 1) _ _ (HRD.out.later HB.out) (by omega) _ rfl (HV8.out (by trivial))).mono ?_
                rintro e x28 ⟨rfl, hb⟩
                have HBn := Lib.hid (HB.out.trans (hb.mono HB.out.size))
                clear hb HB
                have HB := HBn
                clear HBn
                go_wp2_with fail
                exact bodyPost_ret (v := .bool true) (by simp [results, Try.results12, go_sem]) rfl ⟨rfl, HB.out⟩
            | true =>
              go_wp2_with fail
              refine (once_as (es.take q) _ _ _ _ ((HRD.out.later HB.out).take q) (by rw [HLT.out]; omega) HOT.out _ HLT.out (HV5.out (by trivial))).mono ?_
              rintro e x29 ⟨rfl, hb⟩
              have HBn := Lib.hid (HB.out.trans (hb.mono HB.out.size))
              clear hb HB
              have HB := HBn
              clear HBn
              go_wp2_with fail
              refine (awake22 _).mono ?_
              rintro e x30 ⟨rfl, hb⟩
              have HBn := Lib.hid (HB.out.trans (hb.mono HB.out.size))
              clear hb HB
              have HB := HBn
              clear HBn
              go_wp2_with fail
              refine (rate_as es _ _ rate burst _ _ (HRD.out.later HB.out) (by omega) _ rfl HV6.out).mono ?_
              rintro e x31 ⟨rfl, hb⟩
              have HBn := Lib.hid (HB.out.trans (hb.mono HB.out.size))
              clear hb HB
              have HB := HBn
              clear HBn
              cases v6 with
              | false =>
                go_wp2_with fail
                exact bodyPost_ret (v := .bool true) (by simp [results, Try.results12, go_sem]) rfl ⟨rfl, HB.out⟩
              | true =>
                go_wp2_with fail
                refine (rate_as (es.take q) _ _ rate burst _ _ ((HRD.out.later HB.out).take q) (by rw [HLT.out]; omega) _ HLT.out (HV7.out (by trivial))).mono ?_
                rintro e x32 ⟨rfl, hb⟩
                have HBn := Lib.hid (HB.out.trans (hb.mono HB.out.size))
                clear hb HB
                have HB := HBn
                clear HBn
                go_wp2_with fail
                refine (rate_as es _ _ rate (burst + 1) _ _ (HRD.out.later HB.out) (by omega) _ rfl (HV8.out (by trivial))).mono ?_
                rintro e x33 ⟨rfl, hb⟩
                have HBn := Lib.hid (HB.out.trans (hb.mono HB.out.size))
                clear hb HB
                have HB := HBn
                clear HBn
                go_wp2_with fail
                exact bodyPost_ret (v := .bool true) (by simp [results, Try.results12, go_sem]) rfl ⟨rfl, HB.out⟩
      | some ad =>
        by_cases hc0 : cap = 0
        · subst hc0
          go_wp2_with fail
          refine (gaps_as es _ _ gap gap _ _ (HRD.out.later HB.out) (by omega) HOK.out _ rfl rfl HV1.out).mono ?_
          rintro e x1 ⟨rfl, hb⟩
          have HBn := Lib.hid (HB.out.trans (hb.mono HB.out.size))
          clear hb HB
          have HB := HBn
          clear HBn
          cases v1 with
          | false =>
            go_wp2_with fail
            refine (once_as es _ _ _ _ (HRD.out.later HB.out) (by omega) HOK.out _ rfl HV4.out).mono ?_
            rintro e x2 ⟨rfl, hb⟩
            have HBn := Lib.hid (HB.out.trans (hb.mono HB.out.size))
            clear hb HB
            have HB := HBn
            clear HBn
            cases v4 with
            | false =>
              go_wp2_with fail
              refine (awake22 _).mono ?_
              rintro e x3 ⟨rfl, hb⟩
              have HBn := Lib.hid (HB.out.trans (hb.mono HB.out.size))
              clear hb HB
              have HB := HBn
              clear HBn
              go_wp2_with fail
              refine (rate_as es _ _ rate burst _ _ (HRD.out.later HB.out) (by omega) _ rfl HV6.out).mono ?_
              rintro e x4 ⟨rfl, hb⟩
              have HBn := Lib.hid (HB.out.trans (hb.mono HB.out.size))
              clear hb HB
              have HB := HBn
              clear HBn
              cases v6 with
              | false =>
                go_wp2_with fail
                exact bodyPost_ret (v := .bool true) (by simp [results, Try.results12, go_sem]) rfl ⟨rfl, HB.out⟩
              | true =>
                go_wp2_with fail
                refine (rate_as (es.take q) _ _ rate burst _ _ ((HRD.out.later HB.out).take q) (by rw [HLT.out]; omega) _ HLT.out (HV7.out (by trivial))).mono ?_
                rintro e x5 ⟨rfl, hb⟩
                have HBn := Lib.hid (HB.out.trans (hb.mono HB.out.size))
                clear hb HB
                have HB := HBn
                clear HBn
                go_wp2_with fail
                refine (rate_as es _ _ rate (burst + 1) _ _ (HRD.out.later HB.out) (by omega) _ rfl (HV8.out (by trivial))).mono ?_
                rintro e x6 ⟨rfl, hb⟩
                have HBn := Lib.hid (HB.out.trans (hb.mono HB.out.size))
                clear hb HB
                have HB := HBn
                clear HBn
                go_wp2_with fail
                exact bodyPost_ret (v := .bool true) (by simp [results, Try.results12, go_sem]) rfl ⟨rfl, HB.out⟩
            | true =>
              go_wp2_with fail
              refine (once_as (es.take q) _ _ _ _ ((HRD.out.later HB.out).take q) (by rw [HLT.out]; omega) HOT.out _ HLT.out (HV5.out (by trivial))).mono ?_
              rintro e x7 ⟨rfl, hb⟩
              have HBn := Lib.hid (HB.out.trans (hb.mono HB.out.size))
              clear hb HB
              have HB := HBn
              clear HBn
              go_wp2_with fail
              refine (awake22 _).mono ?_
              rintro e x8 ⟨rfl, hb⟩
              have HBn := Lib.hid (HB.out.trans (hb.mono HB.out.size))
              clear hb HB
              have HB := HBn
              clear HBn
              go_wp2_with fail
              refine (rate_as es _ _ rate burst _ _ (HRD.out.later HB.out) (by omega) _ rfl HV6.out).mono ?_
              rintro e x9 ⟨rfl, hb⟩
              have HBn := Lib.hid (HB.out.trans (hb.mono HB.out.size))
              clear hb HB
              have HB := HBn
              clear HBn
              cases v6 with
              | false =>
                go_wp2_with fail
                exact bodyPost_ret (v := .bool true) (by simp [results, Try.results12, go_sem]) rfl ⟨rfl, HB.out⟩
              | true =>
                go_wp2_with fail
                refine (rate_as (es.take q) _ _ rate burst _ _ ((HRD.out.later HB.out).take q) (by rw [HLT.out]; omega) _ HLT.out (HV7.out (by trivial))).mono ?_
                rintro e x10 ⟨rfl, hb⟩
                have HBn := Lib.hid (HB.out.trans (hb.mono HB.out.size))
                clear hb HB
                have HB := HBn
                clear HBn
                go_wp2_with fail
                refine (rate_as es _ _ rate (burst + 1) _ _ (HRD.out.later HB.out) (by omega) _ rfl (HV8.out (by trivial))).mono ?_
                rintro e x11 ⟨rfl, hb⟩
                have HBn := Lib.hid (HB.out.trans (hb.mono HB.out.size))
                clear hb HB
                have HB := HBn
                clear HBn
                go_wp2_with fail
                exact bodyPost_ret (v := .bool true) (by simp [results, Try.results12, go_sem]) rfl ⟨rfl, HB.out⟩
          | true =>
            go_wp2_with fail
            refine (gaps_as (es.take q) _ _ gap gap _ _ ((HRD.out.later HB.out).take q) (by rw [HLT.out]; omega) HOT.out _ HLT.out rfl (HV2.out (by trivial))).mono ?_
            rintro e x12 ⟨rfl, hb⟩
            have HBn := Lib.hid (HB.out.trans (hb.mono HB.out.size))
            clear hb HB
            have HB := HBn
            clear HBn
            by_cases hp : 0 < gap
            · have hd9 : decide (0 < gap) = true := decide_eq_true hp
              go_wp2_with fail
              refine (gaps_as es _ _ (gap - 1) (gap - 1) _ _ (HRD.out.later HB.out) (by omega) HOK.out _ rfl rfl (HV3.out (by trivial))).mono ?_
              rintro e x13 ⟨rfl, hb⟩
              have HBn := Lib.hid (HB.out.trans (hb.mono HB.out.size))
              clear hb HB
              have HB := HBn
              clear HBn
              go_wp2_with fail
              refine (once_as es _ _ _ _ (HRD.out.later HB.out) (by omega) HOK.out _ rfl HV4.out).mono ?_
              rintro e x14 ⟨rfl, hb⟩
              have HBn := Lib.hid (HB.out.trans (hb.mono HB.out.size))
              clear hb HB
              have HB := HBn
              clear HBn
              cases v4 with
              | false =>
                go_wp2_with fail
                refine (awake22 _).mono ?_
                rintro e x15 ⟨rfl, hb⟩
                have HBn := Lib.hid (HB.out.trans (hb.mono HB.out.size))
                clear hb HB
                have HB := HBn
                clear HBn
                go_wp2_with fail
                refine (rate_as es _ _ rate burst _ _ (HRD.out.later HB.out) (by omega) _ rfl HV6.out).mono ?_
                rintro e x16 ⟨rfl, hb⟩
                have HBn := Lib.hid (HB.out.trans (hb.mono HB.out.size))
                clear hb HB
                have HB := HBn
                clear HBn
                cases v6 with
                | false =>
                  go_wp2_with fail
                  exact bodyPost_ret (v := .bool true) (by simp [results, Try.results12, go_sem]) rfl ⟨rfl, HB.out⟩
                | true =>
                  go_wp2_with fail
                  refine (rate_as (es.take q) _ _ rate burst _ _ ((HRD.out.later HB.out).take q) (by rw [HLT.out]; omega) _ HLT.out (HV7.out (by trivial))).mono ?_
                  rintro e x17 ⟨rfl, hb⟩
                  have HBn := Lib.hid (HB.out.trans (hb.mono HB.out.size))
                  clear hb HB
                  have HB := HBn
                  clear HBn
                  go_wp2_with fail
                  refine (rate_as es _ _ rate (burst + 1) _ _ (HRD.out.later HB.out) (by omega) _ rfl (HV8.out (by trivial))).mono ?_
                  rintro e x18 ⟨rfl, hb⟩
                  have HBn := Lib.hid (HB.out.trans (hb.mono HB.out.size))
                  clear hb HB
                  have HB := HBn
                  clear HBn
                  go_wp2_with fail
                  exact bodyPost_ret (v := .bool true) (by simp [results, Try.results12, go_sem]) rfl ⟨rfl, HB.out⟩
              | true =>
                go_wp2_with fail
                refine (once_as (es.take q) _ _ _ _ ((HRD.out.later HB.out).take q) (by rw [HLT.out]; omega) HOT.out _ HLT.out (HV5.out (by trivial))).mono ?_
                rintro e x19 ⟨rfl, hb⟩
                have HBn := Lib.hid (HB.out.trans (hb.mono HB.out.size))
                clear hb HB
                have HB := HBn
                clear HBn
                go_wp2_with fail
                refine (awake22 _).mono ?_
                rintro e x20 ⟨rfl, hb⟩
                have HBn := Lib.hid (HB.out.trans (hb.mono HB.out.size))
                clear hb HB
                have HB := HBn
                clear HBn
                go_wp2_with fail
                refine (rate_as es _ _ rate burst _ _ (HRD.out.later HB.out) (by omega) _ rfl HV6.out).mono ?_
                rintro e x21 ⟨rfl, hb⟩
                have HBn := Lib.hid (HB.out.trans (hb.mono HB.out.size))
                clear hb HB
                have HB := HBn
                clear HBn
                cases v6 with
                | false =>
                  go_wp2_with fail
                  exact bodyPost_ret (v := .bool true) (by simp [results, Try.results12, go_sem]) rfl ⟨rfl, HB.out⟩
                | true =>
                  go_wp2_with fail
                  refine (rate_as (es.take q) _ _ rate burst _ _ ((HRD.out.later HB.out).take q) (by rw [HLT.out]; omega) _ HLT.out (HV7.out (by trivial))).mono ?_
                  rintro e x22 ⟨rfl, hb⟩
                  have HBn := Lib.hid (HB.out.trans (hb.mono HB.out.size))
                  clear hb HB
                  have HB := HBn
                  clear HBn
                  go_wp2_with fail
                  refine (rate_as es _ _ rate (burst + 1) _ _ (HRD.out.later HB.out) (by omega) _ rfl (HV8.out (by trivial))).mono ?_
                  rintro e x23 ⟨rfl, hb⟩
                  have HBn := Lib.hid (HB.out.trans (hb.mono HB.out.size))
                  clear hb HB
                  have HB := HBn
                  clear HBn
                  go_wp2_with fail
                  exact bodyPost_ret (v := .bool true) (by simp [results, Try.results12, go_sem]) rfl ⟨rfl, HB.out⟩
            · have hd9 : decide (0 < gap) = false := decide_eq_false hp
              go_wp2_with fail
              refine (once_as es _ _ _ _ (HRD.out.later HB.out) (by omega) HOK.out _ rfl HV4.out).mono ?_
              rintro e x24 ⟨rfl, hb⟩
              have HBn := Lib.hid (HB.out.trans (hb.mono HB.out.size))
              clear hb HB
              have HB := HBn
              clear HBn
              cases v4 with
              | false =>
                go_wp2_with fail
                refine (awake22 _).mono ?_
                rintro e x25 ⟨rfl, hb⟩
                have HBn := Lib.hid (HB.out.trans (hb.mono HB.out.size))
                clear hb HB
                have HB := HBn
                clear HBn
                go_wp2_with fail
                refine (rate_as es _ _ rate burst _ _ (HRD.out.later HB.out) (by omega) _ rfl HV6.out).mono ?_
                rintro e x26 ⟨rfl, hb⟩
                have HBn := Lib.hid (HB.out.trans (hb.mono HB.out.size))
                clear hb HB
                have HB := HBn
                clear HBn
                cases v6 with
                | false =>
                  go_wp2_with fail
                  exact bodyPost_ret (v := .bool true) (by simp [results, Try.results12, go_sem]) rfl ⟨rfl, HB.out⟩
                | true =>
                  go_wp2_with fail
                  refine (rate_as (es.take q) _ _ rate burst _ _ ((HRD.out.later HB.out).take q) (by rw [HLT.out]; omega) _ HLT.out (HV7.out (by trivial))).mono ?_
                  rintro e x27 ⟨rfl, hb⟩
                  have HBn := Lib.hid (HB.out.trans (hb.mono HB.out.size))
                  clear hb HB
                  have HB := HBn
                  clear HBn
                  go_wp2_with fail
                  refine (rate_as es _ _ rate (burst + 1) _ _ (HRD.out.later HB.out) (by omega) _ rfl (HV8.out (by trivial))).mono ?_
                  rintro e x28 ⟨rfl, hb⟩
                  have HBn := Lib.hid (HB.out.trans (hb.mono HB.out.size))
                  clear hb HB
                  have HB := HBn
                  clear HBn
                  go_wp2_with fail
                  exact bodyPost_ret (v := .bool true) (by simp [results, Try.results12, go_sem]) rfl ⟨rfl, HB.out⟩
              | true =>
                go_wp2_with fail
                refine (once_as (es.take q) _ _ _ _ ((HRD.out.later HB.out).take q) (by rw [HLT.out]; omega) HOT.out _ HLT.out (HV5.out (by trivial))).mono ?_
                rintro e x29 ⟨rfl, hb⟩
                have HBn := Lib.hid (HB.out.trans (hb.mono HB.out.size))
                clear hb HB
                have HB := HBn
                clear HBn
                go_wp2_with fail
                refine (awake22 _).mono ?_
                rintro e x30 ⟨rfl, hb⟩
                have HBn := Lib.hid (HB.out.trans (hb.mono HB.out.size))
                clear hb HB
                have HB := HBn
                clear HBn
                go_wp2_with fail
                refine (rate_as es _ _ rate burst _ _ (HRD.out.later HB.out) (by omega) _ rfl HV6.out).mono ?_
                rintro e x31 ⟨rfl, hb⟩
                have HBn := Lib.hid (HB.out.trans (hb.mono HB.out.size))
                clear hb HB
                have HB := HBn
                clear HBn
                cases v6 with
                | false =>
                  go_wp2_with fail
                  exact bodyPost_ret (v := .bool true) (by simp [results, Try.results12, go_sem]) rfl ⟨rfl, HB.out⟩
                | true =>
                  go_wp2_with fail
                  refine (rate_as (es.take q) _ _ rate burst _ _ ((HRD.out.later HB.out).take q) (by rw [HLT.out]; omega) _ HLT.out (HV7.out (by trivial))).mono ?_
                  rintro e x32 ⟨rfl, hb⟩
                  have HBn := Lib.hid (HB.out.trans (hb.mono HB.out.size))
                  clear hb HB
                  have HB := HBn
                  clear HBn
                  go_wp2_with fail
                  refine (rate_as es _ _ rate (burst + 1) _ _ (HRD.out.later HB.out) (by omega) _ rfl (HV8.out (by trivial))).mono ?_
                  rintro e x33 ⟨rfl, hb⟩
                  have HBn := Lib.hid (HB.out.trans (hb.mono HB.out.size))
                  clear hb HB
                  have HB := HBn
                  clear HBn
                  go_wp2_with fail
                  exact bodyPost_ret (v := .bool true) (by simp [results, Try.results12, go_sem]) rfl ⟨rfl, HB.out⟩
        · have HC0 := Lib.hid hc0
          go_wp2_with fail
          refine (gaps_as es _ _ gap gap _ _ (HRD.out.later HB.out) (by omega) HOK.out _ rfl rfl HV1.out).mono ?_
          rintro e x1 ⟨rfl, hb⟩
          have HBn := Lib.hid (HB.out.trans (hb.mono HB.out.size))
          clear hb HB
          have HB := HBn
          clear HBn
          cases v1 with
          | false =>
            go_wp2_with fail
            refine (once_as es _ _ _ _ (HRD.out.later HB.out) (by omega) HOK.out _ rfl HV4.out).mono ?_
            rintro e x2 ⟨rfl, hb⟩
            have HBn := Lib.hid (HB.out.trans (hb.mono HB.out.size))
            clear hb HB
            have HB := HBn
            clear HBn
            cases v4 with
            | false =>
              go_wp2_with fail
              refine (awake22 _).mono ?_
              rintro e x3 ⟨rfl, hb⟩
              have HBn := Lib.hid (HB.out.trans (hb.mono HB.out.size))
              clear hb HB
              have HB := HBn
              clear HBn
              go_wp2_with fail
              refine (rate_as es _ _ rate burst _ _ (HRD.out.later HB.out) (by omega) _ rfl HV6.out).mono ?_
              rintro e x4 ⟨rfl, hb⟩
              have HBn := Lib.hid (HB.out.trans (hb.mono HB.out.size))
              clear hb HB
              have HB := HBn
              clear HBn
              cases v6 with
              | false =>
                go_wp2_with fail
                exact bodyPost_ret (v := .bool true) (by simp [results, Try.results12, go_sem]) rfl ⟨rfl, HB.out⟩
              | true =>
                go_wp2_with fail
                refine (rate_as (es.take q) _ _ rate burst _ _ ((HRD.out.later HB.out).take q) (by rw [HLT.out]; omega) _ HLT.out (HV7.out (by trivial))).mono ?_
                rintro e x5 ⟨rfl, hb⟩
                have HBn := Lib.hid (HB.out.trans (hb.mono HB.out.size))
                clear hb HB
                have HB := HBn
                clear HBn
                go_wp2_with fail
                refine (rate_as es _ _ rate (burst + 1) _ _ (HRD.out.later HB.out) (by omega) _ rfl (HV8.out (by trivial))).mono ?_
                rintro e x6 ⟨rfl, hb⟩
                have HBn := Lib.hid (HB.out.trans (hb.mono HB.out.size))
                clear hb HB
                have HB := HBn
                clear HBn
                go_wp2_with fail
                exact bodyPost_ret (v := .bool true) (by simp [results, Try.results12, go_sem]) rfl ⟨rfl, HB.out⟩
            | true =>
              go_wp2_with fail
              refine (once_as (es.take q) _ _ _ _ ((HRD.out.later HB.out).take q) (by rw [HLT.out]; omega) HOT.out _ HLT.out (HV5.out (by trivial))).mono ?_
              rintro e x7 ⟨rfl, hb⟩
              have HBn := Lib.hid (HB.out.trans (hb.mono HB.out.size))
              clear hb HB
              have HB := HBn
              clear HBn
              go_wp2_with fail
              refine (awake22 _).mono ?_
              rintro e x8 ⟨rfl, hb⟩
              have HBn := Lib.hid (HB.out.trans (hb.mono HB.out.size))
              clear hb HB
              have HB := HBn
              clear HBn
              go_wp2_with fail
              refine (rate_as es _ _ rate burst _ _ (HRD.out.later HB.out) (by omega) _ rfl HV6.out).mono ?_
              rintro e x9 ⟨rfl, hb⟩
              have HBn := Lib.hid (HB.out.trans (hb.mono HB.out.size))
              clear hb HB
              have HB := HBn
              clear HBn
              cases v6 with
              | false =>
                go_wp2_with fail
                exact bodyPost_ret (v := .bool true) (by simp [results, Try.results12, go_sem]) rfl ⟨rfl, HB.out⟩
              | true =>
                go_wp2_with fail
                refine (rate_as (es.take q) _ _ rate burst _ _ ((HRD.out.later HB.out).take q) (by rw [HLT.out]; omega) _ HLT.out (HV7.out (by trivial))).mono ?_
                rintro e x10 ⟨rfl, hb⟩
                have HBn := Lib.hid (HB.out.trans (hb.mono HB.out.size))
                clear hb HB
                have HB := HBn
                clear HBn
                go_wp2_with fail
                refine (rate_as es _ _ rate (burst + 1) _ _ (HRD.out.later HB.out) (by omega) _ rfl (HV8.out (by trivial))).mono ?_
                rintro e x11 ⟨rfl, hb⟩
                have HBn := Lib.hid (HB.out.trans (hb.mono HB.out.size))
                clear hb HB
                have HB := HBn
                clear HBn
                go_wp2_with fail
                exact bodyPost_ret (v := .bool true) (by simp [results, Try.results12, go_sem]) rfl ⟨rfl, HB.out⟩
          | true =>
            go_wp2_with fail
            refine (gaps_as (es.take q) _ _ gap gap _ _ ((HRD.out.later HB.out).take q) (by rw [HLT.out]; omega) HOT.out _ HLT.out rfl (HV2.out (by trivial))).mono ?_
            rintro e x12 ⟨rfl, hb⟩
            have HBn := Lib.hid (HB.out.trans (hb.mono HB.out.size))
            clear hb HB
            have HB := HBn
            clear HBn
            by_cases hp : 0 < gap
            · have hd9 : decide (0 < gap) = true := decide_eq_true hp
              go_wp2_with fail
              refine (gaps_as es _ _ (gap - 1) (gap - 1) _ _ (HRD.out.later HB.out) (by omega) HOK.out _ rfl rfl (HV3.out (by trivial))).mono ?_
              rintro e x13 ⟨rfl, hb⟩
              have HBn := Lib.hid (HB.out.trans (hb.mono HB.out.size))
              clear hb HB
              have HB := HBn
              clear HBn
              go_wp2_with fail
              refine (once_as es _ _ _ _ (HRD.out.later HB.out) (by omega) HOK.out _ rfl HV4.out).mono ?_
              rintro e x14 ⟨rfl, hb⟩
              have HBn := Lib.hid (HB.out.trans (hb.mono HB.out.size))
              clear hb HB
              have HB := HBn
              clear HBn
              cases v4 with
              | false =>
                go_wp2_with fail
                refine (awake22 _).mono ?_
                rintro e x15 ⟨rfl, hb⟩
                have HBn := Lib.hid (HB.out.trans (hb.mono HB.out.size))
                clear hb HB
                have HB := HBn
                clear HBn
                go_wp2_with fail
                refine (rate_as es _ _ rate burst _ _ (HRD.out.later HB.out) (by omega) _ rfl HV6.out).mono ?_
                rintro e x16 ⟨rfl, hb⟩
                have HBn := Lib.hid (HB.out.trans (hb.mono HB.out.size))
                clear hb HB
                have HB := HBn
                clear HBn
                cases v6 with
                | false =>
                  go_wp2_with fail
                  exact bodyPost_ret (v := .bool true) (by simp [results, Try.results12, go_sem]) rfl ⟨rfl, HB.out⟩
                | true =>
                  go_wp2_with fail
                  refine (rate_as (es.take q) _ _ rate burst _ _ ((HRD.out.later HB.out).take q) (by rw [HLT.out]; omega) _ HLT.out (HV7.out (by trivial))).mono ?_
                  rintro e x17 ⟨rfl, hb⟩
                  have HBn := Lib.hid (HB.out.trans (hb.mono HB.out.size))
                  clear hb HB
                  have HB := HBn
                  clear HBn
                  go_wp2_with fail
                  refine (rate_as es _ _ rate (burst + 1) _ _ (HRD.out.later HB.out) (by omega) _ rfl (HV8.out (by trivial))).mono ?_
                  rintro e x18 ⟨rfl, hb⟩
                  have HBn := Lib.hid (HB.out.trans (hb.mono HB.out.size))
                  clear hb HB
                  have HB := HBn
                  clear HBn
                  go_wp2_with fail
                  exact bodyPost_ret (v := .bool true) (by simp [results, Try.results12, go_sem]) rfl ⟨rfl, HB.out⟩
              | true =>
                go_wp2_with fail
                refine (once_as (es.take q) _ _ _ _ ((HRD.out.later HB.out).take q) (by rw [HLT.out]; omega) HOT.out _ HLT.out (HV5.out (by trivial))).mono ?_
                rintro e x19 ⟨rfl, hb⟩
                have HBn := Lib.hid (HB.out.trans (hb.mono HB.out.size))
                clear hb HB
                have HB := HBn
                clear HBn
                go_wp2_with fail
                refine (awake22 _).mono ?_
                rintro e x20 ⟨rfl, hb⟩
                have HBn := Lib.hid (HB.out.trans (hb.mono HB.out.size))
                clear hb HB
                have HB := HBn
                clear HBn
                go_wp2_with fail
                refine (rate_as es _ _ rate burst _ _ (HRD.out.later HB.out) (by omega) _ rfl HV6.out).mono ?_
                rintro e x21 ⟨rfl, hb⟩
                have HBn := Lib.hid (HB.out.trans (hb.mono HB.out.size))
                clear hb HB
                have HB := HBn
                clear HBn
                cases v6 with
                | false =>
                  go_wp2_with fail
                  exact bodyPost_ret (v := .bool true) (by simp [results, Try.results12, go_sem]) rfl ⟨rfl, HB.out⟩
                | true =>
                  go_wp2_with fail
                  refine (rate_as (es.take q) _ _ rate burst _ _ ((HRD.out.later HB.out).take q) (by rw [HLT.out]; omega) _ HLT.out (HV7.out (by trivial))).mono ?_
                  rintro e x22 ⟨rfl, hb⟩
                  have HBn := Lib.hid (HB.out.trans (hb.mono HB.out.size))
                  clear hb HB
                  have HB := HBn
                  clear HBn
                  go_wp2_with fail
                  refine (rate_as es _ _ rate (burst + 1) _ _ (HRD.out.later HB.out) (by omega) _ rfl (HV8.out (by trivial))).mono ?_
                  rintro e x23 ⟨rfl, hb⟩
                  have HBn := Lib.hid (HB.out.trans (hb.mono HB.out.size))
                  clear hb HB
                  have HB := HBn
                  clear HBn
                  go_wp2_with fail
                  exact bodyPost_ret (v := .bool true) (by simp [results, Try.results12, go_sem]) rfl ⟨rfl, HB.out⟩
            · have hd9 : decide (0 < gap) = false := decide_eq_false hp
              go_wp2_with fail
              refine (once_as es _ _ _ _ (HRD.out.later HB.out) (by omega) HOK.out _ rfl HV4.out).mono ?_
              rintro e x24 ⟨rfl, hb⟩
              have HBn := Lib.hid (HB.out.trans (hb.mono HB.out.size))
              clear hb HB
              have HB := HBn
              clear HBn
              cases v4 with
              | false =>
                go_wp2_with fail
                refine (awake22 _).mono ?_
                rintro e x25 ⟨rfl, hb⟩
                have HBn := Lib.hid (HB.out.trans (hb.mono HB.out.size))
                clear hb HB
                have HB := HBn
                clear HBn
                go_wp2_with fail
                refine (rate_as es _ _ rate burst _ _ (HRD.out.later HB.out) (by omega) _ rfl HV6.out).mono ?_
                rintro e x26 ⟨rfl, hb⟩
                have HBn := Lib.hid (HB.out.trans (hb.mono HB.out.size))
                clear hb HB
                have HB := HBn
                clear HBn
                cases v6 with
                | false =>
                  go_wp2_with fail
                  exact bodyPost_ret (v := .bool true) (by simp [results, Try.results12, go_sem]) rfl ⟨rfl, HB.out⟩
                | true =>
                  go_wp2_with fail
                  refine (rate_as (es.take q) _ _ rate burst _ _ ((HRD.out.later HB.out).take q) (by rw [HLT.out]; omega) _ HLT.out (HV7.out (by trivial))).mono ?_
                  rintro e x27 ⟨rfl, hb⟩
                  have HBn := Lib.hid (HB.out.trans (hb.mono HB.out.size))
                  clear hb HB
                  have HB := HBn
                  clear HBn
                  go_wp2_with fail
                  refine (rate_as es _ _ rate (burst + 1) _ _ (HRD.out.later HB.out) (by omega) _ rfl (HV8.out (by trivial))).mono ?_
                  rintro e x28 ⟨rfl, hb⟩
                  have HBn := Lib.hid (HB.out.trans (hb.mono HB.out.size))
                  clear hb HB
                  have HB := HBn
                  clear HBn
                  go_wp2_with fail
                  exact bodyPost_ret (v := .bool true) (by simp [results, Try.results12, go_sem]) rfl ⟨rfl, HB.out⟩
              | true =>
                go_wp2_with fail
                refine (once_as (es.take q) _ _ _ _ ((HRD.out.later HB.out).take q) (by rw [HLT.out]; omega) HOT.out _ HLT.out (HV5.out (by trivial))).mono ?_
                rintro e x29 ⟨rfl, hb⟩
                have HBn := Lib.hid (HB.out.trans (hb.mono HB.out.size))
                clear hb HB
                have HB := HBn
                clear HBn
                go_wp2_with fail
                refine (awake22 _).mono ?_
                rintro e x30 ⟨rfl, hb⟩
                have HBn := Lib.hid (HB.out.trans (hb.mono HB.out.size))
                clear hb HB
                have HB := HBn
                clear HBn
                go_wp2_with fail
                refine (rate_as es _ _ rate burst _ _ (HRD.out.later HB.out) (by omega) _ rfl HV6.out).mono ?_
                rintro e x31 ⟨rfl, hb⟩
                have HBn := Lib.hid (HB.out.trans (hb.mono HB.out.size))
                clear hb HB
                have HB := HBn
                clear HBn
                cases v6 with
                | false =>
                  go_wp2_with fail
                  exact bodyPost_ret (v := .bool true) (by simp [results, Try.results12, go_sem]) rfl ⟨rfl, HB.out⟩
                | true =>
                  go_wp2_with fail
                  refine (rate_as (es.take q) _ _ rate burst _ _ ((HRD.out.later HB.out).take q) (by rw [HLT.out]; omega) _ HLT.out (HV7.out (by trivial))).mono ?_
                  rintro e x32 ⟨rfl, hb⟩
                  have HBn := Lib.hid (HB.out.trans (hb.mono HB.out.size))
                  clear hb HB
                  have HB := HBn
                  clear HBn
                  go_wp2_with fail
                  refine (rate_as es _ _ rate (burst + 1) _ _ (HRD.out.later HB.out) (by omega) _ rfl (HV8.out (by trivial))).mono ?_
                  rintro e x33 ⟨rfl, hb⟩
                  have HBn := Lib.hid (HB.out.trans (hb.mono HB.out.size))
                  clear hb HB
                  have HB := HBn
                  clear HBn
                  go_wp2_with fail
                  exact bodyPost_ret (v := .bool true) (by simp [results, Try.results12, go_sem]) rfl ⟨rfl, HB.out⟩
end Go.Proofs.Ytelakgbpfnlpiaa
