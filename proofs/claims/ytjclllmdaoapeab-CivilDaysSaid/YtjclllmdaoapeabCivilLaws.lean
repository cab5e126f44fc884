/- The laws of layer 2, walked. -/
import Derived.Test.YtjclllmdaoapeabCivil3
namespace Go.Proofs.Ytjclllmdaoapeab
open Go.RowKit

theorem days_as (y m d v : Int) (h : Valid y m d) (hv : num y m d = v) (w : World) :
    Calls Try.prog 11 #[.int .i64 y, .int .i64 m, .int .i64 d] w fun e w' => e = .returned (.tuple #[.int .i64 v, .bool true]) ∧ w = w' := hv ▸ days_yes y m d h w
theorem rdays_as (y m d v : Int) (h : Valid y m d) (hv : num y m d = v) (w : World) :
    Calls Try.prog 12 #[.int .i64 y, .int .i64 m, .int .i64 d] w fun e w' => e = .returned (.tuple #[.int .i64 v, .bool true]) ∧ Below w.heap.size w w' := hv ▸ rdays_yes y m d h w
theorem date_at (n y m d : Int) (h : Valid y m d) (hn : num y m d = n) (w : World) :
    Calls Try.prog 18 #[.int .i64 n] w fun e w' => e = .returned (.tuple #[.int .i64 y, .int .i64 m, .int .i64 d, .bool true]) ∧ w = w' := hn ▸ date_as y m d h w
theorem week_as (n v : Int) (hn : -9223372036854775808 ≤ n) (hn2 : n ≤ 9223372036854775807) (h : (n + 3) % 7 = v) (w : World) :
    Calls Try.prog 19 #[.int .i64 n] w fun e w' => e = .returned (.int .i64 v) ∧ w = w' := h ▸ week_any n hn hn2 w

theorem valid_1 : Valid 2026 11 15 := by unfold Valid; rw [lenI_30 _ _ (by omega)]; omega
theorem num_1 : num 2026 11 15 = 20772 := by decide

set_option maxHeartbeats 400000 in
theorem awake2 (w : World) : Calls Try.prog 13 #[] w fun e w' => e = .returned (.bool true) ∧ w = w' := by
  go_enter Try.func13, Try.ntmps13
  go_wp2_with (first
    | (go_at_call 11; refine (days_as _ _ _ _ valid_1 num_1 _).mono ?_; rintro e w' ⟨rfl, rfl⟩)
    | (go_at_call 18; refine (date_at _ _ _ _ valid_1 num_1 _).mono ?_; rintro e w' ⟨rfl, rfl⟩)
    | (go_at_call 19; refine (week_as _ 6 (by omega) (by omega) (by decide) _).mono ?_; rintro e w' ⟨rfl, rfl⟩)
    | (go_at_call 16; refine (leap_as _ true (by decide) _).mono ?_; rintro e w' ⟨rfl, rfl⟩)
    | (go_at_call 14; refine (len_as _ _ 28 (by decide) _).mono ?_; rintro e w' ⟨rfl, rfl⟩))
  go_ret
  exact ⟨rfl, rfl⟩

set_option maxHeartbeats 1000000 in
theorem civilDays_walk (y m d : Int) (w : World) (_w0 : (Lit.int .i64 y).wf = true) (_w1 : (Lit.int .i64 m).wf = true) (_w2 : (Lit.int .i64 d).wf = true) :
    Calls Try.prog 3 #[.int .i64 y, .int .i64 m, .int .i64 d] w fun e w' => e = .returned (.bool true) ∧ Below w.heap.size w w' := by
  by_cases h : Valid y m d
  · have H := Lib.hid h
    clear h
    go_enter Try.func3, Try.ntmps3
    go_wp2_with (first
      | (go_at_call 13; refine (awake2 _).mono ?_; rintro e w' ⟨rfl, rfl⟩)
      | (go_at_call 11; refine (days_yes _ _ _ H.out _).mono ?_; rintro e w' ⟨rfl, rfl⟩)
      | (go_at_call 12; refine (rdays_yes _ _ _ H.out _).mono ?_; rintro e w1 ⟨rfl, hb1⟩)
      | (go_at_call 14; refine (len_any _ _ _).mono ?_; rintro e w' ⟨rfl, rfl⟩)
      | (go_at_call 15; refine (rlen_any _ _ _).mono ?_; rintro e w2 ⟨rfl, hb2⟩)
      | (go_at_call 16; refine (leap_any _ _).mono ?_; rintro e w' ⟨rfl, rfl⟩)
      | (go_at_call 17; refine (rleap_any _ _).mono ?_; rintro e w' ⟨rfl, rfl⟩))
    go_ret
    exact ⟨ret_bool (by simp), hb1.trans (hb2.mono hb1.size)⟩
  · have H := Lib.hid h
    clear h
    go_enter Try.func3, Try.ntmps3
    go_wp2_with (first
      | (go_at_call 13; refine (awake2 _).mono ?_; rintro e w' ⟨rfl, rfl⟩)
      | (go_at_call 11; refine (days_no _ _ _ H.out _).mono ?_; rintro e w' ⟨rfl, rfl⟩)
      | (go_at_call 12; refine (rdays_no _ _ _ H.out _).mono ?_; rintro e w1 ⟨rfl, hb1⟩)
      | (go_at_call 14; refine (len_any _ _ _).mono ?_; rintro e w' ⟨rfl, rfl⟩)
      | (go_at_call 15; refine (rlen_any _ _ _).mono ?_; rintro e w2 ⟨rfl, hb2⟩)
      | (go_at_call 16; refine (leap_any _ _).mono ?_; rintro e w' ⟨rfl, rfl⟩)
      | (go_at_call 17; refine (rleap_any _ _).mono ?_; rintro e w' ⟨rfl, rfl⟩))
    go_ret
    exact ⟨ret_bool (by simp), hb1.trans (hb2.mono hb1.size)⟩

theorem valid_first : Valid 0 1 1 := by unfold Valid; rw [lenI_31 _ _ (by omega)]; omega
theorem valid_last : Valid 9999 12 31 := by unfold Valid; rw [lenI_31 _ _ (by omega)]; omega
theorem num_first : num 0 1 1 = -719528 := by decide
theorem num_last : num 9999 12 31 = 2932896 := by decide

set_option maxHeartbeats 1000000 in
theorem civilDates_walk (n : Int) (w : World) (_w0 : (Lit.int .i64 n).wf = true) :
    Calls Try.prog 4 #[.int .i64 n] w fun e w' => e = .returned (.bool true) ∧ Below w.heap.size w w' := by
  by_cases h1 : n < -719528
  · have g1 : decide (n < -719528) = true := decide_eq_true h1
    go_enter Try.func4, Try.ntmps4
    go_wp2_with (first
      | (go_at_call 13; refine (awake2 _).mono ?_; rintro e w' ⟨rfl, rfl⟩)
      | (go_at_call 18; refine (date_no _ (by omega) _).mono ?_; rintro e w' ⟨rfl, rfl⟩)
      | (go_at_call 12; with_reducible refine (rdays_as 0 1 1 _ valid_first num_first _).mono ?_; rintro e w1 ⟨rfl, hb1⟩)
      | (go_at_call 12; with_reducible refine (rdays_as 9999 12 31 _ valid_last num_last _).mono ?_; rintro e w2 ⟨rfl, hb2⟩))
    go_ret
    exact ⟨rfl, hb1.trans (hb2.mono hb1.size)⟩
  · by_cases h2 : 2932896 < n
    · have g1 : decide (n < -719528) = false := decide_eq_false h1
      have g2 : decide (2932896 < n) = true := decide_eq_true h2
      go_enter Try.func4, Try.ntmps4
      go_wp2_with (first
        | (go_at_call 13; refine (awake2 _).mono ?_; rintro e w' ⟨rfl, rfl⟩)
        | (go_at_call 18; refine (date_no _ (by omega) _).mono ?_; rintro e w' ⟨rfl, rfl⟩)
        | (go_at_call 12; with_reducible refine (rdays_as 0 1 1 _ valid_first num_first _).mono ?_; rintro e w1 ⟨rfl, hb1⟩)
        | (go_at_call 12; with_reducible refine (rdays_as 9999 12 31 _ valid_last num_last _).mono ?_; rintro e w2 ⟨rfl, hb2⟩))
      go_ret
      exact ⟨rfl, hb1.trans (hb2.mono hb1.size)⟩
    · have g1 : decide (n < -719528) = false := decide_eq_false h1
      have g2 : decide (2932896 < n) = false := decide_eq_false h2
      go_enter Try.func4, Try.ntmps4
      go_wp2_with (first
        | (go_at_call 13; refine (awake2 _).mono ?_; rintro e w' ⟨rfl, rfl⟩)
        | (go_at_call 18; refine (date_yes _ (by omega) (by omega) _).mono ?_; rintro e w' ⟨y, m, d, hv, hn, rfl, rfl⟩; have HV := Lib.hid hv; have HN := Lib.hid hn; clear hv hn)
        | (go_at_call 12; with_reducible refine (rdays_as 0 1 1 _ valid_first num_first _).mono ?_; rintro e w1 ⟨rfl, hb1⟩)
        | (go_at_call 12; with_reducible refine (rdays_as 9999 12 31 _ valid_last num_last _).mono ?_; rintro e w2 ⟨rfl, hb2⟩)
        | (go_at_call 12; with_reducible refine (rdays_as y m d _ HV.out HN.out _).mono ?_; rintro e w3 ⟨rfl, hb3⟩))
      go_ret
      exact ⟨ret_bool (by simp), hb1.trans ((hb2.trans (hb3.mono hb2.size)).mono hb1.size)⟩

set_option maxHeartbeats 400000 in
theorem civilWeeks_walk (n : Int) (w : World) (w0 : (Lit.int .i64 n).wf = true) :
    Calls Try.prog 5 #[.int .i64 n] w fun e w' => e = .returned (.bool true) ∧ Below w.heap.size w w' := by
  obtain ⟨n0, n1⟩ := bounds_i64 w0
  clear w0
  have hlo : 0 ≤ (n + 3) % 7 := by omega
  by_cases h : 0 ≤ n
  · have H := Lib.hid (show (n + 3) % 7 = (n % 7 + 3) % 7 by omega)
    have hm : 0 ≤ n % 7 := by omega
    have hm2 : n % 7 ≤ 6 := by omega
    go_enter Try.func5, Try.ntmps5
    go_wp2_with (first
      | (go_at_call 13; refine (awake2 _).mono ?_; rintro e w' ⟨rfl, rfl⟩)
      | (go_at_call 19; refine (week_as _ _ n0 n1 H.out _).mono ?_; rintro e w' ⟨rfl, rfl⟩))
    go_ret
    exact ⟨ret_bool (by simp), Below.refl _ _⟩
  · obtain ⟨t, ht⟩ : ∃ t, n.tmod 7 = t := ⟨_, rfl⟩
    have ht2 : t = -((-n) % 7) := by
      rw [← ht]
      obtain ⟨m, rfl⟩ : ∃ m, n = -m := ⟨-n, by omega⟩
      rw [Int.neg_tmod, Int.tmod_eq_emod_of_nonneg (by omega), Int.neg_neg]
    have t0 : -6 ≤ t := by omega
    have t1 : t ≤ 0 := by omega
    by_cases h0 : t = 0
    · subst h0
      have H := Lib.hid (show (n + 3) % 7 = 3 by omega)
      clear ht2
      go_enter Try.func5, Try.ntmps5
      go_wp2_with (first
        | (go_at_call 13; refine (awake2 _).mono ?_; rintro e w' ⟨rfl, rfl⟩)
        | (go_at_call 19; refine (week_as _ _ n0 n1 H.out _).mono ?_; rintro e w' ⟨rfl, rfl⟩))
      go_ret
      exact ⟨ret_bool (by simp), Below.refl _ _⟩
    · have H := Lib.hid (show (n + 3) % 7 = (t + 7 + 3) % 7 by omega)
      have t2 : t < 0 := by omega
      clear ht2 h0
      go_enter Try.func5, Try.ntmps5
      go_wp2_with (first
        | (go_at_call 13; refine (awake2 _).mono ?_; rintro e w' ⟨rfl, rfl⟩)
        | (go_at_call 19; refine (week_as _ _ n0 n1 H.out _).mono ?_; rintro e w' ⟨rfl, rfl⟩))
      go_ret
      exact ⟨ret_bool (by simp), Below.refl _ _⟩

/-- Of two days that follow each other. -/
theorem next_day (y m d a b c : Int) (h : Valid y m d) (g : Valid a b c) (hn : num a b c = num y m d + 1) :
    (d < lenI y m ∧ a = y ∧ b = m ∧ c = d + 1) ∨ (¬ d < lenI y m ∧ m < 12 ∧ a = y ∧ b = m + 1 ∧ c = 1) ∨ (¬ d < lenI y m ∧ m = 12 ∧ a = y + 1 ∧ b = 1 ∧ c = 1) := by
  by_cases h1 : d < lenI y m
  · have s := num_next y m d h h1
    obtain ⟨rfl, rfl, rfl⟩ := num_inj a b c y m (d + 1) g s.1 (by omega)
    exact .inl ⟨h1, rfl, rfl, rfl⟩
  · by_cases h2 : m < 12
    · have s := num_month y m d h h1 h2
      obtain ⟨rfl, rfl, rfl⟩ := num_inj a b c y (m + 1) 1 g s.1 (by omega)
      exact .inr (.inl ⟨h1, h2, rfl, rfl, rfl⟩)
    · have hm : m = 12 := by have := h.2.2.2.1; omega
      have hy : y + 1 ≤ 9999 := by
        by_cases e : y = 9999
        · have hr := num_range a b c g
          subst e; subst hm
          have hl := lenI_31 9999 12 (by omega)
          have hd := h.2.2.2.2.2
          have : num 9999 12 d = 2932896 := by
            rw [show d = 31 by omega]; exact num_last
          omega
        · have := h.2.1; omega
      have s := num_year y m d h h1 hm hy
      obtain ⟨rfl, rfl, rfl⟩ := num_inj a b c (y + 1) 1 1 g s.1 (by omega)
      exact .inr (.inr ⟨h1, hm, rfl, rfl, rfl⟩)

set_option maxHeartbeats 1000000 in
theorem civilNext_walk (n : Int) (w : World) (w0 : (Lit.int .u32 n).wf = true) :
    Calls Try.prog 6 #[.int .u32 n] w fun e w' => e = .returned (.bool true) ∧ Below w.heap.size w w' := by
  obtain ⟨n0, n1⟩ := bounds_u32 w0
  clear w0
  obtain ⟨k0, k1⟩ : 0 ≤ n % 3652000 ∧ n % 3652000 < 3652000 := by omega
  by_cases h1 : 2932896 < n % 3652000 - 719000
  · go_enter Try.func6, Try.ntmps6
    go_wp2_with (first
      | (go_at_call 13; refine (awake2 _).mono ?_; rintro e w' ⟨rfl, rfl⟩)
      | (go_at_call 18; refine (date_no _ (by omega) _).mono ?_; rintro e w' ⟨rfl, rfl⟩))
    go_ret
    exact ⟨rfl, Below.refl _ _⟩
  · by_cases h2 : n % 3652000 - 719000 = 2932896
    · have hk : n % 3652000 = 3651896 := by omega
      have HK := Lib.hid hk
      have b1 : 3651896 ≤ n % 3652000 := by omega
      have b2 : n % 3652000 ≤ 3651896 := by omega
      clear hk h2 h1 k1
      go_enter Try.func6, Try.ntmps6
      go_wp2_with fail
      refine (date_yes _ (by omega) (by omega) _).mono ?_
      rintro e w' ⟨y, m, d, hv, hn, rfl, rfl⟩
      have HV := Lib.hid hv
      have HN := Lib.hid hn
      clear hv hn
      go_wp2_with fail
      refine (date_no _ (by omega) _).mono ?_
      rintro e w' ⟨rfl, rfl⟩
      go_wp2_with (go_at_call 13; refine (awake2 _).mono ?_; rintro e w' ⟨rfl, rfl⟩)
      go_ret
      exact ⟨rfl, Below.refl _ _⟩
    · have b2 : n % 3652000 - 719000 ≤ 2932895 := by omega
      clear h2 h1 k1
      go_enter Try.func6, Try.ntmps6
      go_wp2_with fail
      refine (date_yes _ (by omega) (by omega) _).mono ?_
      rintro e w' ⟨y, m, d, hv, hn, rfl, rfl⟩
      have HV := Lib.hid hv
      have HN := Lib.hid hn
      clear hv hn
      go_wp2_with fail
      refine (date_yes _ (by omega) (by omega) _).mono ?_
      rintro e w' ⟨a, b, c, gv, gn, rfl, rfl⟩
      have hc := next_day y m d a b c HV.out gv (by rw [gn, HN.out])
      have y0 := HV.out.1
      have y1 := HV.out.2.1
      have m1 := HV.out.2.2.1
      have m2 := HV.out.2.2.2.1
      have d1 := HV.out.2.2.2.2.1
      have d2 := HV.out.2.2.2.2.2
      have hl := lenI_bd y m
      obtain ⟨l, hL⟩ : ∃ l, lenI y m = l := ⟨_, rfl⟩
      rw [hL] at hc d2 hl
      obtain ⟨l0, l1⟩ := hl
      have HL := Lib.hid hL
      clear gv gn hL HV HN
      rcases hc with ⟨hd, rfl, rfl, rfl⟩ | ⟨hd, hm, rfl, rfl, rfl⟩ | ⟨hd, rfl, rfl, rfl, rfl⟩
      · go_wp2_with (first
          | (go_at_call 13; refine (awake2 _).mono ?_; rintro e w' ⟨rfl, rfl⟩)
          | (go_at_call 14; refine (len_as _ _ _ HL.out _).mono ?_; rintro e w' ⟨rfl, rfl⟩))
        go_ret
        exact ⟨ret_bool (by simp), Below.refl _ _⟩
      · have g1 : decide (m < 12) = true := decide_eq_true hm
        go_wp2_with (first
          | (go_at_call 13; refine (awake2 _).mono ?_; rintro e w' ⟨rfl, rfl⟩)
          | (go_at_call 14; refine (len_as _ _ _ HL.out _).mono ?_; rintro e w' ⟨rfl, rfl⟩))
        all_goals go_ret
        all_goals exact ⟨ret_bool (by simp), Below.refl _ _⟩
      · go_wp2_with (first
          | (go_at_call 13; refine (awake2 _).mono ?_; rintro e w' ⟨rfl, rfl⟩)
          | (go_at_call 14; refine (len_as _ _ _ HL.out _).mono ?_; rintro e w' ⟨rfl, rfl⟩))
        all_goals go_ret
        all_goals exact ⟨ret_bool (by simp), Below.refl _ _⟩

set_option maxHeartbeats 1000000 in
theorem civilYears_walk (y m d : Int) (w : World) (w0 : (Lit.int .u16 y).wf = true) (w1 : (Lit.int .u8 m).wf = true) (w2 : (Lit.int .u8 d).wf = true) :
    Calls Try.prog 7 #[.int .u16 y, .int .u8 m, .int .u8 d] w fun e w' => e = .returned (.bool true) ∧ Below w.heap.size w w' := by
  obtain ⟨y0, y1⟩ := bounds_u16 w0
  obtain ⟨m0, m1⟩ := bounds_u8 w1
  obtain ⟨d0, d1⟩ := bounds_u8 w2
  clear w0 w1 w2
  obtain ⟨n0, n1⟩ : 0 ≤ y % 9600 ∧ y % 9600 < 9600 := by omega
  obtain ⟨p0, p1⟩ : 0 ≤ m % 14 ∧ m % 14 < 14 := by omega
  obtain ⟨q0, q1⟩ : 0 ≤ d % 33 ∧ d % 33 < 33 := by omega
  have C1 := Lib.hid (cumI_one (y % 9600))
  have CY := Lib.hid (cumI_year (y % 9600))
  go_enter Try.func7, Try.ntmps7
  go_wp2
  go_loop [8, 9] (fun s i => ∃ k : Int, 1 ≤ k ∧ k ≤ 13 ∧ i = .int .i64 k ∧ ∃ z : Int, 0 ≤ z ∧ z ≤ 366 ∧ Hid (z = cumI (y % 9600) k) ∧ s = .int .i64 z) (fun _ i => (13 - intOf i).toNat)
  case atStart => exact ⟨1, by omega, by omega, rfl, 0, by omega, by omega, Lib.hid C1.out.symm, rfl⟩
  case round =>
    obtain ⟨k, k1, k2, rfl, z, z0, z1, HZ, rfl⟩ := hrel
    by_cases hlt : k ≤ 12
    · obtain ⟨l, hl⟩ : ∃ l, lenI (y % 9600) k = l := ⟨_, rfl⟩
      have hb := lenI_bd (y % 9600) k
      rw [hl] at hb
      obtain ⟨l0, l1⟩ := hb
      have hs := cumI_succ (y % 9600) k k1 hlt
      have hb2 := (cumI_bd (y % 9600) (k + 1) (by omega) (by omega)).2
      rw [hs, hl, ← HZ.out] at hb2
      have HS : Hid (z + l = cumI (y % 9600) (k + 1)) := Lib.hid (by rw [hs, hl, HZ.out])
      have HL := Lib.hid hl
      clear hl hs
      go_wp2_with (go_at_call 14; refine (len_as _ _ _ HL.out _).mono ?_; rintro e w' ⟨rfl, rfl⟩)
      go_round
      case rel => exact ⟨k + 1, by omega, by omega, rfl, z + l, by omega, hb2, HS, rfl⟩
      case measure => simp [intOf]; omega
    · have hz : z = 365 + lp (y % 9600) := by rw [HZ.out, show k = 13 by omega, CY.out]
      by_cases hv : Valid (y % 9600) (m % 14) (d % 33)
      · have hv4 : Valid (y % 9600 + 400) (m % 14) (d % 33) := by
          obtain ⟨a1, a2, a3, a4, a5, a6⟩ := hv
          exact ⟨by omega, by omega, a3, a4, a5, by rw [lenI_400]; exact a6⟩
        have hr := num_range _ _ _ hv
        have hn4 := num_400 (y % 9600) (m % 14) (d % 33)
        obtain ⟨a, ha⟩ : ∃ a, num (y % 9600) (m % 14) (d % 33) = a := ⟨_, rfl⟩
        rw [ha] at hr hn4
        obtain ⟨r0, r1⟩ := hr
        have HW := Lib.hid (show (a + 146097 + 3) % 7 = (a + 3) % 7 by omega)
        have HV := Lib.hid hv
        have HV4 := Lib.hid hv4
        have HA := Lib.hid ha
        have HN4 := Lib.hid hn4
        cases hb : leapB (y % 9600)
        · rw [lp_no hb] at hz
          have HB := Lib.hid hb
          obtain rfl : z = 365 := by omega
          clear hb hz hv hv4 ha hn4 HZ
          go_wp2_with (first
            | (go_at_call 13; refine (awake2 _).mono ?_; rintro e w' ⟨rfl, rfl⟩)
            | (go_at_call 16; refine (leap_as _ _ HB.out _).mono ?_; rintro e w' ⟨rfl, rfl⟩)
            | (go_at_call 11; (first | (with_reducible refine (days_as (y % 9600) _ _ a HV.out HA.out _).mono ?_) | (with_reducible refine (days_as (y % 9600 + 400) _ _ _ HV4.out HN4.out _).mono ?_)); rintro e w' ⟨rfl, rfl⟩)
            | (go_at_call 19; (first | (with_reducible refine (week_any a (by omega) (by omega) _).mono ?_) | (with_reducible refine (week_as (a + 146097) _ (by omega) (by omega) HW.out _).mono ?_)); rintro e w' ⟨rfl, rfl⟩))
          go_ret
          exact ⟨ret_bool (by simp), Below.refl _ _⟩
        · rw [lp_yes hb] at hz
          have HB := Lib.hid hb
          obtain rfl : z = 366 := by omega
          clear hb hz hv hv4 ha hn4 HZ
          go_wp2_with (first
            | (go_at_call 13; refine (awake2 _).mono ?_; rintro e w' ⟨rfl, rfl⟩)
            | (go_at_call 16; refine (leap_as _ _ HB.out _).mono ?_; rintro e w' ⟨rfl, rfl⟩)
            | (go_at_call 11; (first | (with_reducible refine (days_as (y % 9600) _ _ a HV.out HA.out _).mono ?_) | (with_reducible refine (days_as (y % 9600 + 400) _ _ _ HV4.out HN4.out _).mono ?_)); rintro e w' ⟨rfl, rfl⟩)
            | (go_at_call 19; (first | (with_reducible refine (week_any a (by omega) (by omega) _).mono ?_) | (with_reducible refine (week_as (a + 146097) _ (by omega) (by omega) HW.out _).mono ?_)); rintro e w' ⟨rfl, rfl⟩))
          go_ret
          exact ⟨ret_bool (by simp), Below.refl _ _⟩
      · have hv4 : ¬ Valid (y % 9600 + 400) (m % 14) (d % 33) := by
          intro g
          obtain ⟨a1, a2, a3, a4, a5, a6⟩ := g
          exact hv ⟨by omega, by omega, a3, a4, a5, by rw [lenI_400] at a6; exact a6⟩
        have HV := Lib.hid hv
        have HV4 := Lib.hid hv4
        cases hb : leapB (y % 9600)
        · rw [lp_no hb] at hz
          have HB := Lib.hid hb
          obtain rfl : z = 365 := by omega
          clear hb hz hv hv4 HZ
          go_wp2_with (first
            | (go_at_call 13; refine (awake2 _).mono ?_; rintro e w' ⟨rfl, rfl⟩)
            | (go_at_call 16; refine (leap_as _ _ HB.out _).mono ?_; rintro e w' ⟨rfl, rfl⟩)
            | (go_at_call 11; (first | (with_reducible refine (days_no (y % 9600) _ _ HV.out _).mono ?_) | (with_reducible refine (days_no (y % 9600 + 400) _ _ HV4.out _).mono ?_)); rintro e w' ⟨rfl, rfl⟩))
          go_ret
          exact ⟨rfl, Below.refl _ _⟩
        · rw [lp_yes hb] at hz
          have HB := Lib.hid hb
          obtain rfl : z = 366 := by omega
          clear hb hz hv hv4 HZ
          go_wp2_with (first
            | (go_at_call 13; refine (awake2 _).mono ?_; rintro e w' ⟨rfl, rfl⟩)
            | (go_at_call 16; refine (leap_as _ _ HB.out _).mono ?_; rintro e w' ⟨rfl, rfl⟩)
            | (go_at_call 11; (first | (with_reducible refine (days_no (y % 9600) _ _ HV.out _).mono ?_) | (with_reducible refine (days_no (y % 9600 + 400) _ _ HV4.out _).mono ?_)); rintro e w' ⟨rfl, rfl⟩))
          go_ret
          exact ⟨rfl, Below.refl _ _⟩

end Go.Proofs.Ytjclllmdaoapeab
