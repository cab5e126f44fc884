/- Dates, weekdays, and the laws of layer 2, walked. -/
import Derived.Test.YtodibjpojfipoaaGreatDoorCivil2
namespace Go.Proofs.YtodibjpojfipoaaGreatDoor
open Go.RowKit

theorem four_results {fn : Func} {a b c d : Tmp} (h : fn.results = #[.tmp a, .tmp b, .tmp c, .tmp d]) (ts : Array Value) (P : Program) (w : World) :
    (results fn ts).run P w = .ok (.tuple #[ts.getD a undef, ts.getD b undef, ts.getD c undef, ts.getD d undef]) w := by simp [results, h]

/-- What Date returns for a number in the calendar: the day that has it. -/
def DatePost (n : Int) (w : World) (e : Ending) (w' : World) : Prop :=
  ∃ y m d : Int, Valid y m d ∧ num y m d = n ∧ e = .returned (.tuple #[.int .i64 y, .int .i64 m, .int .i64 d, .bool true]) ∧ w = w'

theorem ret_date {y m a b : Int} (h : a = b) : Ending.returned (.tuple #[.int .i64 y, .int .i64 m, .int .i64 a, .bool true]) = .returned (.tuple #[.int .i64 y, .int .i64 m, .int .i64 b, .bool true]) := by rw [h]

set_option maxHeartbeats 400000 in
theorem date_no (n : Int) (h : n < -719528 ∨ 2932896 < n) (w : World) :
    Calls Tryz.prog 107 #[.int .i64 n] w fun e w' => e = .returned (.tuple #[.int .i64 0, .int .i64 0, .int .i64 0, .bool false]) ∧ w = w' := by
  rcases h with h | h
  · have g1 : decide (n < -719528) = true := decide_eq_true h
    go_enter Tryz.func107, Tryz.ntmps107
    go_wp2
    refine bodyPost_ret (four_results rfl _ _ _) rfl ?_
    exact ⟨rfl, rfl⟩
  · have g1 : decide (n < -719528) = false := decide_eq_false (by omega)
    have g2 : decide (2932897 ≤ n) = true := decide_eq_true (by omega)
    go_enter Tryz.func107, Tryz.ntmps107
    go_wp2_with (go_at_call 109; refine (bef_as _ _ (by omega) (by omega) bef_top _).mono ?_; rintro e w' ⟨rfl, rfl⟩)
    refine bodyPost_ret (four_results rfl _ _ _) rfl ?_
    exact ⟨rfl, rfl⟩

set_option maxHeartbeats 1000000 in
theorem date_yes (n : Int) (h1 : -719528 ≤ n) (h2 : n ≤ 2932896) (w : World) :
    Calls Tryz.prog 107 #[.int .i64 n] w (DatePost n w) := by
  have g1 : decide (n < -719528) = false := decide_eq_false (by omega)
  have g2 : decide (2932897 ≤ n) = false := decide_eq_false (by omega)
  have gs := bef_guess (n + 719528) (by omega)
  have GS := Lib.hid gs
  clear gs
  go_enter Tryz.func107, Tryz.ntmps107
  go_wp2_with (go_at_call 109; refine (bef_as _ _ (by omega) (by omega) bef_top _).mono ?_; rintro e w' ⟨rfl, rfl⟩)
  clear g1 g2
  go_loop [2] (fun x => ∃ y : Int, 0 ≤ y ∧ y ≤ 9999 ∧ Hid (bef y ≤ n + 719528) ∧ x = .int .i64 y) (fun x => (10000 - intOf x).toNat)
  case atStart => exact ⟨_, by omega, by omega, GS, rfl⟩
  case round =>
    obtain ⟨y, y0, y1, HY, rfl⟩ := hrel
    obtain ⟨b, hb⟩ : ∃ b, bef (y + 1) = b := ⟨_, rfl⟩
    have hbb := bef_bd (y + 1) (by omega) (by omega)
    rw [hb] at hbb
    obtain ⟨hb0, hb1⟩ := hbb
    have HB := Lib.hid hb
    clear hb
    by_cases hlt : b ≤ n + 719528
    · have hy : y + 1 ≤ 9999 := by
        by_cases e : y = 9999
        · have := HB.out
          rw [e, show (9999 : Int) + 1 = 10000 from rfl, bef_top] at this
          omega
        · omega
      go_wp2_with (go_at_call 109; refine (bef_as _ _ (by omega) (by omega) HB.out _).mono ?_; rintro e w' ⟨rfl, rfl⟩)
      go_round
      case rel => exact ⟨y + 1, by omega, hy, Lib.hid (by rw [HB.out]; exact hlt), rfl⟩
      case measure => simp [intOf]; omega
    · obtain ⟨c, hc⟩ : ∃ c, bef y = c := ⟨_, rfl⟩
      have hcb := bef_bd y y0 (by omega)
      have hsu := bef_succ y
      have hlp := lp_01 y
      have hyo := HY.out
      rw [hc] at hcb hsu hyo
      rw [HB.out] at hsu
      have r0 : 0 ≤ n + 719528 - c := by omega
      have r1 : n + 719528 - c < cumI y 13 := by rw [cumI_year]; omega
      have R1 := Lib.hid r1
      have HC := Lib.hid hc
      have r2 : n + 719528 - c ≤ 366 := by omega
      obtain ⟨c0, c1⟩ := hcb
      clear hc hsu hlp hyo r1 GS HY
      have C1 := Lib.hid (cumI_one y)
      go_wp2_with (go_at_call 109; (first | (with_reducible refine (bef_as (y + 1) _ (by omega) (by omega) HB.out _).mono ?_) | (with_reducible refine (bef_as y _ (by omega) (by omega) HC.out _).mono ?_)); rintro e w' ⟨rfl, rfl⟩)
      clear hlt HB hb0 hb1
      go_loop [6, 3] (fun x i => ∃ m : Int, 1 ≤ m ∧ m ≤ 12 ∧ i = .int .i64 m ∧ ∃ z : Int, 0 ≤ z ∧ z ≤ 366 ∧ Hid (z = n + 719528 - c - cumI y m) ∧ x = .int .i64 z) (fun _ i => (12 - intOf i).toNat)
      case atStart => exact ⟨1, by omega, by omega, rfl, _, r0, r2, Lib.hid (by rw [C1.out]; omega), rfl⟩
      case round =>
        obtain ⟨m, m1, m2, rfl, z, z0, z1, HZ, rfl⟩ := hrel
        obtain ⟨l, hl⟩ : ∃ l, lenI y m = l := ⟨_, rfl⟩
        have hll := lenI_bd y m
        have hcs := cumI_succ y m m1 m2
        rw [hl] at hll hcs
        obtain ⟨l0, l1⟩ := hll
        have HL := Lib.hid hl
        by_cases hge : l ≤ z
        · have hm : m + 1 ≤ 12 := by
            by_cases e : m = 12
            · have hz := HZ.out
              have hr := R1.out
              subst e
              rw [show (12 : Int) + 1 = 13 from rfl] at hcs
              omega
            · omega
          have HS : Hid (z - l = n + 719528 - c - cumI y (m + 1)) := Lib.hid (by have := HZ.out; omega)
          clear hl hcs
          go_wp2_with (go_at_call 108; refine (len_as _ _ _ HL.out _).mono ?_; rintro e w' ⟨rfl, rfl⟩)
          go_round
          case rel => exact ⟨m + 1, by omega, hm, rfl, z - l, by omega, by omega, HS, rfl⟩
          case measure => simp [intOf]; omega
        · have HN : Hid (num y m (z + 1) = n) := Lib.hid (by have := HZ.out; have := HC.out; unfold num; omega)
          have HV : Hid (Valid y m (z + 1)) := Lib.hid ⟨y0, y1, m1, m2, by omega, by omega⟩
          clear hl hcs
          go_wp2_with (go_at_call 108; refine (len_as _ _ _ HL.out _).mono ?_; rintro e w' ⟨rfl, rfl⟩)
          refine bodyPost_ret (four_results rfl _ _ _) rfl ?_
          exact ⟨y, m, z + 1, HV.out, HN.out, rfl, rfl⟩

theorem date_as (y m d : Int) (h : Valid y m d) (w : World) :
    Calls Tryz.prog 107 #[.int .i64 (num y m d)] w fun e w' => e = .returned (.tuple #[.int .i64 y, .int .i64 m, .int .i64 d, .bool true]) ∧ w = w' := by
  have r := num_range y m d h
  refine (date_yes (num y m d) r.1 r.2 w).mono fun e w' hh => ?_
  obtain ⟨z, k, x, hv, hn, he, hw⟩ := hh
  obtain ⟨rfl, rfl, rfl⟩ := num_inj z k x y m d hv h hn
  exact ⟨he, hw⟩

set_option maxHeartbeats 400000 in
theorem week_any (n : Int) (hn : -9223372036854775808 ≤ n) (hn2 : n ≤ 9223372036854775807) (w : World) :
    Calls Tryz.prog 81 #[.int .i64 n] w fun e w' => e = .returned (.int .i64 ((n + 3) % 7)) ∧ w = w' := by
  by_cases h : 0 ≤ n
  · go_enter Tryz.func81, Tryz.ntmps81
    go_wp2
    go_ret
    exact ⟨ret_int (by omega), rfl⟩
  · obtain ⟨t, ht⟩ : ∃ t, n.tmod 7 = t := ⟨_, rfl⟩
    have ht2 : t = -((-n) % 7) := by
      rw [← ht]
      obtain ⟨m, rfl⟩ : ∃ m, n = -m := ⟨-n, by omega⟩
      rw [Int.neg_tmod, Int.tmod_eq_emod_of_nonneg (by omega), Int.neg_neg]
    have t0 : -6 ≤ t := by omega
    have t1 : t ≤ 0 := by omega
    have HT := Lib.hid ht2
    clear ht2
    go_enter Tryz.func81, Tryz.ntmps81
    go_wp2
    go_ret
    exact ⟨ret_int (by have := HT.out; omega), rfl⟩

end Go.Proofs.YtodibjpojfipoaaGreatDoor
