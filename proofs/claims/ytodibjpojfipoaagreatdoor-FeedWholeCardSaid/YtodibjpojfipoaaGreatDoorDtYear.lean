/- The year of two digits. -/
import Derived.Test.YtodibjpojfipoaaGreatDoorDtFix
import Derived.Test.YtodibjpojfipoaaGreatDoorCivil3
namespace Go.Proofs.YtodibjpojfipoaaGreatDoor
open Go.RowKit
set_option linter.unusedVariables false
set_option linter.unusedSimpArgs false
set_option maxRecDepth 10000

theorem day_exists : ∀ k : Nat, k ≤ 3652424 → ∃ y m d : Int, Valid y m d ∧ num y m d = -719528 + k
  | 0, _ => ⟨0, 1, 1, by unfold Valid; rw [lenI_31 _ _ (by omega)]; omega, by decide⟩
  | k + 1, h => by
    obtain ⟨y, m, d, hv, hn⟩ := day_exists k (by omega)
    by_cases hd : d < lenI y m
    · have := num_next y m d hv hd
      exact ⟨y, m, d + 1, this.1, by omega⟩
    · by_cases hm : m < 12
      · have := num_month y m d hv hd hm
        exact ⟨y, m + 1, 1, this.1, by omega⟩
      · have hm2 : m = 12 := by have := hv.2.2.2.1; omega
        have hy : y + 1 ≤ 9999 := by
          have h1 := hv
          obtain ⟨a, b, c, e, f, g⟩ := h1
          by_cases hy : y = 9999
          · subst hy hm2
            have : d = 31 := by rw [lenI_31 _ _ (by omega)] at hd g; omega
            subst this
            have : num 9999 12 31 = 2932896 := by decide
            omega
          · omega
        have := num_year y m d hv hd hm2 hy
        exact ⟨y + 1, 1, 1, this.1, by omega⟩
/-- In which year a day lies. -/
def YearIs (n y : Int) : Prop := ∃ m d, Valid y m d ∧ num y m d = n
theorem YearIs.uniq {n y z : Int} (h : YearIs n y) (g : YearIs n z) : y = z := by
  obtain ⟨m, d, hv, hn⟩ := h
  obtain ⟨k, e, gv, gn⟩ := g
  exact (num_inj y m d z k e hv gv (by rw [hn, gn])).1
theorem YearIs.some_ (n : Int) (h0 : 0 ≤ n) (h1 : n ≤ 2555000) : ∃ y, YearIs n y := by
  obtain ⟨y, m, d, hv, hn⟩ := day_exists (n + 719528).toNat (by omega)
  exact ⟨y, m, d, hv, by omega⟩
theorem YearIs.bd {n y : Int} (h : YearIs n y) (h0 : 0 ≤ n) (h1 : n ≤ 2555000) : 1970 ≤ y ∧ y ≤ 8970 := by
  obtain ⟨m, d, hv, hn⟩ := h
  have h2 := num_in y m d hv
  rw [hn] at h2
  constructor
  · by_cases hy : 1970 ≤ y
    · exact hy
    · have := bef_mono (y + 1) 1970 (by have := hv.1; omega) (by omega)
      rw [bef_1970] at this
      omega
  · by_cases hy : y ≤ 8970
    · exact hy
    · have := bef_mono 8971 y (by omega) (by omega)
      have e : bef 8971 = 3276591 := by decide
      omega
/-- The days of now. -/
def nowD (now : Int) : Int := if now ≤ 0 then 0 else if 220752000000 < now then 2555000 else now / 86400
theorem nowD_bd (now : Int) : 0 ≤ nowD now ∧ nowD now ≤ 2555000 := by
  unfold nowD
  split
  · omega
  · split
    · omega
    · omega
def fyI (y d : Int) : Int := if y + 50 < y + 50 - (y + 50) % 100 + d then y + 50 - (y + 50) % 100 + d - 100 else y + 50 - (y + 50) % 100 + d
theorem fyI_bd (y d : Int) (h : 1970 ≤ y ∧ y ≤ 8970) (d0 : 0 ≤ d) (d1 : d < 100) : 0 ≤ fyI y d ∧ fyI y d < 10000 := by
  unfold fyI
  split <;> omega
theorem fyI_is (y d : Int) (d0 : 0 ≤ d) (d1 : d < 100) : fyI y d ≤ y + 50 ∧ y + 50 < fyI y d + 100 ∧ (fyI y d - d) % 100 = 0 := by
  unfold fyI
  split <;> refine ⟨?_, ?_, ?_⟩ <;> omega
set_option maxHeartbeats 2000000 in
theorem year_at (d now y : Int) (hY : YearIs (nowD now) y) (w : World) (d0 : 0 ≤ d) (d1 : d < 100) (n0 : -9223372036854775808 ≤ now) (n1 : now ≤ 9223372036854775807) :
    Calls Tryz.prog 78 #[.int .i64 d, .int .i64 now] w fun e w' => e = .returned (.int .i64 (fyI y d)) ∧ w' = w := by
  have hy := hY.bd (nowD_bd now).1 (nowD_bd now).2
  obtain ⟨m, dd, hv, hn⟩ := hY
  obtain ⟨y0, y1⟩ := hy
  have D := Lib.hid (fun W : World => date_as y m dd hv W)
  have HN := Lib.hid hn
  clear hv hn
  obtain ⟨r, hr⟩ : ∃ r, (y + 50) % 100 = r := ⟨_, rfl⟩
  have r0 : 0 ≤ r := by omega
  have r1 : r < 100 := by omega
  have hr2 : (y + 50).tmod 100 = r := by rw [Int.tmod_eq_emod_of_nonneg (by omega), hr]
  obtain ⟨z, hz⟩ : ∃ z, fyI y d = z := ⟨_, rfl⟩
  have HZ : Hid (z = if y + 50 < y + 50 - r + d then y + 50 - r + d - 100 else y + 50 - r + d) := Lib.hid (by rw [← hz, ← hr]; rfl)
  rw [hz]
  clear hz hr
  have hc : max 0 (min now 220752000000) / 86400 = num y m dd := by
    rw [HN.out]
    unfold nowD
    by_cases a1 : now ≤ 0
    · rw [if_pos a1, Int.min_def, if_pos (by omega), Int.max_def]
      split <;> omega
    · rw [if_neg a1]
      by_cases a2 : 220752000000 < now
      · rw [if_pos a2, Int.min_def, if_neg (by omega)]
        rfl
      · rw [if_neg a2, Int.min_def, if_pos (by omega), Int.max_def, if_pos (by omega)]
  have HCC := Lib.hid hc
  clear hc
  go_enter Tryz.func78, Tryz.ntmps78
  go_wp2_with fail
  rw [HCC.out]
  refine (D.out _).mono ?_
  rintro e w1 ⟨rfl, rfl⟩
  by_cases a1 : y + 50 < y + 50 - r + d
  · have e1 : decide (y + 50 < y + 50 - r + d) = true := decide_eq_true a1
    have HZ2 : Hid (z = y + 50 - r + d - 100) := Lib.hid (by rw [HZ.out, if_pos a1])
    go_wp2
    go_ret
    exact ⟨by rw [HZ2.out]; rfl, rfl⟩
  · have e1 : decide (y + 50 < y + 50 - r + d) = false := decide_eq_false a1
    have HZ2 : Hid (z = y + 50 - r + d) := Lib.hid (by rw [HZ.out, if_neg a1])
    go_wp2
    go_ret
    exact ⟨by rw [HZ2.out]; rfl, rfl⟩
end Go.Proofs.YtodibjpojfipoaaGreatDoor
