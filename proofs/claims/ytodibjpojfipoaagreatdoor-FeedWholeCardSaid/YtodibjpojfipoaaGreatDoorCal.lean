/- The calendar's plain mathematics: no program here. -/
namespace Go.Proofs.YtodibjpojfipoaaGreatDoor

def leapB (y : Int) : Bool := decide (y % 4 = 0 ∧ (y % 100 ≠ 0 ∨ y % 400 = 0))
def lp (y : Int) : Int := if leapB y then 1 else 0
theorem lp_01 (y : Int) : lp y = 0 ∨ lp y = 1 := by unfold lp; split <;> simp
theorem lp_yes {y : Int} (h : leapB y = true) : lp y = 1 := by unfold lp; rw [if_pos h]
theorem lp_no {y : Int} (h : leapB y = false) : lp y = 0 := by unfold lp; rw [if_neg (by simp [h])]
def lenI (y m : Int) : Int := if m = 2 then 28 + lp y else if m = 4 ∨ m = 6 ∨ m = 9 ∨ m = 11 then 30 else if 1 ≤ m ∧ m ≤ 12 then 31 else 0
theorem lenI_bd (y m : Int) : 0 ≤ lenI y m ∧ lenI y m ≤ 31 := by
  have := lp_01 y
  unfold lenI; split
  · omega
  · split
    · omega
    · split <;> omega
theorem lenI_in (y m : Int) (h1 : 1 ≤ m) (h2 : m ≤ 12) : 28 ≤ lenI y m := by
  have := lp_01 y
  unfold lenI; split
  · omega
  · split
    · omega
    · rw [if_pos ⟨h1, h2⟩]; omega
theorem lenI_out (y m : Int) (h : m < 1 ∨ 12 < m) : lenI y m = 0 := by
  unfold lenI; rw [if_neg (by omega), if_neg (by omega), if_neg (by omega)]
theorem lenI_31 (y m : Int) (h : m = 1 ∨ m = 3 ∨ m = 5 ∨ m = 7 ∨ m = 8 ∨ m = 10 ∨ m = 12) : lenI y m = 31 := by
  unfold lenI; rw [if_neg (by omega), if_neg (by omega), if_pos (by omega)]
theorem lenI_30 (y m : Int) (h : m = 4 ∨ m = 6 ∨ m = 9 ∨ m = 11) : lenI y m = 30 := by
  unfold lenI; rw [if_neg (by omega), if_pos h]
theorem lenI_2 (y : Int) : lenI y 2 = 28 + lp y := by unfold lenI; rw [if_pos rfl]
/-- The days of the months ahead of month m. -/
def cumI (y m : Int) : Int := (367 * m - 362) / 12 + if m ≤ 2 then 0 else lp y - 2
theorem cumI_one (y : Int) : cumI y 1 = 0 := by unfold cumI; rw [if_pos (by omega)]; rfl
theorem cumI_succ (y m : Int) (h1 : 1 ≤ m) (h2 : m ≤ 12) : cumI y (m + 1) = cumI y m + lenI y m := by
  have := lp_01 y
  rcases (show m = 1 ∨ m = 2 ∨ m = 3 ∨ m = 4 ∨ m = 5 ∨ m = 6 ∨ m = 7 ∨ m = 8 ∨ m = 9 ∨ m = 10 ∨ m = 11 ∨ m = 12 by omega) with rfl | rfl | rfl | rfl | rfl | rfl | rfl | rfl | rfl | rfl | rfl | rfl
  all_goals first | rw [lenI_2] | rw [lenI_31 y _ (by omega)] | rw [lenI_30 y _ (by omega)]
  all_goals simp [cumI]
  all_goals omega
theorem cumI_bd (y m : Int) (h1 : 1 ≤ m) (h2 : m ≤ 13) : 0 ≤ cumI y m ∧ cumI y m ≤ 366 := by
  have := lp_01 y
  unfold cumI; split <;> omega
theorem cumI_year (y : Int) : cumI y 13 = 365 + lp y := by unfold cumI; rw [if_neg (by omega)]; omega
theorem cumI_mono (y m k : Int) (h1 : 1 ≤ m) (h : m ≤ k) (h2 : k ≤ 13) : cumI y m ≤ cumI y k := by
  have := lp_01 y
  unfold cumI; split <;> split <;> omega
/-- The days of the years ahead of year y, from year 0 on. -/
def bef (y : Int) : Int := 365 * y + ((y + 3) / 4 - (y + 99) / 100 + (y + 399) / 400)
theorem bef_succ (y : Int) : bef (y + 1) = bef y + 365 + lp y := by
  unfold bef
  by_cases h : leapB y = true
  · rw [lp_yes h]
    unfold leapB at h
    have h' := of_decide_eq_true h
    omega
  · have hf : leapB y = false := by simpa using h
    rw [lp_no hf]
    unfold leapB at hf
    have h' := of_decide_eq_false hf
    omega
theorem bef_bd (y : Int) (h0 : 0 ≤ y) (h : y ≤ 10000) : 0 ≤ bef y ∧ bef y ≤ 3652425 := by unfold bef; omega
theorem bef_mono (y z : Int) (_h0 : 0 ≤ y) (h : y ≤ z) : bef y ≤ bef z := by unfold bef; omega
theorem bef_guess (n : Int) (h0 : 0 ≤ n) : bef (n / 366) ≤ n := by unfold bef; omega
theorem bef_top : bef 10000 = 3652425 := by decide
theorem bef_1970 : bef 1970 = 719528 := by decide
/-- The number of a day. -/
def num (y m d : Int) : Int := bef y - 719528 + cumI y m + d - 1
def Valid (y m d : Int) : Prop := 0 ≤ y ∧ y ≤ 9999 ∧ 1 ≤ m ∧ m ≤ 12 ∧ 1 ≤ d ∧ d ≤ lenI y m
theorem num_in (y m d : Int) (h : Valid y m d) : bef y - 719528 ≤ num y m d ∧ num y m d < bef (y + 1) - 719528 := by
  obtain ⟨_, _, m1, m2, d1, d2⟩ := h
  have c := cumI_bd y m m1 (by omega)
  have s := cumI_succ y m m1 m2
  have t := cumI_mono y (m + 1) 13 (by omega) (by omega) (by omega)
  rw [cumI_year] at t
  rw [bef_succ]
  unfold num
  omega
/-- A number is one day's alone. -/
theorem num_inj (y m d z k e : Int) (h : Valid y m d) (g : Valid z k e) (hn : num y m d = num z k e) : y = z ∧ m = k ∧ d = e := by
  have a := num_in y m d h
  have b := num_in z k e g
  obtain ⟨y0, y1, m1, m2, d1, d2⟩ := h
  obtain ⟨z0, z1, k1, k2, e1, e2⟩ := g
  have hy : y = z := by
    by_cases h1 : y < z
    · have := bef_mono (y + 1) z (by omega) (by omega); omega
    · by_cases h2 : z < y
      · have := bef_mono (z + 1) y (by omega) (by omega); omega
      · omega
  subst hy
  have hm : m = k := by
    unfold num at hn
    have s := cumI_succ y m m1 m2
    have t := cumI_succ y k k1 k2
    by_cases h1 : m < k
    · have := cumI_mono y (m + 1) k (by omega) (by omega) (by omega); omega
    · by_cases h2 : k < m
      · have := cumI_mono y (k + 1) m (by omega) (by omega) (by omega); omega
      · omega
  subst hm
  unfold num at hn
  exact ⟨rfl, rfl, by omega⟩
theorem num_range (y m d : Int) (h : Valid y m d) : -719528 ≤ num y m d ∧ num y m d ≤ 2932896 := by
  have a := num_in y m d h
  have b := bef_bd y h.1 (by have := h.2.1; omega)
  have c := bef_mono (y + 1) 10000 (by have := h.1; omega) (by have := h.2.1; omega)
  rw [bef_top] at c
  omega
/-- The day after a day. -/
theorem num_next (y m d : Int) (h : Valid y m d) (hd : d < lenI y m) : Valid y m (d + 1) ∧ num y m (d + 1) = num y m d + 1 := by
  obtain ⟨y0, y1, m1, m2, d1, d2⟩ := h
  exact ⟨⟨y0, y1, m1, m2, by omega, by omega⟩, by unfold num; omega⟩
theorem num_month (y m d : Int) (h : Valid y m d) (hd : ¬ d < lenI y m) (hm : m < 12) : Valid y (m + 1) 1 ∧ num y (m + 1) 1 = num y m d + 1 := by
  obtain ⟨y0, y1, m1, m2, d1, d2⟩ := h
  have l := lenI_in y (m + 1) (by omega) (by omega)
  have s := cumI_succ y m m1 m2
  exact ⟨⟨y0, y1, by omega, by omega, by omega, by omega⟩, by unfold num; omega⟩
theorem num_year (y m d : Int) (h : Valid y m d) (hd : ¬ d < lenI y m) (hm : m = 12) (hy : y + 1 ≤ 9999) : Valid (y + 1) 1 1 ∧ num (y + 1) 1 1 = num y m d + 1 := by
  obtain ⟨y0, y1, m1, m2, d1, d2⟩ := h
  subst hm
  have l := lenI_in (y + 1) 1 (by omega) (by omega)
  have s := cumI_succ y 12 m1 m2
  rw [show (12 : Int) + 1 = 13 from rfl, cumI_year] at s
  have b := bef_succ y
  exact ⟨⟨by omega, by omega, by omega, by omega, by omega, by omega⟩, by unfold num; rw [cumI_one]; omega⟩
/-- Four hundred years on. -/
theorem leapB_400 (y : Int) : leapB (y + 400) = leapB y := by
  unfold leapB
  rw [Bool.eq_iff_iff]; simp; omega
theorem lp_400 (y : Int) : lp (y + 400) = lp y := by unfold lp; rw [leapB_400]
theorem lenI_400 (y m : Int) : lenI (y + 400) m = lenI y m := by unfold lenI; rw [lp_400]
theorem cumI_400 (y m : Int) : cumI (y + 400) m = cumI y m := by unfold cumI; rw [lp_400]
theorem bef_400 (y : Int) : bef (y + 400) = bef y + 146097 := by unfold bef; omega
theorem num_400 (y m d : Int) : num (y + 400) m d = num y m d + 146097 := by unfold num; rw [cumI_400, bef_400]; omega

end Go.Proofs.YtodibjpojfipoaaGreatDoor
