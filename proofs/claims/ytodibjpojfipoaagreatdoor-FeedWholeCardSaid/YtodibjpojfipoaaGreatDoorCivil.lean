/- Contracts of package civil and of the reference's calendar. -/
import Derived.Test.YtodibjpojfipoaaGreatDoorRows
import Derived.Test.YtodibjpojfipoaaGreatDoorCal
import Derived.WalkKit
import Derived.WalkSpells
import Derived.WalkLawsBesides
import Derived.Lib.Hide
import Derived.OpenShut
namespace Go.Proofs.YtodibjpojfipoaaGreatDoor
open Go.RowKit

theorem ret_int {k : IntKind} {a b : Int} (h : a = b) : Ending.returned (.int k a) = .returned (.int k b) := by rw [h]
theorem ret_bool {a b : Bool} (h : a = b) : Ending.returned (.bool a) = .returned (.bool b) := by rw [h]
theorem tmod_zero (a k : Int) : (a.tmod k == 0) = (a % k == 0) := by
  rw [Bool.eq_iff_iff, beq_iff_eq, beq_iff_eq]
  constructor
  · intro g; exact Int.emod_eq_zero_of_dvd (Int.dvd_of_tmod_eq_zero g)
  · intro g; exact Int.tmod_eq_zero_of_dvd (Int.dvd_of_emod_eq_zero g)
theorem rem_yes (a k : Int) (g : a % k = 0) : (a.tmod k == 0) = true := by rw [tmod_zero a k]; simpa using g
theorem rem_yes' (a k : Int) (g : a % k = 0) : (a.tmod k != 0) = false := by rw [bne, rem_yes a k g]; rfl
theorem rem_no' (a k : Int) (g : ¬ a % k = 0) : (a.tmod k != 0) = true := by rw [bne, tmod_zero a k]; simpa using g
theorem rem_no (a k : Int) (g : ¬ a % k = 0) : (a.tmod k == 0) = false := by rw [tmod_zero a k]; simpa using g

set_option maxHeartbeats 400000 in
theorem leap_pos (y : Int) (h0 : 0 ≤ y) (w : World) :
    Calls Tryz.prog 127 #[.int .i64 y] w fun e w' => e = .returned (.bool (leapB y)) ∧ w = w' := by
  by_cases h4 : y % 4 = 0
  all_goals by_cases h100 : y % 100 = 0
  all_goals by_cases h400 : y % 400 = 0
  all_goals have e : leapB y = decide (y % 4 = 0 ∧ (y % 100 ≠ 0 ∨ y % 400 = 0)) := rfl
  all_goals have E := Lib.hid e
  all_goals clear e
  all_goals generalize leapB y = r at *
  all_goals first | have b4 : (y % 4 == 0) = true := by simpa using h4 | have b4 : (y % 4 == 0) = false := by simpa using h4
  all_goals first | have b100 : (y % 100 != 0) = false := by simpa using h100 | have b100 : (y % 100 != 0) = true := by simpa using h100
  all_goals first | have b400 : (y % 400 == 0) = true := by simpa using h400 | have b400 : (y % 400 == 0) = false := by simpa using h400
  all_goals have H4 := Lib.hid h4
  all_goals have H100 := Lib.hid h100
  all_goals have H400 := Lib.hid h400
  all_goals clear h4 h100 h400
  all_goals go_enter Tryz.func127, Tryz.ntmps127
  all_goals go_wp2
  all_goals go_ret
  all_goals exact ⟨ret_bool (by have h4 := H4.out; have h100 := H100.out; have h400 := H400.out; rw [E.out]; first | (exfalso; omega) | (symm; apply decide_eq_true; omega) | (symm; apply decide_eq_false; omega)), rfl⟩
set_option maxHeartbeats 400000 in
theorem leap_neg (y : Int) (_h0 : y < 0) (w : World) :
    Calls Tryz.prog 127 #[.int .i64 y] w fun e w' => e = .returned (.bool (leapB y)) ∧ w = w' := by
  by_cases h4 : y % 4 = 0
  all_goals by_cases h100 : y % 100 = 0
  all_goals by_cases h400 : y % 400 = 0
  all_goals have e : leapB y = decide (y % 4 = 0 ∧ (y % 100 ≠ 0 ∨ y % 400 = 0)) := rfl
  all_goals have E := Lib.hid e
  all_goals clear e
  all_goals generalize leapB y = r at *
  all_goals first | have b4 := rem_yes y 4 h4 | have b4 := rem_no y 4 h4
  all_goals first | have b100 := rem_yes' y 100 h100 | have b100 := rem_no' y 100 h100
  all_goals first | have b400 := rem_yes y 400 h400 | have b400 := rem_no y 400 h400
  all_goals have H4 := Lib.hid h4
  all_goals have H100 := Lib.hid h100
  all_goals have H400 := Lib.hid h400
  all_goals clear h4 h100 h400
  all_goals go_enter Tryz.func127, Tryz.ntmps127
  all_goals go_wp2
  all_goals go_ret
  all_goals exact ⟨ret_bool (by have h4 := H4.out; have h100 := H100.out; have h400 := H400.out; rw [E.out]; first | (exfalso; omega) | (symm; apply decide_eq_true; omega) | (symm; apply decide_eq_false; omega)), rfl⟩
set_option maxHeartbeats 400000 in
theorem rleap_pos (y : Int) (h0 : 0 ≤ y) (w : World) :
    Calls Tryz.prog 88 #[.int .i64 y] w fun e w' => e = .returned (.bool (leapB y)) ∧ w = w' := by
  by_cases h4 : y % 4 = 0
  all_goals by_cases h100 : y % 100 = 0
  all_goals by_cases h400 : y % 400 = 0
  all_goals have e : leapB y = decide (y % 4 = 0 ∧ (y % 100 ≠ 0 ∨ y % 400 = 0)) := rfl
  all_goals have E := Lib.hid e
  all_goals clear e
  all_goals generalize leapB y = r at *
  all_goals first | have b4 : (y % 4 == 0) = true := by simpa using h4 | have b4 : (y % 4 == 0) = false := by simpa using h4
  all_goals first | have b100 : (y % 100 != 0) = false := by simpa using h100 | have b100 : (y % 100 != 0) = true := by simpa using h100
  all_goals first | have b400 : (y % 400 == 0) = true := by simpa using h400 | have b400 : (y % 400 == 0) = false := by simpa using h400
  all_goals have H4 := Lib.hid h4
  all_goals have H100 := Lib.hid h100
  all_goals have H400 := Lib.hid h400
  all_goals clear h4 h100 h400
  all_goals go_enter Tryz.func88, Tryz.ntmps88
  all_goals go_wp2
  all_goals go_ret
  all_goals exact ⟨ret_bool (by have h4 := H4.out; have h100 := H100.out; have h400 := H400.out; rw [E.out]; first | (exfalso; omega) | (symm; apply decide_eq_true; omega) | (symm; apply decide_eq_false; omega)), rfl⟩
set_option maxHeartbeats 400000 in
theorem rleap_neg (y : Int) (_h0 : y < 0) (w : World) :
    Calls Tryz.prog 88 #[.int .i64 y] w fun e w' => e = .returned (.bool (leapB y)) ∧ w = w' := by
  by_cases h4 : y % 4 = 0
  all_goals by_cases h100 : y % 100 = 0
  all_goals by_cases h400 : y % 400 = 0
  all_goals have e : leapB y = decide (y % 4 = 0 ∧ (y % 100 ≠ 0 ∨ y % 400 = 0)) := rfl
  all_goals have E := Lib.hid e
  all_goals clear e
  all_goals generalize leapB y = r at *
  all_goals first | have b4 := rem_yes y 4 h4 | have b4 := rem_no y 4 h4
  all_goals first | have b100 := rem_yes' y 100 h100 | have b100 := rem_no' y 100 h100
  all_goals first | have b400 := rem_yes y 400 h400 | have b400 := rem_no y 400 h400
  all_goals have H4 := Lib.hid h4
  all_goals have H100 := Lib.hid h100
  all_goals have H400 := Lib.hid h400
  all_goals clear h4 h100 h400
  all_goals go_enter Tryz.func88, Tryz.ntmps88
  all_goals go_wp2
  all_goals go_ret
  all_goals exact ⟨ret_bool (by have h4 := H4.out; have h100 := H100.out; have h400 := H400.out; rw [E.out]; first | (exfalso; omega) | (symm; apply decide_eq_true; omega) | (symm; apply decide_eq_false; omega)), rfl⟩
theorem leap_any (y : Int) (w : World) : Calls Tryz.prog 127 #[.int .i64 y] w fun e w' => e = .returned (.bool (leapB y)) ∧ w = w' := by
  by_cases h : 0 ≤ y
  · exact leap_pos y h w
  · exact leap_neg y (by omega) w
theorem rleap_any (y : Int) (w : World) : Calls Tryz.prog 88 #[.int .i64 y] w fun e w' => e = .returned (.bool (leapB y)) ∧ w = w' := by
  by_cases h : 0 ≤ y
  · exact rleap_pos y h w
  · exact rleap_neg y (by omega) w
theorem leap_as (y : Int) (v : Bool) (h : leapB y = v) (w : World) : Calls Tryz.prog 127 #[.int .i64 y] w fun e w' => e = .returned (.bool v) ∧ w = w' := h ▸ leap_any y w
theorem rleap_as (y : Int) (v : Bool) (h : leapB y = v) (w : World) : Calls Tryz.prog 88 #[.int .i64 y] w fun e w' => e = .returned (.bool v) ∧ w = w' := h ▸ rleap_any y w

set_option maxHeartbeats 400000 in
theorem len_feb (y : Int) (w : World) :
    Calls Tryz.prog 108 #[.int .i64 y, .int .i64 2] w fun e w' => e = .returned (.int .i64 (lenI y 2)) ∧ w = w' := by
  rw [lenI_2]
  cases hb : leapB y
  · rw [lp_no hb]
    have H := Lib.hid hb
    clear hb
    go_enter Tryz.func108, Tryz.ntmps108
    go_wp2_with (go_at_call 127; refine (leap_as _ _ H.out _).mono ?_; rintro e w' ⟨rfl, rfl⟩)
    go_ret
    exact ⟨rfl, rfl⟩
  · rw [lp_yes hb]
    have H := Lib.hid hb
    clear hb
    go_enter Tryz.func108, Tryz.ntmps108
    go_wp2_with (go_at_call 127; refine (leap_as _ _ H.out _).mono ?_; rintro e w' ⟨rfl, rfl⟩)
    go_ret
    exact ⟨rfl, rfl⟩
set_option maxHeartbeats 400000 in
theorem len_31 (y m : Int) (h : m = 1 ∨ m = 3 ∨ m = 5 ∨ m = 7 ∨ m = 8 ∨ m = 10 ∨ m = 12) (w : World) :
    Calls Tryz.prog 108 #[.int .i64 y, .int .i64 m] w fun e w' => e = .returned (.int .i64 31) ∧ w = w' := by
  rcases h with rfl | rfl | rfl | rfl | rfl | rfl | rfl
  all_goals go_enter Tryz.func108, Tryz.ntmps108
  all_goals go_wp2
  all_goals go_ret
  all_goals exact ⟨rfl, rfl⟩
set_option maxHeartbeats 400000 in
theorem len_30 (y m : Int) (h : m = 4 ∨ m = 6 ∨ m = 9 ∨ m = 11) (w : World) :
    Calls Tryz.prog 108 #[.int .i64 y, .int .i64 m] w fun e w' => e = .returned (.int .i64 30) ∧ w = w' := by
  rcases h with rfl | rfl | rfl | rfl
  all_goals go_enter Tryz.func108, Tryz.ntmps108
  all_goals go_wp2
  all_goals go_ret
  all_goals exact ⟨rfl, rfl⟩
set_option maxHeartbeats 400000 in
theorem len_out (y m : Int) (h : m < 1 ∨ 12 < m) (w : World) :
    Calls Tryz.prog 108 #[.int .i64 y, .int .i64 m] w fun e w' => e = .returned (.int .i64 0) ∧ w = w' := by
  rcases h with h | h
  all_goals go_enter Tryz.func108, Tryz.ntmps108
  all_goals go_wp2
  all_goals go_ret
  all_goals exact ⟨rfl, rfl⟩
theorem len_any (y m : Int) (w : World) :
    Calls Tryz.prog 108 #[.int .i64 y, .int .i64 m] w fun e w' => e = .returned (.int .i64 (lenI y m)) ∧ w = w' := by
  by_cases h2 : m = 2
  · subst h2; exact len_feb y w
  · by_cases h30 : m = 4 ∨ m = 6 ∨ m = 9 ∨ m = 11
    · rw [lenI_30 y m h30]; exact len_30 y m h30 w
    · by_cases ho : m < 1 ∨ 12 < m
      · rw [lenI_out y m ho]; exact len_out y m ho w
      · rw [lenI_31 y m (by omega)]; exact len_31 y m (by omega) w
theorem len_as (y m v : Int) (h : lenI y m = v) (w : World) :
    Calls Tryz.prog 108 #[.int .i64 y, .int .i64 m] w fun e w' => e = .returned (.int .i64 v) ∧ w = w' := h ▸ len_any y m w

set_option maxHeartbeats 400000 in
theorem rlen_feb (y : Int) (w : World) :
    Calls Tryz.prog 110 #[.int .i64 y, .int .i64 2] w fun e w' => e = .returned (.int .i64 (lenI y 2)) ∧ Below w.heap.size w w' := by
  rw [lenI_2]
  cases hb : leapB y
  · rw [lp_no hb]
    have H := Lib.hid hb
    clear hb
    go_enter Tryz.func110, Tryz.ntmps110
    go_wp2_with (go_at_call 88; refine (rleap_as _ _ H.out _).mono ?_; rintro e w' ⟨rfl, rfl⟩)
    go_ret
    exact ⟨rfl, (Below.refl _ _).alloc (Nat.le_refl _) _⟩
  · rw [lp_yes hb]
    have H := Lib.hid hb
    clear hb
    go_enter Tryz.func110, Tryz.ntmps110
    go_wp2_with (go_at_call 88; refine (rleap_as _ _ H.out _).mono ?_; rintro e w' ⟨rfl, rfl⟩)
    go_ret
    exact ⟨rfl, (Below.refl _ _).alloc (Nat.le_refl _) _⟩
set_option maxHeartbeats 1000000 in
theorem rlen_in (y m : Int) (h : m = 1 ∨ m = 3 ∨ m = 4 ∨ m = 5 ∨ m = 6 ∨ m = 7 ∨ m = 8 ∨ m = 9 ∨ m = 10 ∨ m = 11 ∨ m = 12) (w : World) :
    Calls Tryz.prog 110 #[.int .i64 y, .int .i64 m] w fun e w' => e = .returned (.int .i64 (lenI y m)) ∧ Below w.heap.size w w' := by
  rcases h with rfl | rfl | rfl | rfl | rfl | rfl | rfl | rfl | rfl | rfl | rfl
  all_goals first | rw [lenI_31 y _ (by omega)] | rw [lenI_30 y _ (by omega)]
  all_goals go_enter Tryz.func110, Tryz.ntmps110
  all_goals go_wp2
  all_goals go_ret
  all_goals exact ⟨rfl, (Below.refl _ _).alloc (Nat.le_refl _) _⟩
set_option maxHeartbeats 400000 in
theorem rlen_out (y m : Int) (h : m < 1 ∨ 12 < m) (w : World) :
    Calls Tryz.prog 110 #[.int .i64 y, .int .i64 m] w fun e w' => e = .returned (.int .i64 0) ∧ Below w.heap.size w w' := by
  rcases h with h | h
  · have d1 : decide (m < 1) = true := decide_eq_true h
    go_enter Tryz.func110, Tryz.ntmps110
    go_wp2
    go_ret
    exact ⟨rfl, (Below.refl _ _).alloc (Nat.le_refl _) _⟩
  · have d1 : decide (m < 1) = false := decide_eq_false (by omega)
    have d2 : decide (12 < m) = true := decide_eq_true h
    go_enter Tryz.func110, Tryz.ntmps110
    go_wp2
    go_ret
    exact ⟨rfl, (Below.refl _ _).alloc (Nat.le_refl _) _⟩
theorem rlen_any (y m : Int) (w : World) :
    Calls Tryz.prog 110 #[.int .i64 y, .int .i64 m] w fun e w' => e = .returned (.int .i64 (lenI y m)) ∧ Below w.heap.size w w' := by
  by_cases h2 : m = 2
  · subst h2; exact rlen_feb y w
  · by_cases ho : m < 1 ∨ 12 < m
    · rw [lenI_out y m ho]; exact rlen_out y m ho w
    · exact rlen_in y m (by omega) w
theorem rlen_as (y m v : Int) (h : lenI y m = v) (w : World) :
    Calls Tryz.prog 110 #[.int .i64 y, .int .i64 m] w fun e w' => e = .returned (.int .i64 v) ∧ Below w.heap.size w w' := h ▸ rlen_any y m w

set_option maxHeartbeats 400000 in
theorem bef_any (y : Int) (h0 : 0 ≤ y) (h1 : y ≤ 10000) (w : World) :
    Calls Tryz.prog 109 #[.int .i64 y] w fun e w' => e = .returned (.int .i64 (bef y)) ∧ w = w' := by
  have e : bef y = 365 * y + ((y + 3) / 4 - (y + 99) / 100 + (y + 399) / 400) := rfl
  have E := Lib.hid e
  clear e
  generalize bef y = r at *
  go_enter Tryz.func109, Tryz.ntmps109
  go_wp2
  go_ret
  exact ⟨ret_int (by rw [E.out]), rfl⟩
theorem bef_as (y v : Int) (h0 : 0 ≤ y) (h1 : y ≤ 10000) (h : bef y = v) (w : World) :
    Calls Tryz.prog 109 #[.int .i64 y] w fun e w' => e = .returned (.int .i64 v) ∧ w = w' := h ▸ bef_any y h0 h1 w

end Go.Proofs.YtodibjpojfipoaaGreatDoor
