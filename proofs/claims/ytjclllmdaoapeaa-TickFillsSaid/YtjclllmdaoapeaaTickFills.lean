/- The law on filling a bucket of any numbers, walked. -/
import Derived.Test.YtjclllmdaoapeaaTickLaws2
namespace Go.Proofs.Ytjclllmdaoapeaa
open Go.RowKit

theorem rmul_as (a b v : Int) (h : mulI a b = v) (w : World) :
    Calls Try.prog 21 #[.int .i64 a, .int .i64 b] w fun e w' => e = .returned (.int .i64 v) ∧ w = w' := h ▸ rmul_any a b w
theorem fillI_eq (l r b m : Int) : fillI l r b m = min (addI (max l 0) (mulI (max r 0) (max m 0))) (mulI (max b 0) 1000) := by unfold fillI; rw [mulI_comm 1000]

set_option maxHeartbeats 2000000 in
theorem fills_000 (l r b m : Int) (l1 : l ≤ 9223372036854775807) (hr : (¬ r < 0)) (hb : (¬ b < 0)) (hm : (¬ m < 0)) (w : World) :
    Calls Try.prog 7 #[.int .i64 l, .int .i64 r, .int .i64 b, .int .i64 m] w fun e w' => e = .returned (.bool true) ∧ Below w.heap.size w w' := by
  have e := fillI_eq l r b m
  rw [show max r 0 = r by omega, show max b 0 = b by omega, show max m 0 = m by omega] at e
  rcases (show l < 0 ∨ (0 ≤ l ∧ l < 1000) ∨ 1000 ≤ l by omega) with hl | ⟨hl, hl2⟩ | hl
  · rw [show max l 0 = 0 by omega] at e
    have hd : decide (1000 ≤ l) = false := decide_eq_false (by omega)
    by_cases hmin : mulI b 1000 < addI 0 (mulI r m)
    all_goals first | rw [show min (addI 0 (mulI r m)) (mulI b 1000) = mulI b 1000 by omega] at e | rw [show min (addI 0 (mulI r m)) (mulI b 1000) = addI 0 (mulI r m) by omega] at e
    all_goals have E := Lib.hid e
    all_goals clear e
    all_goals go_enter Try.func7, Try.ntmps7
    all_goals go_wp2_with (first | (go_at_call 16; refine (awake1 _).mono ?_; rintro e w' ⟨rfl, rfl⟩) | (go_at_call 21; refine (rmul_any _ _ _).mono ?_; rintro e w' ⟨rfl, rfl⟩) | (go_at_call 18; refine (radd_any _ _ _).mono ?_; rintro e w' ⟨rfl, rfl⟩) | (go_at_call 24; refine (take_low l (by omega) _).mono ?_; rintro e w' ⟨rfl, rfl⟩) | (go_at_call 25; refine (fill_as _ _ _ _ _ E.out _).mono ?_; rintro e w' ⟨rfl, rfl⟩))
    all_goals go_ret
    all_goals exact ⟨rfl, Below.refl _ _⟩
  · rw [show max l 0 = l by omega] at e
    have hd : decide (1000 ≤ l) = false := decide_eq_false (by omega)
    by_cases hmin : mulI b 1000 < addI l (mulI r m)
    all_goals first | rw [show min (addI l (mulI r m)) (mulI b 1000) = mulI b 1000 by omega] at e | rw [show min (addI l (mulI r m)) (mulI b 1000) = addI l (mulI r m) by omega] at e
    all_goals have E := Lib.hid e
    all_goals clear e
    all_goals go_enter Try.func7, Try.ntmps7
    all_goals go_wp2_with (first | (go_at_call 16; refine (awake1 _).mono ?_; rintro e w' ⟨rfl, rfl⟩) | (go_at_call 21; refine (rmul_any _ _ _).mono ?_; rintro e w' ⟨rfl, rfl⟩) | (go_at_call 18; refine (radd_any _ _ _).mono ?_; rintro e w' ⟨rfl, rfl⟩) | (go_at_call 24; refine (take_low l (by omega) _).mono ?_; rintro e w' ⟨rfl, rfl⟩) | (go_at_call 25; refine (fill_as _ _ _ _ _ E.out _).mono ?_; rintro e w' ⟨rfl, rfl⟩))
    all_goals go_ret
    all_goals exact ⟨rfl, Below.refl _ _⟩
  · rw [show max l 0 = l by omega] at e
    have hd : decide (1000 ≤ l) = true := decide_eq_true hl
    by_cases hmin : mulI b 1000 < addI l (mulI r m)
    all_goals first | rw [show min (addI l (mulI r m)) (mulI b 1000) = mulI b 1000 by omega] at e | rw [show min (addI l (mulI r m)) (mulI b 1000) = addI l (mulI r m) by omega] at e
    all_goals have E := Lib.hid e
    all_goals clear e
    all_goals go_enter Try.func7, Try.ntmps7
    all_goals go_wp2_with (first | (go_at_call 16; refine (awake1 _).mono ?_; rintro e w' ⟨rfl, rfl⟩) | (go_at_call 21; refine (rmul_any _ _ _).mono ?_; rintro e w' ⟨rfl, rfl⟩) | (go_at_call 18; refine (radd_any _ _ _).mono ?_; rintro e w' ⟨rfl, rfl⟩) | (go_at_call 24; refine (take_high l hl l1 _).mono ?_; rintro e w' ⟨rfl, rfl⟩) | (go_at_call 25; refine (fill_as _ _ _ _ _ E.out _).mono ?_; rintro e w' ⟨rfl, rfl⟩))
    all_goals go_ret
    all_goals exact ⟨rfl, Below.refl _ _⟩

set_option maxHeartbeats 2000000 in
theorem fills_001 (l r b m : Int) (l1 : l ≤ 9223372036854775807) (hr : (¬ r < 0)) (hb : (¬ b < 0)) (hm : (m < 0)) (w : World) :
    Calls Try.prog 7 #[.int .i64 l, .int .i64 r, .int .i64 b, .int .i64 m] w fun e w' => e = .returned (.bool true) ∧ Below w.heap.size w w' := by
  have e := fillI_eq l r b m
  rw [show max r 0 = r by omega, show max b 0 = b by omega, show max m 0 = 0 by omega] at e
  rcases (show l < 0 ∨ (0 ≤ l ∧ l < 1000) ∨ 1000 ≤ l by omega) with hl | ⟨hl, hl2⟩ | hl
  · rw [show max l 0 = 0 by omega] at e
    have hd : decide (1000 ≤ l) = false := decide_eq_false (by omega)
    by_cases hmin : mulI b 1000 < addI 0 (mulI r 0)
    all_goals first | rw [show min (addI 0 (mulI r 0)) (mulI b 1000) = mulI b 1000 by omega] at e | rw [show min (addI 0 (mulI r 0)) (mulI b 1000) = addI 0 (mulI r 0) by omega] at e
    all_goals have E := Lib.hid e
    all_goals clear e
    all_goals go_enter Try.func7, Try.ntmps7
    all_goals go_wp2_with (first | (go_at_call 16; refine (awake1 _).mono ?_; rintro e w' ⟨rfl, rfl⟩) | (go_at_call 21; refine (rmul_any _ _ _).mono ?_; rintro e w' ⟨rfl, rfl⟩) | (go_at_call 18; refine (radd_any _ _ _).mono ?_; rintro e w' ⟨rfl, rfl⟩) | (go_at_call 24; refine (take_low l (by omega) _).mono ?_; rintro e w' ⟨rfl, rfl⟩) | (go_at_call 25; refine (fill_as _ _ _ _ _ E.out _).mono ?_; rintro e w' ⟨rfl, rfl⟩))
    all_goals go_ret
    all_goals exact ⟨rfl, Below.refl _ _⟩
  · rw [show max l 0 = l by omega] at e
    have hd : decide (1000 ≤ l) = false := decide_eq_false (by omega)
    by_cases hmin : mulI b 1000 < addI l (mulI r 0)
    all_goals first | rw [show min (addI l (mulI r 0)) (mulI b 1000) = mulI b 1000 by omega] at e | rw [show min (addI l (mulI r 0)) (mulI b 1000) = addI l (mulI r 0) by omega] at e
    all_goals have E := Lib.hid e
    all_goals clear e
    all_goals go_enter Try.func7, Try.ntmps7
    all_goals go_wp2_with (first | (go_at_call 16; refine (awake1 _).mono ?_; rintro e w' ⟨rfl, rfl⟩) | (go_at_call 21; refine (rmul_any _ _ _).mono ?_; rintro e w' ⟨rfl, rfl⟩) | (go_at_call 18; refine (radd_any _ _ _).mono ?_; rintro e w' ⟨rfl, rfl⟩) | (go_at_call 24; refine (take_low l (by omega) _).mono ?_; rintro e w' ⟨rfl, rfl⟩) | (go_at_call 25; refine (fill_as _ _ _ _ _ E.out _).mono ?_; rintro e w' ⟨rfl, rfl⟩))
    all_goals go_ret
    all_goals exact ⟨rfl, Below.refl _ _⟩
  · rw [show max l 0 = l by omega] at e
    have hd : decide (1000 ≤ l) = true := decide_eq_true hl
    by_cases hmin : mulI b 1000 < addI l (mulI r 0)
    all_goals first | rw [show min (addI l (mulI r 0)) (mulI b 1000) = mulI b 1000 by omega] at e | rw [show min (addI l (mulI r 0)) (mulI b 1000) = addI l (mulI r 0) by omega] at e
    all_goals have E := Lib.hid e
    all_goals clear e
    all_goals go_enter Try.func7, Try.ntmps7
    all_goals go_wp2_with (first | (go_at_call 16; refine (awake1 _).mono ?_; rintro e w' ⟨rfl, rfl⟩) | (go_at_call 21; refine (rmul_any _ _ _).mono ?_; rintro e w' ⟨rfl, rfl⟩) | (go_at_call 18; refine (radd_any _ _ _).mono ?_; rintro e w' ⟨rfl, rfl⟩) | (go_at_call 24; refine (take_high l hl l1 _).mono ?_; rintro e w' ⟨rfl, rfl⟩) | (go_at_call 25; refine (fill_as _ _ _ _ _ E.out _).mono ?_; rintro e w' ⟨rfl, rfl⟩))
    all_goals go_ret
    all_goals exact ⟨rfl, Below.refl _ _⟩

set_option maxHeartbeats 2000000 in
theorem fills_010 (l r b m : Int) (l1 : l ≤ 9223372036854775807) (hr : (¬ r < 0)) (hb : (b < 0)) (hm : (¬ m < 0)) (w : World) :
    Calls Try.prog 7 #[.int .i64 l, .int .i64 r, .int .i64 b, .int .i64 m] w fun e w' => e = .returned (.bool true) ∧ Below w.heap.size w w' := by
  have e := fillI_eq l r b m
  rw [show max r 0 = r by omega, show max b 0 = 0 by omega, show max m 0 = m by omega] at e
  rcases (show l < 0 ∨ (0 ≤ l ∧ l < 1000) ∨ 1000 ≤ l by omega) with hl | ⟨hl, hl2⟩ | hl
  · rw [show max l 0 = 0 by omega] at e
    have hd : decide (1000 ≤ l) = false := decide_eq_false (by omega)
    by_cases hmin : mulI 0 1000 < addI 0 (mulI r m)
    all_goals first | rw [show min (addI 0 (mulI r m)) (mulI 0 1000) = mulI 0 1000 by omega] at e | rw [show min (addI 0 (mulI r m)) (mulI 0 1000) = addI 0 (mulI r m) by omega] at e
    all_goals have E := Lib.hid e
    all_goals clear e
    all_goals go_enter Try.func7, Try.ntmps7
    all_goals go_wp2_with (first | (go_at_call 16; refine (awake1 _).mono ?_; rintro e w' ⟨rfl, rfl⟩) | (go_at_call 21; refine (rmul_any _ _ _).mono ?_; rintro e w' ⟨rfl, rfl⟩) | (go_at_call 18; refine (radd_any _ _ _).mono ?_; rintro e w' ⟨rfl, rfl⟩) | (go_at_call 24; refine (take_low l (by omega) _).mono ?_; rintro e w' ⟨rfl, rfl⟩) | (go_at_call 25; refine (fill_as _ _ _ _ _ E.out _).mono ?_; rintro e w' ⟨rfl, rfl⟩))
    all_goals go_ret
    all_goals exact ⟨rfl, Below.refl _ _⟩
  · rw [show max l 0 = l by omega] at e
    have hd : decide (1000 ≤ l) = false := decide_eq_false (by omega)
    by_cases hmin : mulI 0 1000 < addI l (mulI r m)
    all_goals first | rw [show min (addI l (mulI r m)) (mulI 0 1000) = mulI 0 1000 by omega] at e | rw [show min (addI l (mulI r m)) (mulI 0 1000) = addI l (mulI r m) by omega] at e
    all_goals have E := Lib.hid e
    all_goals clear e
    all_goals go_enter Try.func7, Try.ntmps7
    all_goals go_wp2_with (first | (go_at_call 16; refine (awake1 _).mono ?_; rintro e w' ⟨rfl, rfl⟩) | (go_at_call 21; refine (rmul_any _ _ _).mono ?_; rintro e w' ⟨rfl, rfl⟩) | (go_at_call 18; refine (radd_any _ _ _).mono ?_; rintro e w' ⟨rfl, rfl⟩) | (go_at_call 24; refine (take_low l (by omega) _).mono ?_; rintro e w' ⟨rfl, rfl⟩) | (go_at_call 25; refine (fill_as _ _ _ _ _ E.out _).mono ?_; rintro e w' ⟨rfl, rfl⟩))
    all_goals go_ret
    all_goals exact ⟨rfl, Below.refl _ _⟩
  · rw [show max l 0 = l by omega] at e
    have hd : decide (1000 ≤ l) = true := decide_eq_true hl
    by_cases hmin : mulI 0 1000 < addI l (mulI r m)
    all_goals first | rw [show min (addI l (mulI r m)) (mulI 0 1000) = mulI 0 1000 by omega] at e | rw [show min (addI l (mulI r m)) (mulI 0 1000) = addI l (mulI r m) by omega] at e
    all_goals have E := Lib.hid e
    all_goals clear e
    all_goals go_enter Try.func7, Try.ntmps7
    all_goals go_wp2_with (first | (go_at_call 16; refine (awake1 _).mono ?_; rintro e w' ⟨rfl, rfl⟩) | (go_at_call 21; refine (rmul_any _ _ _).mono ?_; rintro e w' ⟨rfl, rfl⟩) | (go_at_call 18; refine (radd_any _ _ _).mono ?_; rintro e w' ⟨rfl, rfl⟩) | (go_at_call 24; refine (take_high l hl l1 _).mono ?_; rintro e w' ⟨rfl, rfl⟩) | (go_at_call 25; refine (fill_as _ _ _ _ _ E.out _).mono ?_; rintro e w' ⟨rfl, rfl⟩))
    all_goals go_ret
    all_goals exact ⟨rfl, Below.refl _ _⟩

set_option maxHeartbeats 2000000 in
theorem fills_011 (l r b m : Int) (l1 : l ≤ 9223372036854775807) (hr : (¬ r < 0)) (hb : (b < 0)) (hm : (m < 0)) (w : World) :
    Calls Try.prog 7 #[.int .i64 l, .int .i64 r, .int .i64 b, .int .i64 m] w fun e w' => e = .returned (.bool true) ∧ Below w.heap.size w w' := by
  have e := fillI_eq l r b m
  rw [show max r 0 = r by omega, show max b 0 = 0 by omega, show max m 0 = 0 by omega] at e
  rcases (show l < 0 ∨ (0 ≤ l ∧ l < 1000) ∨ 1000 ≤ l by omega) with hl | ⟨hl, hl2⟩ | hl
  · rw [show max l 0 = 0 by omega] at e
    have hd : decide (1000 ≤ l) = false := decide_eq_false (by omega)
    by_cases hmin : mulI 0 1000 < addI 0 (mulI r 0)
    all_goals first | rw [show min (addI 0 (mulI r 0)) (mulI 0 1000) = mulI 0 1000 by omega] at e | rw [show min (addI 0 (mulI r 0)) (mulI 0 1000) = addI 0 (mulI r 0) by omega] at e
    all_goals have E := Lib.hid e
    all_goals clear e
    all_goals go_enter Try.func7, Try.ntmps7
    all_goals go_wp2_with (first | (go_at_call 16; refine (awake1 _).mono ?_; rintro e w' ⟨rfl, rfl⟩) | (go_at_call 21; refine (rmul_any _ _ _).mono ?_; rintro e w' ⟨rfl, rfl⟩) | (go_at_call 18; refine (radd_any _ _ _).mono ?_; rintro e w' ⟨rfl, rfl⟩) | (go_at_call 24; refine (take_low l (by omega) _).mono ?_; rintro e w' ⟨rfl, rfl⟩) | (go_at_call 25; refine (fill_as _ _ _ _ _ E.out _).mono ?_; rintro e w' ⟨rfl, rfl⟩))
    all_goals go_ret
    all_goals exact ⟨rfl, Below.refl _ _⟩
  · rw [show max l 0 = l by omega] at e
    have hd : decide (1000 ≤ l) = false := decide_eq_false (by omega)
    by_cases hmin : mulI 0 1000 < addI l (mulI r 0)
    all_goals first | rw [show min (addI l (mulI r 0)) (mulI 0 1000) = mulI 0 1000 by omega] at e | rw [show min (addI l (mulI r 0)) (mulI 0 1000) = addI l (mulI r 0) by omega] at e
    all_goals have E := Lib.hid e
    all_goals clear e
    all_goals go_enter Try.func7, Try.ntmps7
    all_goals go_wp2_with (first | (go_at_call 16; refine (awake1 _).mono ?_; rintro e w' ⟨rfl, rfl⟩) | (go_at_call 21; refine (rmul_any _ _ _).mono ?_; rintro e w' ⟨rfl, rfl⟩) | (go_at_call 18; refine (radd_any _ _ _).mono ?_; rintro e w' ⟨rfl, rfl⟩) | (go_at_call 24; refine (take_low l (by omega) _).mono ?_; rintro e w' ⟨rfl, rfl⟩) | (go_at_call 25; refine (fill_as _ _ _ _ _ E.out _).mono ?_; rintro e w' ⟨rfl, rfl⟩))
    all_goals go_ret
    all_goals exact ⟨rfl, Below.refl _ _⟩
  · rw [show max l 0 = l by omega] at e
    have hd : decide (1000 ≤ l) = true := decide_eq_true hl
    by_cases hmin : mulI 0 1000 < addI l (mulI r 0)
    all_goals first | rw [show min (addI l (mulI r 0)) (mulI 0 1000) = mulI 0 1000 by omega] at e | rw [show min (addI l (mulI r 0)) (mulI 0 1000) = addI l (mulI r 0) by omega] at e
    all_goals have E := Lib.hid e
    all_goals clear e
    all_goals go_enter Try.func7, Try.ntmps7
    all_goals go_wp2_with (first | (go_at_call 16; refine (awake1 _).mono ?_; rintro e w' ⟨rfl, rfl⟩) | (go_at_call 21; refine (rmul_any _ _ _).mono ?_; rintro e w' ⟨rfl, rfl⟩) | (go_at_call 18; refine (radd_any _ _ _).mono ?_; rintro e w' ⟨rfl, rfl⟩) | (go_at_call 24; refine (take_high l hl l1 _).mono ?_; rintro e w' ⟨rfl, rfl⟩) | (go_at_call 25; refine (fill_as _ _ _ _ _ E.out _).mono ?_; rintro e w' ⟨rfl, rfl⟩))
    all_goals go_ret
    all_goals exact ⟨rfl, Below.refl _ _⟩

set_option maxHeartbeats 2000000 in
theorem fills_100 (l r b m : Int) (l1 : l ≤ 9223372036854775807) (hr : (r < 0)) (hb : (¬ b < 0)) (hm : (¬ m < 0)) (w : World) :
    Calls Try.prog 7 #[.int .i64 l, .int .i64 r, .int .i64 b, .int .i64 m] w fun e w' => e = .returned (.bool true) ∧ Below w.heap.size w w' := by
  have e := fillI_eq l r b m
  rw [show max r 0 = 0 by omega, show max b 0 = b by omega, show max m 0 = m by omega] at e
  rcases (show l < 0 ∨ (0 ≤ l ∧ l < 1000) ∨ 1000 ≤ l by omega) with hl | ⟨hl, hl2⟩ | hl
  · rw [show max l 0 = 0 by omega] at e
    have hd : decide (1000 ≤ l) = false := decide_eq_false (by omega)
    by_cases hmin : mulI b 1000 < addI 0 (mulI 0 m)
    all_goals first | rw [show min (addI 0 (mulI 0 m)) (mulI b 1000) = mulI b 1000 by omega] at e | rw [show min (addI 0 (mulI 0 m)) (mulI b 1000) = addI 0 (mulI 0 m) by omega] at e
    all_goals have E := Lib.hid e
    all_goals clear e
    all_goals go_enter Try.func7, Try.ntmps7
    all_goals go_wp2_with (first | (go_at_call 16; refine (awake1 _).mono ?_; rintro e w' ⟨rfl, rfl⟩) | (go_at_call 21; refine (rmul_any _ _ _).mono ?_; rintro e w' ⟨rfl, rfl⟩) | (go_at_call 18; refine (radd_any _ _ _).mono ?_; rintro e w' ⟨rfl, rfl⟩) | (go_at_call 24; refine (take_low l (by omega) _).mono ?_; rintro e w' ⟨rfl, rfl⟩) | (go_at_call 25; refine (fill_as _ _ _ _ _ E.out _).mono ?_; rintro e w' ⟨rfl, rfl⟩))
    all_goals go_ret
    all_goals exact ⟨rfl, Below.refl _ _⟩
  · rw [show max l 0 = l by omega] at e
    have hd : decide (1000 ≤ l) = false := decide_eq_false (by omega)
    by_cases hmin : mulI b 1000 < addI l (mulI 0 m)
    all_goals first | rw [show min (addI l (mulI 0 m)) (mulI b 1000) = mulI b 1000 by omega] at e | rw [show min (addI l (mulI 0 m)) (mulI b 1000) = addI l (mulI 0 m) by omega] at e
    all_goals have E := Lib.hid e
    all_goals clear e
    all_goals go_enter Try.func7, Try.ntmps7
    all_goals go_wp2_with (first | (go_at_call 16; refine (awake1 _).mono ?_; rintro e w' ⟨rfl, rfl⟩) | (go_at_call 21; refine (rmul_any _ _ _).mono ?_; rintro e w' ⟨rfl, rfl⟩) | (go_at_call 18; refine (radd_any _ _ _).mono ?_; rintro e w' ⟨rfl, rfl⟩) | (go_at_call 24; refine (take_low l (by omega) _).mono ?_; rintro e w' ⟨rfl, rfl⟩) | (go_at_call 25; refine (fill_as _ _ _ _ _ E.out _).mono ?_; rintro e w' ⟨rfl, rfl⟩))
    all_goals go_ret
    all_goals exact ⟨rfl, Below.refl _ _⟩
  · rw [show max l 0 = l by omega] at e
    have hd : decide (1000 ≤ l) = true := decide_eq_true hl
    by_cases hmin : mulI b 1000 < addI l (mulI 0 m)
    all_goals first | rw [show min (addI l (mulI 0 m)) (mulI b 1000) = mulI b 1000 by omega] at e | rw [show min (addI l (mulI 0 m)) (mulI b 1000) = addI l (mulI 0 m) by omega] at e
    all_goals have E := Lib.hid e
    all_goals clear e
    all_goals go_enter Try.func7, Try.ntmps7
    all_goals go_wp2_with (first | (go_at_call 16; refine (awake1 _).mono ?_; rintro e w' ⟨rfl, rfl⟩) | (go_at_call 21; refine (rmul_any _ _ _).mono ?_; rintro e w' ⟨rfl, rfl⟩) | (go_at_call 18; refine (radd_any _ _ _).mono ?_; rintro e w' ⟨rfl, rfl⟩) | (go_at_call 24; refine (take_high l hl l1 _).mono ?_; rintro e w' ⟨rfl, rfl⟩) | (go_at_call 25; refine (fill_as _ _ _ _ _ E.out _).mono ?_; rintro e w' ⟨rfl, rfl⟩))
    all_goals go_ret
    all_goals exact ⟨rfl, Below.refl _ _⟩

set_option maxHeartbeats 2000000 in
theorem fills_101 (l r b m : Int) (l1 : l ≤ 9223372036854775807) (hr : (r < 0)) (hb : (¬ b < 0)) (hm : (m < 0)) (w : World) :
    Calls Try.prog 7 #[.int .i64 l, .int .i64 r, .int .i64 b, .int .i64 m] w fun e w' => e = .returned (.bool true) ∧ Below w.heap.size w w' := by
  have e := fillI_eq l r b m
  rw [show max r 0 = 0 by omega, show max b 0 = b by omega, show max m 0 = 0 by omega] at e
  rcases (show l < 0 ∨ (0 ≤ l ∧ l < 1000) ∨ 1000 ≤ l by omega) with hl | ⟨hl, hl2⟩ | hl
  · rw [show max l 0 = 0 by omega] at e
    have hd : decide (1000 ≤ l) = false := decide_eq_false (by omega)
    by_cases hmin : mulI b 1000 < addI 0 (mulI 0 0)
    all_goals first | rw [show min (addI 0 (mulI 0 0)) (mulI b 1000) = mulI b 1000 by omega] at e | rw [show min (addI 0 (mulI 0 0)) (mulI b 1000) = addI 0 (mulI 0 0) by omega] at e
    all_goals have E := Lib.hid e
    all_goals clear e
    all_goals go_enter Try.func7, Try.ntmps7
    all_goals go_wp2_with (first | (go_at_call 16; refine (awake1 _).mono ?_; rintro e w' ⟨rfl, rfl⟩) | (go_at_call 21; refine (rmul_any _ _ _).mono ?_; rintro e w' ⟨rfl, rfl⟩) | (go_at_call 18; refine (radd_any _ _ _).mono ?_; rintro e w' ⟨rfl, rfl⟩) | (go_at_call 24; refine (take_low l (by omega) _).mono ?_; rintro e w' ⟨rfl, rfl⟩) | (go_at_call 25; refine (fill_as _ _ _ _ _ E.out _).mono ?_; rintro e w' ⟨rfl, rfl⟩))
    all_goals go_ret
    all_goals exact ⟨rfl, Below.refl _ _⟩
  · rw [show max l 0 = l by omega] at e
    have hd : decide (1000 ≤ l) = false := decide_eq_false (by omega)
    by_cases hmin : mulI b 1000 < addI l (mulI 0 0)
    all_goals first | rw [show min (addI l (mulI 0 0)) (mulI b 1000) = mulI b 1000 by omega] at e | rw [show min (addI l (mulI 0 0)) (mulI b 1000) = addI l (mulI 0 0) by omega] at e
    all_goals have E := Lib.hid e
    all_goals clear e
    all_goals go_enter Try.func7, Try.ntmps7
    all_goals go_wp2_with (first | (go_at_call 16; refine (awake1 _).mono ?_; rintro e w' ⟨rfl, rfl⟩) | (go_at_call 21; refine (rmul_any _ _ _).mono ?_; rintro e w' ⟨rfl, rfl⟩) | (go_at_call 18; refine (radd_any _ _ _).mono ?_; rintro e w' ⟨rfl, rfl⟩) | (go_at_call 24; refine (take_low l (by omega) _).mono ?_; rintro e w' ⟨rfl, rfl⟩) | (go_at_call 25; refine (fill_as _ _ _ _ _ E.out _).mono ?_; rintro e w' ⟨rfl, rfl⟩))
    all_goals go_ret
    all_goals exact ⟨rfl, Below.refl _ _⟩
  · rw [show max l 0 = l by omega] at e
    have hd : decide (1000 ≤ l) = true := decide_eq_true hl
    by_cases hmin : mulI b 1000 < addI l (mulI 0 0)
    all_goals first | rw [show min (addI l (mulI 0 0)) (mulI b 1000) = mulI b 1000 by omega] at e | rw [show min (addI l (mulI 0 0)) (mulI b 1000) = addI l (mulI 0 0) by omega] at e
    all_goals have E := Lib.hid e
    all_goals clear e
    all_goals go_enter Try.func7, Try.ntmps7
    all_goals go_wp2_with (first | (go_at_call 16; refine (awake1 _).mono ?_; rintro e w' ⟨rfl, rfl⟩) | (go_at_call 21; refine (rmul_any _ _ _).mono ?_; rintro e w' ⟨rfl, rfl⟩) | (go_at_call 18; refine (radd_any _ _ _).mono ?_; rintro e w' ⟨rfl, rfl⟩) | (go_at_call 24; refine (take_high l hl l1 _).mono ?_; rintro e w' ⟨rfl, rfl⟩) | (go_at_call 25; refine (fill_as _ _ _ _ _ E.out _).mono ?_; rintro e w' ⟨rfl, rfl⟩))
    all_goals go_ret
    all_goals exact ⟨rfl, Below.refl _ _⟩

set_option maxHeartbeats 2000000 in
theorem fills_110 (l r b m : Int) (l1 : l ≤ 9223372036854775807) (hr : (r < 0)) (hb : (b < 0)) (hm : (¬ m < 0)) (w : World) :
    Calls Try.prog 7 #[.int .i64 l, .int .i64 r, .int .i64 b, .int .i64 m] w fun e w' => e = .returned (.bool true) ∧ Below w.heap.size w w' := by
  have e := fillI_eq l r b m
  rw [show max r 0 = 0 by omega, show max b 0 = 0 by omega, show max m 0 = m by omega] at e
  rcases (show l < 0 ∨ (0 ≤ l ∧ l < 1000) ∨ 1000 ≤ l by omega) with hl | ⟨hl, hl2⟩ | hl
  · rw [show max l 0 = 0 by omega] at e
    have hd : decide (1000 ≤ l) = false := decide_eq_false (by omega)
    by_cases hmin : mulI 0 1000 < addI 0 (mulI 0 m)
    all_goals first | rw [show min (addI 0 (mulI 0 m)) (mulI 0 1000) = mulI 0 1000 by omega] at e | rw [show min (addI 0 (mulI 0 m)) (mulI 0 1000) = addI 0 (mulI 0 m) by omega] at e
    all_goals have E := Lib.hid e
    all_goals clear e
    all_goals go_enter Try.func7, Try.ntmps7
    all_goals go_wp2_with (first | (go_at_call 16; refine (awake1 _).mono ?_; rintro e w' ⟨rfl, rfl⟩) | (go_at_call 21; refine (rmul_any _ _ _).mono ?_; rintro e w' ⟨rfl, rfl⟩) | (go_at_call 18; refine (radd_any _ _ _).mono ?_; rintro e w' ⟨rfl, rfl⟩) | (go_at_call 24; refine (take_low l (by omega) _).mono ?_; rintro e w' ⟨rfl, rfl⟩) | (go_at_call 25; refine (fill_as _ _ _ _ _ E.out _).mono ?_; rintro e w' ⟨rfl, rfl⟩))
    all_goals go_ret
    all_goals exact ⟨rfl, Below.refl _ _⟩
  · rw [show max l 0 = l by omega] at e
    have hd : decide (1000 ≤ l) = false := decide_eq_false (by omega)
    by_cases hmin : mulI 0 1000 < addI l (mulI 0 m)
    all_goals first | rw [show min (addI l (mulI 0 m)) (mulI 0 1000) = mulI 0 1000 by omega] at e | rw [show min (addI l (mulI 0 m)) (mulI 0 1000) = addI l (mulI 0 m) by omega] at e
    all_goals have E := Lib.hid e
    all_goals clear e
    all_goals go_enter Try.func7, Try.ntmps7
    all_goals go_wp2_with (first | (go_at_call 16; refine (awake1 _).mono ?_; rintro e w' ⟨rfl, rfl⟩) | (go_at_call 21; refine (rmul_any _ _ _).mono ?_; rintro e w' ⟨rfl, rfl⟩) | (go_at_call 18; refine (radd_any _ _ _).mono ?_; rintro e w' ⟨rfl, rfl⟩) | (go_at_call 24; refine (take_low l (by omega) _).mono ?_; rintro e w' ⟨rfl, rfl⟩) | (go_at_call 25; refine (fill_as _ _ _ _ _ E.out _).mono ?_; rintro e w' ⟨rfl, rfl⟩))
    all_goals go_ret
    all_goals exact ⟨rfl, Below.refl _ _⟩
  · rw [show max l 0 = l by omega] at e
    have hd : decide (1000 ≤ l) = true := decide_eq_true hl
    by_cases hmin : mulI 0 1000 < addI l (mulI 0 m)
    all_goals first | rw [show min (addI l (mulI 0 m)) (mulI 0 1000) = mulI 0 1000 by omega] at e | rw [show min (addI l (mulI 0 m)) (mulI 0 1000) = addI l (mulI 0 m) by omega] at e
    all_goals have E := Lib.hid e
    all_goals clear e
    all_goals go_enter Try.func7, Try.ntmps7
    all_goals go_wp2_with (first | (go_at_call 16; refine (awake1 _).mono ?_; rintro e w' ⟨rfl, rfl⟩) | (go_at_call 21; refine (rmul_any _ _ _).mono ?_; rintro e w' ⟨rfl, rfl⟩) | (go_at_call 18; refine (radd_any _ _ _).mono ?_; rintro e w' ⟨rfl, rfl⟩) | (go_at_call 24; refine (take_high l hl l1 _).mono ?_; rintro e w' ⟨rfl, rfl⟩) | (go_at_call 25; refine (fill_as _ _ _ _ _ E.out _).mono ?_; rintro e w' ⟨rfl, rfl⟩))
    all_goals go_ret
    all_goals exact ⟨rfl, Below.refl _ _⟩

set_option maxHeartbeats 2000000 in
theorem fills_111 (l r b m : Int) (l1 : l ≤ 9223372036854775807) (hr : (r < 0)) (hb : (b < 0)) (hm : (m < 0)) (w : World) :
    Calls Try.prog 7 #[.int .i64 l, .int .i64 r, .int .i64 b, .int .i64 m] w fun e w' => e = .returned (.bool true) ∧ Below w.heap.size w w' := by
  have e := fillI_eq l r b m
  rw [show max r 0 = 0 by omega, show max b 0 = 0 by omega, show max m 0 = 0 by omega] at e
  rcases (show l < 0 ∨ (0 ≤ l ∧ l < 1000) ∨ 1000 ≤ l by omega) with hl | ⟨hl, hl2⟩ | hl
  · rw [show max l 0 = 0 by omega, show mulI 0 0 = 0 from rfl, show addI 0 0 = 0 from rfl, show mulI 0 1000 = 0 from rfl, show min (0 : Int) 0 = 0 from rfl] at e
    have hd : decide (1000 ≤ l) = false := decide_eq_false (by omega)
    have E := Lib.hid e
    clear e
    go_enter Try.func7, Try.ntmps7
    go_wp2_with (first | (go_at_call 16; refine (awake1 _).mono ?_; rintro e w' ⟨rfl, rfl⟩) | (go_at_call 21; refine (rmul_as _ _ 0 rfl _).mono ?_; rintro e w' ⟨rfl, rfl⟩) | (go_at_call 18; refine (radd_as _ _ 0 rfl _).mono ?_; rintro e w' ⟨rfl, rfl⟩) | (go_at_call 24; refine (take_low l (by omega) _).mono ?_; rintro e w' ⟨rfl, rfl⟩) | (go_at_call 25; refine (fill_as _ _ _ _ _ E.out _).mono ?_; rintro e w' ⟨rfl, rfl⟩))
    go_ret
    exact ⟨rfl, Below.refl _ _⟩
  · rw [show max l 0 = l by omega] at e
    have hd : decide (1000 ≤ l) = false := decide_eq_false (by omega)
    by_cases hmin : mulI 0 1000 < addI l (mulI 0 0)
    all_goals first | rw [show min (addI l (mulI 0 0)) (mulI 0 1000) = mulI 0 1000 by omega] at e | rw [show min (addI l (mulI 0 0)) (mulI 0 1000) = addI l (mulI 0 0) by omega] at e
    all_goals have E := Lib.hid e
    all_goals clear e
    all_goals go_enter Try.func7, Try.ntmps7
    all_goals go_wp2_with (first | (go_at_call 16; refine (awake1 _).mono ?_; rintro e w' ⟨rfl, rfl⟩) | (go_at_call 21; refine (rmul_any _ _ _).mono ?_; rintro e w' ⟨rfl, rfl⟩) | (go_at_call 18; refine (radd_any _ _ _).mono ?_; rintro e w' ⟨rfl, rfl⟩) | (go_at_call 24; refine (take_low l (by omega) _).mono ?_; rintro e w' ⟨rfl, rfl⟩) | (go_at_call 25; refine (fill_as _ _ _ _ _ E.out _).mono ?_; rintro e w' ⟨rfl, rfl⟩))
    all_goals go_ret
    all_goals exact ⟨rfl, Below.refl _ _⟩
  · rw [show max l 0 = l by omega] at e
    have hd : decide (1000 ≤ l) = true := decide_eq_true hl
    by_cases hmin : mulI 0 1000 < addI l (mulI 0 0)
    all_goals first | rw [show min (addI l (mulI 0 0)) (mulI 0 1000) = mulI 0 1000 by omega] at e | rw [show min (addI l (mulI 0 0)) (mulI 0 1000) = addI l (mulI 0 0) by omega] at e
    all_goals have E := Lib.hid e
    all_goals clear e
    all_goals go_enter Try.func7, Try.ntmps7
    all_goals go_wp2_with (first | (go_at_call 16; refine (awake1 _).mono ?_; rintro e w' ⟨rfl, rfl⟩) | (go_at_call 21; refine (rmul_any _ _ _).mono ?_; rintro e w' ⟨rfl, rfl⟩) | (go_at_call 18; refine (radd_any _ _ _).mono ?_; rintro e w' ⟨rfl, rfl⟩) | (go_at_call 24; refine (take_high l hl l1 _).mono ?_; rintro e w' ⟨rfl, rfl⟩) | (go_at_call 25; refine (fill_as _ _ _ _ _ E.out _).mono ?_; rintro e w' ⟨rfl, rfl⟩))
    all_goals go_ret
    all_goals exact ⟨rfl, Below.refl _ _⟩

theorem tickFills_walk (l r b m : Int) (w : World) (wl : (Lit.int .i64 l).wf = true) (_wr : (Lit.int .i64 r).wf = true) (_wb : (Lit.int .i64 b).wf = true) (_wm : (Lit.int .i64 m).wf = true) :
    Calls Try.prog 7 #[.int .i64 l, .int .i64 r, .int .i64 b, .int .i64 m] w fun e w' => e = .returned (.bool true) ∧ Below w.heap.size w w' := by
  have l1 := (bounds_i64 wl).2
  by_cases hr : r < 0
  all_goals by_cases hb : b < 0
  all_goals by_cases hm : m < 0
  · exact fills_111 l r b m l1 hr hb hm w
  · exact fills_110 l r b m l1 hr hb hm w
  · exact fills_101 l r b m l1 hr hb hm w
  · exact fills_100 l r b m l1 hr hb hm w
  · exact fills_011 l r b m l1 hr hb hm w
  · exact fills_010 l r b m l1 hr hb hm w
  · exact fills_001 l r b m l1 hr hb hm w
  · exact fills_000 l r b m l1 hr hb hm w

end Go.Proofs.Ytjclllmdaoapeaa
