/- The laws of layer 1, walked. -/
import Derived.Test.YtjclllmdaoapeaaTick
import Derived.OpenShut
namespace Go.Proofs.Ytjclllmdaoapeaa
open Go.RowKit

theorem add_as (a b v : Int) (h : addI a b = v) (w : World) :
    Calls Try.prog 17 #[.int .i64 a, .int .i64 b] w fun e w' => e = .returned (.int .i64 v) ∧ w = w' := h ▸ add_any a b w
theorem mul_as (a b v : Int) (h : mulI a b = v) (w : World) :
    Calls Try.prog 20 #[.int .i64 a, .int .i64 b] w fun e w' => e = .returned (.int .i64 v) ∧ w = w' := h ▸ mul_any a b w
theorem shl_as (a n v : Int) (hn : -9223372036854775808 ≤ n) (h : shl a n = v) (w : World) :
    Calls Try.prog 22 #[.int .i64 a, .int .i64 n] w fun e w' => e = .returned (.int .i64 v) ∧ w = w' := h ▸ shl_any a n hn w
theorem clock_as (a b v : Int) (h : clockI a b = v) (w : World) :
    Calls Try.prog 23 #[.int .i64 a, .int .i64 b] w fun e w' => e = .returned (.int .i64 v) ∧ w = w' := h ▸ clock_any a b w
theorem fill_as (a b c d v : Int) (h : fillI a b c d = v) (w : World) :
    Calls Try.prog 25 #[.int .i64 a, .int .i64 b, .int .i64 c, .int .i64 d] w fun e w' => e = .returned (.int .i64 v) ∧ w = w' := h ▸ fill_any a b c d w
theorem wait_as (a b v : Int) (h : waitI a b = v) (w : World) :
    Calls Try.prog 26 #[.int .i64 a, .int .i64 b] w fun e w' => e = .returned (.int .i64 v) ∧ w = w' := h ▸ wait_any a b w

set_option maxHeartbeats 400000 in
theorem awake1 (w : World) : Calls Try.prog 16 #[] w fun e w' => e = .returned (.bool true) ∧ w = w' := by
  go_enter Try.func16, Try.ntmps16
  go_wp2_with (first
    | (go_at_call 24; refine (take_high _ (by omega) (by omega) _).mono ?_; rintro e w' ⟨rfl, rfl⟩)
    | (go_at_call 17; refine (add_as _ _ 4611686018427387903 (by decide) _).mono ?_; rintro e w' ⟨rfl, rfl⟩)
    | (go_at_call 20; refine (mul_as _ _ (-12) (by decide) _).mono ?_; rintro e w' ⟨rfl, rfl⟩)
    | (go_at_call 22; refine (shl_as _ _ 48 (by omega) (by decide) _).mono ?_; rintro e w' ⟨rfl, rfl⟩)
    | (go_at_call 23; refine (clock_as _ _ 5 (by decide) _).mono ?_; rintro e w' ⟨rfl, rfl⟩)
    | (go_at_call 25; refine (fill_as _ _ _ _ 1500 (by decide) _).mono ?_; rintro e w' ⟨rfl, rfl⟩)
    | (go_at_call 26; refine (wait_as _ _ 334 (by decide) _).mono ?_; rintro e w' ⟨rfl, rfl⟩))
  go_ret
  exact ⟨rfl, rfl⟩

theorem sub_as (a b v : Int) (h : subI a b = v) (w : World) :
    Calls Try.prog 19 #[.int .i64 a, .int .i64 b] w fun e w' => e = .returned (.int .i64 v) ∧ w = w' := h ▸ sub_any a b w

set_option maxHeartbeats 400000 in
theorem tickAdds_walk (a b : Int) (w : World) (_wa : (Lit.int .i64 a).wf = true) (_wb : (Lit.int .i64 b).wf = true) :
    Calls Try.prog 3 #[.int .i64 a, .int .i64 b] w fun e w' => e = .returned (.bool true) ∧ Below w.heap.size w w' := by
  have b1 := clampI_lo b
  have b2 := clampI_hi b
  have hs : subI a b = addI a (-clampI b) := by
    unfold subI addI
    rw [clampI_id (a := -clampI b) (by omega) (by omega), Int.sub_eq_add_neg]
  have HS := Lib.hid hs
  clear hs
  go_enter Try.func3, Try.ntmps3
  go_wp2_with (first
    | (go_at_call 15; refine (held_any _ _).mono ?_; rintro e w' ⟨rfl, rfl⟩)
    | (go_at_call 16; refine (awake1 _).mono ?_; rintro e w' ⟨rfl, rfl⟩)
    | (go_at_call 17; refine (add_any _ _ _).mono ?_; rintro e w' ⟨rfl, rfl⟩)
    | (go_at_call 19; refine (sub_as _ _ _ HS.out _).mono ?_; rintro e w' ⟨rfl, rfl⟩)
    | (go_at_call 18; refine (radd_any _ _ _).mono ?_; rintro e w' ⟨rfl, rfl⟩))
  go_ret
  exact ⟨rfl, Below.refl _ _⟩

set_option maxHeartbeats 400000 in
theorem tickMuls_walk (a b : Int) (w : World) (_wa : (Lit.int .i64 a).wf = true) (_wb : (Lit.int .i64 b).wf = true) :
    Calls Try.prog 4 #[.int .i64 a, .int .i64 b] w fun e w' => e = .returned (.bool true) ∧ Below w.heap.size w w' := by
  go_enter Try.func4, Try.ntmps4
  go_wp2_with (first
    | (go_at_call 16; refine (awake1 _).mono ?_; rintro e w' ⟨rfl, rfl⟩)
    | (go_at_call 20; refine (mul_any _ _ _).mono ?_; rintro e w' ⟨rfl, rfl⟩)
    | (go_at_call 21; refine (rmul_any _ _ _).mono ?_; rintro e w' ⟨rfl, rfl⟩))
  go_ret
  exact ⟨rfl, Below.refl _ _⟩

/-! Doubling comes to rest. -/
theorem shlI_zero (k : Nat) : shlI k 0 = 0 := by
  induction k with
  | zero => rfl
  | succ k ih => show clampI (2 * shlI k 0) = 0; rw [ih]; rfl
theorem shlI_pos (x : Int) (h1 : 1 ≤ x) (h2 : x ≤ 4611686018427387903) (k : Nat) : ∃ p : Int, p = 2 ^ k ∧ 1 ≤ p ∧ (p ≤ shlI k x ∨ shlI k x = 4611686018427387903) ∧ shlI k x ≤ 4611686018427387903 := by
  induction k with
  | zero => exact ⟨1, rfl, by omega, .inl h1, h2⟩
  | succ k ih =>
    obtain ⟨p, hp, p1, hor, hle⟩ := ih
    refine ⟨2 * p, by rw [hp, Int.pow_succ, Int.mul_comm], by omega, ?_, clampI_hi _⟩
    show 2 * p ≤ clampI (2 * shlI k x) ∨ clampI (2 * shlI k x) = 4611686018427387903
    rcases hor with h | h
    · by_cases hb : 2 * shlI k x ≤ 4611686018427387903
      · left; rw [clampI_id (by omega) hb]; omega
      · right; rw [clampI_big (by omega)]
    · right; rw [h, clampI_big (by omega)]
theorem shlI_neg (x : Int) (h1 : x ≤ -1) (h2 : -4611686018427387903 ≤ x) (k : Nat) : ∃ p : Int, p = 2 ^ k ∧ 1 ≤ p ∧ (shlI k x ≤ -p ∨ shlI k x = -4611686018427387903) ∧ -4611686018427387903 ≤ shlI k x := by
  induction k with
  | zero => exact ⟨1, rfl, by omega, .inl h1, h2⟩
  | succ k ih =>
    obtain ⟨p, hp, p1, hor, hle⟩ := ih
    refine ⟨2 * p, by rw [hp, Int.pow_succ, Int.mul_comm], by omega, ?_, clampI_lo _⟩
    show clampI (2 * shlI k x) ≤ -(2 * p) ∨ clampI (2 * shlI k x) = -4611686018427387903
    rcases hor with h | h
    · by_cases hb : -4611686018427387903 ≤ 2 * shlI k x
      · left; rw [clampI_id hb (by omega)]; omega
      · right; rw [clampI_small (by omega)]
    · right; rw [h, clampI_small (by omega)]
theorem shlI_rest_at (a : Int) : clampI (2 * shlI 64 (clampI a)) = shlI 64 (clampI a) := by
  have h1 := clampI_lo a
  have h2 := clampI_hi a
  generalize clampI a = x at *
  by_cases h0 : x = 0
  · subst h0; rw [shlI_zero]; rfl
  · by_cases hp : 1 ≤ x
    · obtain ⟨p, hpow, _, hor, hle⟩ := shlI_pos x hp h2 64
      have hp' : p = 18446744073709551616 := by rw [hpow]; decide
      have : shlI 64 x = 4611686018427387903 := by omega
      rw [this]; rfl
    · obtain ⟨p, hpow, _, hor, hle⟩ := shlI_neg x (by omega) h1 64
      have hp' : p = 18446744073709551616 := by rw [hpow]; decide
      have : shlI 64 x = -4611686018427387903 := by omega
      rw [this]; rfl
theorem shlI_rest (a : Int) (j : Nat) : shlI (64 + j) (clampI a) = shlI 64 (clampI a) := by
  induction j with
  | zero => rfl
  | succ j ih => show clampI (2 * shlI (64 + j) (clampI a)) = _; rw [ih, shlI_rest_at]
theorem shlI_step (k : Nat) (a : Int) : addI (shlI k (clampI a)) (shlI k (clampI a)) = shlI (k + 1) (clampI a) := by
  have h1 := shlI_lo k a
  have h2 := shlI_hi k a
  show clampI (clampI _ + clampI _) = clampI (2 * shlI k (clampI a))
  rw [clampI_id h1 h2, Int.two_mul]
/-- What the law's own doubling comes to is what Shl returns. -/
theorem shl_law (a n : Int) (k : Nat) (h : n ≤ k ∨ k = 70) (hk : (k : Int) ≤ max n 0) (h70 : k ≤ 70) : shl a n = shlI k (clampI a) := by
  unfold shl
  by_cases h64 : k ≤ 64
  · rw [show (min n 64).toNat = k by omega]
  · rw [show (min n 64).toNat = 64 by omega, show k = 64 + (k - 64) by omega, shlI_rest]

set_option maxHeartbeats 400000 in
theorem tickShifts_walk (a n : Int) (w : World) (_wa : (Lit.int .i64 a).wf = true) (wn : (Lit.int .i64 n).wf = true) :
    Calls Try.prog 5 #[.int .i64 a, .int .i64 n] w fun e w' => e = .returned (.bool true) ∧ Below w.heap.size w w' := by
  have hn := (bounds_i64 wn).1
  clear wn _wa
  go_enter Try.func5, Try.ntmps5
  go_wp2_with (go_at_call 15; refine (held_any _ _).mono ?_; rintro e w' ⟨rfl, rfl⟩)
  go_loop [5, 6] (fun x i => ∃ k : Nat, k ≤ 70 ∧ (k : Int) ≤ max n 0 ∧ i = .int .i64 k ∧ x = .int .i64 (shlI k (clampI a))) (fun _ i => 70 - (intOf i).toNat)
  case atStart => exact ⟨0, by omega, by omega, rfl, rfl⟩
  case round =>
    obtain ⟨k, hk, hkn, rfl, rfl⟩ := hrel
    by_cases hlt : (k : Int) < n
    · by_cases h70 : k < 70
      · have hd1 : decide ((k : Int) < n) = true := decide_eq_true hlt
        have HS := Lib.hid (shlI_step k a)
        go_wp2_with (go_at_call 18; refine (radd_any _ _ _).mono ?_; rintro e w' ⟨rfl, rfl⟩)
        go_round
        case rel => exact ⟨k + 1, by omega, by omega, by go_num, by rw [HS.out]⟩
        case measure => simp [intOf]; omega
      · have HS := Lib.hid (shl_law a n k (.inr (by omega)) hkn hk)
        have hd1 : decide ((k : Int) < n) = true := decide_eq_true hlt
        go_wp2_with (first
          | (go_at_call 16; refine (awake1 _).mono ?_; rintro e w' ⟨rfl, rfl⟩)
          | (go_at_call 22; refine (shl_as _ _ _ hn HS.out _).mono ?_; rintro e w' ⟨rfl, rfl⟩))
        go_ret
        exact ⟨rfl, Below.refl _ _⟩
    · have HS := Lib.hid (shl_law a n k (.inl (by omega)) hkn hk)
      have hd1 : decide ((k : Int) < n) = false := decide_eq_false hlt
      go_wp2_with (first
        | (go_at_call 16; refine (awake1 _).mono ?_; rintro e w' ⟨rfl, rfl⟩)
        | (go_at_call 22; refine (shl_as _ _ _ hn HS.out _).mono ?_; rintro e w' ⟨rfl, rfl⟩))
      go_ret
      exact ⟨rfl, Below.refl _ _⟩

end Go.Proofs.Ytjclllmdaoapeaa
