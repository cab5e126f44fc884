/- Contracts of tick.Shl. -/
import Derived.Test.YtonfbkffngplcaaTickAdd
namespace Go.Proofs.Ytonfbkffngplcaa
open Go.RowKit

def shlI : Nat → Int → Int
  | 0, x => x
  | n + 1, x => clampI (2 * shlI n x)
theorem shlI_lo (n : Nat) (a : Int) : -4611686018427387903 ≤ shlI n (clampI a) := by cases n <;> exact clampI_lo _
theorem shlI_hi (n : Nat) (a : Int) : shlI n (clampI a) ≤ 4611686018427387903 := by cases n <;> exact clampI_hi _

set_option maxHeartbeats 400000 in
theorem shl_low (a n : Int) (hn : -9223372036854775808 ≤ n) (h64 : n ≤ 64) (w : World) :
    Calls Try.prog 26 #[.int .i64 a, .int .i64 n] w fun e w' => e = .returned (.int .i64 (shlI n.toNat (clampI a))) ∧ w = w' := by
  go_enter Try.func26, Try.ntmps26
  go_wp2_with (go_at_call 25; refine (clamp_any _ _).mono ?_; rintro e w' ⟨rfl, rfl⟩)
  go_loop [0, 9] (fun x i => ∃ k : Nat, k ≤ n.toNat ∧ i = .int .i64 k ∧ x = .int .i64 (shlI k (clampI a))) (fun _ i => n.toNat - (intOf i).toNat)
  case atStart => exact ⟨0, Nat.zero_le _, rfl, rfl⟩
  case round =>
    obtain ⟨k, hk, rfl, rfl⟩ := hrel
    have s1 := shlI_lo k a
    have s2 := shlI_hi k a
    by_cases hlt : (k : Int) < n
    · go_wp2_with (go_at_call 25; refine (clamp_any _ _).mono ?_; rintro e w' ⟨rfl, rfl⟩)
      go_round
      case rel => exact ⟨k + 1, by omega, by go_num, rfl⟩
      case measure => simp [intOf]; omega
    · go_wp2
      go_ret
      exact ⟨ret_int (by rw [show n.toNat = k by omega]), rfl⟩
set_option maxHeartbeats 400000 in
theorem shl_high (a n : Int) (h64 : 64 < n) (w : World) :
    Calls Try.prog 26 #[.int .i64 a, .int .i64 n] w fun e w' => e = .returned (.int .i64 (shlI 64 (clampI a))) ∧ w = w' := by
  go_enter Try.func26, Try.ntmps26
  go_wp2_with (go_at_call 25; refine (clamp_any _ _).mono ?_; rintro e w' ⟨rfl, rfl⟩)
  go_loop [0, 9] (fun x i => ∃ k : Nat, k ≤ 64 ∧ i = .int .i64 k ∧ x = .int .i64 (shlI k (clampI a))) (fun _ i => 64 - (intOf i).toNat)
  case atStart => exact ⟨0, Nat.zero_le _, rfl, rfl⟩
  case round =>
    obtain ⟨k, hk, rfl, rfl⟩ := hrel
    have s1 := shlI_lo k a
    have s2 := shlI_hi k a
    by_cases hlt : k < 64
    · go_wp2_with (go_at_call 25; refine (clamp_any _ _).mono ?_; rintro e w' ⟨rfl, rfl⟩)
      go_round
      case rel => exact ⟨k + 1, by omega, by go_num, rfl⟩
      case measure => simp [intOf]; omega
    · go_wp2
      go_ret
      exact ⟨ret_int (by rw [show 64 = k by omega]), rfl⟩
/-- Shl doubles as often as it is told, at most 64 times. -/
def shl (a n : Int) : Int := shlI (min n 64).toNat (clampI a)
theorem shl_any (a n : Int) (hn : -9223372036854775808 ≤ n) (w : World) :
    Calls Try.prog 26 #[.int .i64 a, .int .i64 n] w fun e w' => e = .returned (.int .i64 (shl a n)) ∧ w = w' := by
  unfold shl
  by_cases h : n ≤ 64
  · rw [show min n 64 = n by omega]; exact shl_low a n hn h w
  · rw [show min n 64 = 64 by omega]; exact shl_high a n (by omega) w
theorem shl_as (a n v : Int) (hn : -9223372036854775808 ≤ n) (h : shl a n = v) (w : World) :
    Calls Try.prog 26 #[.int .i64 a, .int .i64 n] w fun e w' => e = .returned (.int .i64 v) ∧ w = w' := h ▸ shl_any a n hn w
theorem shlI_zero (k : Nat) : shlI k 0 = 0 := by
  induction k with
  | zero => rfl
  | succ k ih => show clampI (2 * shlI k 0) = 0; rw [ih]; rfl
theorem shlI_step (k : Nat) (a : Int) : addI (shlI k (clampI a)) (shlI k (clampI a)) = shlI (k + 1) (clampI a) := by
  have h1 := shlI_lo k a
  have h2 := shlI_hi k a
  show clampI (clampI _ + clampI _) = clampI (2 * shlI k (clampI a))
  rw [clampI_id h1 h2, Int.two_mul]
end Go.Proofs.Ytonfbkffngplcaa
