/- Contracts of package back and of the reference's waits. -/
import Derived.Test.YtonfbkffngplcaaTickShl
namespace Go.Proofs.Ytonfbkffngplcaa
open Go.RowKit

def mostI (base most exp : Int) : Int := if exp < 1 then 0 else max (min (shl (max base 0) (min exp 16 - 1)) most) 0
def jitI (wait draw : Int) : Int := max 0 (min wait 1099511627776) / 2 + (max 0 (min wait 1099511627776) - max 0 (min wait 1099511627776) / 2) * max 0 (min draw 1000) / 1000
def upI (exp : Int) : Int := max 0 (min exp 15) + 1

theorem shl_lo' (a n : Int) : -4611686018427387903 ≤ shl a n := shlI_lo _ _
theorem shl_hi' (a n : Int) : shl a n ≤ 4611686018427387903 := shlI_hi _ _

theorem shl_zero (n : Int) : shl 0 n = 0 := shlI_zero _
theorem shl_none (n : Int) (hn : -9223372036854775808 ≤ n) (w : World) :
    Calls Try.prog 26 #[.int .i64 0, .int .i64 n] w fun e w' => e = .returned (.int .i64 0) ∧ w = w' := shl_as 0 n 0 hn (shl_zero n) w

def SomeShl (a n : Int) (w : World) (e : Ending) (w' : World) : Prop := ∃ s : Int, Hid (s = shl a n) ∧ e = .returned (.int .i64 s) ∧ w = w'
theorem shl_some (a n : Int) (hn : -9223372036854775808 ≤ n) (w : World) :
    Calls Try.prog 26 #[.int .i64 a, .int .i64 n] w (SomeShl a n w) := (shl_any a n hn w).mono fun _ _ ⟨he, hw⟩ => ⟨_, Lib.hid rfl, he, hw⟩
theorem wrap64_zero : wrap64 0 = 0 := by unfold wrap64; decide

set_option maxHeartbeats 1000000 in
theorem most_any (b m e : Int) (w : World) :
    Calls Try.prog 24 #[.int .i64 b, .int .i64 m, .int .i64 e] w fun x w' => x = .returned (.int .i64 (mostI b m e)) ∧ w = w' := by
  by_cases he : e < 1
  · rw [show mostI b m e = 0 from if_pos he]
    go_enter Try.func24, Try.ntmps24
    go_wp2
    go_ret
    exact ⟨rfl, rfl⟩
  · have E : mostI b m e = max (min (shl (max b 0) (min e 16 - 1)) m) 0 := if_neg he
    by_cases hb : b ≤ 0
    · rw [show max b 0 = 0 by omega, shl_zero] at E
      have e0 : mostI b m e = 0 := by rw [E]; omega
      rw [e0]
      clear E e0
      rcases (show b < 0 ∨ b = 0 by omega) with hb | rfl
      all_goals by_cases h16 : 16 < e
      all_goals go_enter Try.func24, Try.ntmps24
      all_goals go_wp2_with (go_at_call 26; refine (shl_none _ (by omega) _).mono ?_; rintro e w' ⟨rfl, rfl⟩)
      all_goals go_ret
      all_goals exact ⟨ret_int (by omega), rfl⟩
    · rw [show max b 0 = b by omega] at E
      generalize mostI b m e = r at *
      by_cases h16 : 16 < e
      all_goals first | rw [show min e 16 = e by omega] at E | rw [show min e 16 = 16 by omega, show (16 - 1 : Int) = 15 from rfl] at E
      all_goals have H := Lib.hid E
      all_goals clear E
      all_goals go_enter Try.func24, Try.ntmps24
      all_goals go_wp2_with (go_at_call 26; refine (shl_some _ _ (by omega) _).mono ?_; rintro e w' ⟨s, HS, rfl, rfl⟩)
      all_goals go_ret
      all_goals exact ⟨ret_int (by have h1 := H.out; have h2 := HS.out; rw [← h2] at h1; omega), rfl⟩

theorem half_mul (x d : Int) (x0 : 0 ≤ x) (x1 : x ≤ 1099511627776) (d0 : 0 ≤ d) (d1 : d ≤ 1000) : 0 ≤ (x - x / 2) * d ∧ (x - x / 2) * d ≤ 1099511627776000 ∧ 0 ≤ (x - x / 2) * d / 1000 ∧ (x - x / 2) * d / 1000 ≤ x - x / 2 := by
  have a : 0 ≤ (x - x / 2) * d := Int.mul_nonneg (by omega) d0
  have b : (x - x / 2) * d ≤ (x - x / 2) * 1000 := Int.mul_le_mul_of_nonneg_left d1 (by omega)
  refine ⟨a, by omega, by omega, ?_⟩
  omega

set_option maxHeartbeats 1000000 in
theorem jit_in (x d : Int) (x0 : 0 ≤ x) (x1 : x ≤ 1099511627776) (d0 : 0 ≤ d) (d1 : d ≤ 1000) (y z : Int) (hy : max 0 (min y 1099511627776) = x) (hz : max 0 (min z 1000) = d) (w : World) :
    Calls Try.prog 23 #[.int .i64 y, .int .i64 z] w fun e w' => e = .returned (.int .i64 (x / 2 + (x - x / 2) * d / 1000)) ∧ w = w' := by
  by_cases hbig : 1099511627776 < y ∧ 1000 < z
  · obtain ⟨hy1, hz1⟩ := hbig
    obtain rfl : x = 1099511627776 := by omega
    obtain rfl : d = 1000 := by omega
    clear hy hz x0 x1 d0 d1
    rw [show (1099511627776 / 2 + (1099511627776 - 1099511627776 / 2) * 1000 / 1000 : Int) = 1099511627776 by omega]
    go_enter Try.func23, Try.ntmps23
    go_wp2
    go_ret
    exact ⟨rfl, rfl⟩
  obtain ⟨h1, h2, h3, h4⟩ := half_mul x d x0 x1 d0 d1
  rcases (show (y ≤ 0 ∧ x = 0) ∨ (0 < y ∧ y ≤ 1099511627776 ∧ x = y) ∨ (1099511627776 < y ∧ x = 1099511627776) by omega) with ⟨hy1, hx⟩ | ⟨hy1, hy2, hx⟩ | ⟨hy1, hx⟩
  all_goals rcases (show (z ≤ 0 ∧ d = 0) ∨ (0 < z ∧ z ≤ 1000 ∧ d = z) ∨ (1000 < z ∧ d = 1000) by omega) with ⟨hz1, hd⟩ | ⟨hz1, hz2, hd⟩ | ⟨hz1, hd⟩
  all_goals first | omega | skip
  all_goals clear hbig
  all_goals subst hx
  all_goals subst hd
  all_goals clear hy hz
  all_goals go_enter Try.func23, Try.ntmps23
  all_goals go_wp2
  all_goals go_ret
  all_goals exact ⟨ret_int (by first | omega | (simp; done) | (simp only [wrap64_zero]; omega)), rfl⟩

theorem jit_any (y z : Int) (w : World) :
    Calls Try.prog 23 #[.int .i64 y, .int .i64 z] w fun e w' => e = .returned (.int .i64 (jitI y z)) ∧ w = w' :=
  jit_in _ _ (by omega) (by omega) (by omega) (by omega) y z rfl rfl w

set_option maxHeartbeats 400000 in
theorem up_any (x : Int) (w : World) :
    Calls Try.prog 22 #[.int .i64 x] w fun e w' => e = .returned (.int .i64 (upI x)) ∧ w = w' := by
  have E : upI x = max 0 (min x 15) + 1 := rfl
  generalize upI x = r at *
  rcases (show x < 0 ∨ (0 ≤ x ∧ x < 15) ∨ 15 ≤ x by omega) with h | ⟨h, h'⟩ | h
  all_goals have H := Lib.hid E
  all_goals clear E
  all_goals go_enter Try.func22, Try.ntmps22
  all_goals go_wp2
  all_goals go_ret
  all_goals exact ⟨ret_int (by have := H.out; omega), rfl⟩

/-! The reference's. -/
def cutI (n least most : Int) : Int := if n < least then least else if most < n then most else n
theorem split_mul (r d : Int) : r / 1000 * d + r % 1000 * d / 1000 = r * d / 1000 := by
  have h : r * d = r % 1000 * d + r / 1000 * d * 1000 := by
    have := Int.emod_add_mul_ediv r 1000
    calc r * d = (r % 1000 + 1000 * (r / 1000)) * d := by rw [this]
      _ = r % 1000 * d + 1000 * (r / 1000) * d := Int.add_mul _ _ _
      _ = _ := by rw [Int.mul_assoc, Int.mul_comm 1000]
  rw [h, Int.add_mul_ediv_right _ _ (by omega), Int.add_comm]

theorem cutI_eq (n m : Int) (h : 0 ≤ m) : cutI n 0 m = max 0 (min n m) := by unfold cutI; split <;> (try split) <;> omega
theorem shlI_nonneg (k : Nat) (x : Int) (h : 0 ≤ x) : 0 ≤ shlI k x := by
  induction k with
  | zero => exact h
  | succ k ih => show 0 ≤ clampI (2 * shlI k x); unfold clampI; split <;> (try split) <;> omega

theorem most_as (b m e v : Int) (h : mostI b m e = v) (w : World) :
    Calls Try.prog 24 #[.int .i64 b, .int .i64 m, .int .i64 e] w fun x w' => x = .returned (.int .i64 v) ∧ w = w' := h ▸ most_any b m e w
theorem jit_as (y z v : Int) (h : jitI y z = v) (w : World) :
    Calls Try.prog 23 #[.int .i64 y, .int .i64 z] w fun e w' => e = .returned (.int .i64 v) ∧ w = w' := h ▸ jit_any y z w
theorem up_as (x v : Int) (h : upI x = v) (w : World) :
    Calls Try.prog 22 #[.int .i64 x] w fun e w' => e = .returned (.int .i64 v) ∧ w = w' := h ▸ up_any x w
end Go.Proofs.Ytonfbkffngplcaa
