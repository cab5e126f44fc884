/- Contracts of package back and of the reference's waits. -/
import Derived.Test.YtelakgbpfnlpiaaTickShl
namespace Go.Proofs.Ytelakgbpfnlpiaa
open Go.RowKit

def mostI (base most exp : Int) : Int := if exp < 1 then 0 else max (min (shl (max base 0) (min exp 16 - 1)) most) 0
def jitI (wait draw : Int) : Int := max 0 (min wait 1099511627776) / 2 + (max 0 (min wait 1099511627776) - max 0 (min wait 1099511627776) / 2) * max 0 (min draw 1000) / 1000
def upI (exp : Int) : Int := max 0 (min exp 15) + 1

theorem shl_lo' (a n : Int) : -4611686018427387903 ≤ shl a n := shlI_lo _ _
theorem shl_hi' (a n : Int) : shl a n ≤ 4611686018427387903 := shlI_hi _ _

theorem shl_zero (n : Int) : shl 0 n = 0 := shlI_zero _
theorem shl_none (n : Int) (hn : -9223372036854775808 ≤ n) (w : World) :
    Calls Try.prog 65 #[.int .i64 0, .int .i64 n] w fun e w' => e = .returned (.int .i64 0) ∧ w = w' := shl_as 0 n 0 hn (shl_zero n) w

def SomeShl (a n : Int) (w : World) (e : Ending) (w' : World) : Prop := ∃ s : Int, Hid (s = shl a n) ∧ e = .returned (.int .i64 s) ∧ w = w'
theorem shl_some (a n : Int) (hn : -9223372036854775808 ≤ n) (w : World) :
    Calls Try.prog 65 #[.int .i64 a, .int .i64 n] w (SomeShl a n w) := (shl_any a n hn w).mono fun _ _ ⟨he, hw⟩ => ⟨_, Lib.hid rfl, he, hw⟩
theorem wrap64_zero : wrap64 0 = 0 := by unfold wrap64; decide

set_option maxHeartbeats 1000000 in
theorem most_any (b m e : Int) (w : World) :
    Calls Try.prog 58 #[.int .i64 b, .int .i64 m, .int .i64 e] w fun x w' => x = .returned (.int .i64 (mostI b m e)) ∧ w = w' := by
  by_cases he : e < 1
  · rw [show mostI b m e = 0 from if_pos he]
    go_enter Try.func58, Try.ntmps58
    go_wp2
    go_ret
    exact ⟨rfl, rfl⟩
  · have E : mostI b m e = max (min (shl (max b 0) (min e 16 - 1)) m) 0 := if_neg he
    by_cases hb : b ≤ 0
    · rw [show max b 0 = 0 by omega, shl_zero] at E
      have e0 : mostI b m e = 0 := by rw [E]; omega
      rw [e0]
      clear E e0
      rcases (show b < 0 ∨ b = 0 by omega) with hb | rfl
      all_goals by_cases h16 : 16 < e
      all_goals go_enter Try.func58, Try.ntmps58
      all_goals go_wp2_with (go_at_call 65; refine (shl_none _ (by omega) _).mono ?_; rintro e w' ⟨rfl, rfl⟩)
      all_goals go_ret
      all_goals exact ⟨ret_int (by omega), rfl⟩
    · rw [show max b 0 = b by omega] at E
      generalize mostI b m e = r at *
      by_cases h16 : 16 < e
      all_goals first | rw [show min e 16 = e by omega] at E | rw [show min e 16 = 16 by omega, show (16 - 1 : Int) = 15 from rfl] at E
      all_goals have H := Lib.hid E
      all_goals clear E
      all_goals go_enter Try.func58, Try.ntmps58
      all_goals go_wp2_with (go_at_call 65; refine (shl_some _ _ (by omega) _).mono ?_; rintro e w' ⟨s, HS, rfl, rfl⟩)
      all_goals go_ret
      all_goals exact ⟨ret_int (by have h1 := H.out; have h2 := HS.out; rw [← h2] at h1; omega), rfl⟩

theorem half_mul (x d : Int) (x0 : 0 ≤ x) (x1 : x ≤ 1099511627776) (d0 : 0 ≤ d) (d1 : d ≤ 1000) : 0 ≤ (x - x / 2) * d ∧ (x - x / 2) * d ≤ 1099511627776000 ∧ 0 ≤ (x - x / 2) * d / 1000 ∧ (x - x / 2) * d / 1000 ≤ x - x / 2 := by
  have a : 0 ≤ (x - x / 2) * d := Int.mul_nonneg (by omega) d0
  have b : (x - x / 2) * d ≤ (x - x / 2) * 1000 := Int.mul_le_mul_of_nonneg_left d1 (by omega)
  refine ⟨a, by omega, by omega, ?_⟩
  omega

set_option maxHeartbeats 1000000 in
theorem jit_in (x d : Int) (x0 : 0 ≤ x) (x1 : x ≤ 1099511627776) (d0 : 0 ≤ d) (d1 : d ≤ 1000) (y z : Int) (hy : max 0 (min y 1099511627776) = x) (hz : max 0 (min z 1000) = d) (w : World) :
    Calls Try.prog 57 #[.int .i64 y, .int .i64 z] w fun e w' => e = .returned (.int .i64 (x / 2 + (x - x / 2) * d / 1000)) ∧ w = w' := by
  by_cases hbig : 1099511627776 < y ∧ 1000 < z
  · obtain ⟨hy1, hz1⟩ := hbig
    obtain rfl : x = 1099511627776 := by omega
    obtain rfl : d = 1000 := by omega
    clear hy hz x0 x1 d0 d1
    rw [show (1099511627776 / 2 + (1099511627776 - 1099511627776 / 2) * 1000 / 1000 : Int) = 1099511627776 by omega]
    go_enter Try.func57, Try.ntmps57
    go_wp2
    go_ret
    exact ⟨rfl, rfl⟩
  obtain ⟨h1, h2, h3, h4⟩ := half_mul x d x0 x1 d0 d1
  rcases (show (y ≤ 0 ∧ x = 0) ∨ (0 < y ∧ y ≤ 1099511627776 ∧ x = y) ∨ (1099511627776 < y ∧ x = 1099511627776) by omega) with ⟨hy1, hx⟩ | ⟨hy1, hy2, hx⟩ | ⟨hy1, hx⟩
  all_goals rcases (show (z ≤ 0 ∧ d = 0) ∨ (0 < z ∧ z ≤ 1000 ∧ d = z) ∨ (1000 < z ∧ d = 1000) by omega) with ⟨hz1, hd⟩ | ⟨hz1, hz2, hd⟩ | ⟨hz1, hd⟩
  all_goals first | omega | skip
  all_goals clear hbig
  all_goals subst hx
  all_goals subst hd
  all_goals clear hy hz
  all_goals go_enter Try.func57, Try.ntmps57
  all_goals go_wp2
  all_goals go_ret
  all_goals exact ⟨ret_int (by first | omega | (simp; done) | (simp only [wrap64_zero]; omega)), rfl⟩

theorem jit_any (y z : Int) (w : World) :
    Calls Try.prog 57 #[.int .i64 y, .int .i64 z] w fun e w' => e = .returned (.int .i64 (jitI y z)) ∧ w = w' :=
  jit_in _ _ (by omega) (by omega) (by omega) (by omega) y z rfl rfl w

set_option maxHeartbeats 400000 in
theorem up_any (x : Int) (w : World) :
    Calls Try.prog 56 #[.int .i64 x] w fun e w' => e = .returned (.int .i64 (upI x)) ∧ w = w' := by
  have E : upI x = max 0 (min x 15) + 1 := rfl
  generalize upI x = r at *
  rcases (show x < 0 ∨ (0 ≤ x ∧ x < 15) ∨ 15 ≤ x by omega) with h | ⟨h, h'⟩ | h
  all_goals have H := Lib.hid E
  all_goals clear E
  all_goals go_enter Try.func56, Try.ntmps56
  all_goals go_wp2
  all_goals go_ret
  all_goals exact ⟨ret_int (by have := H.out; omega), rfl⟩

/-! The reference's. -/
def cutI (n least most : Int) : Int := if n < least then least else if most < n then most else n
set_option maxHeartbeats 400000 in
theorem cut_any (n l m : Int) (w : World) :
    Calls Try.prog 59 #[.int .i64 n, .int .i64 l, .int .i64 m] w fun e w' => e = .returned (.int .i64 (cutI n l m)) ∧ w = w' := by
  unfold cutI
  by_cases h1 : n < l
  · rw [if_pos h1]
    go_enter Try.func59, Try.ntmps59
    go_wp2
    go_ret
    exact ⟨rfl, rfl⟩
  · rw [if_neg h1]
    by_cases h2 : m < n
    · rw [if_pos h2]
      go_enter Try.func59, Try.ntmps59
      go_wp2
      go_ret
      exact ⟨rfl, rfl⟩
    · rw [if_neg h2]
      go_enter Try.func59, Try.ntmps59
      go_wp2
      go_ret
      exact ⟨rfl, rfl⟩
theorem cut_as (n l m v : Int) (h : cutI n l m = v) (w : World) :
    Calls Try.prog 59 #[.int .i64 n, .int .i64 l, .int .i64 m] w fun e w' => e = .returned (.int .i64 v) ∧ w = w' := h ▸ cut_any n l m w

set_option maxHeartbeats 400000 in
theorem rup_any (x : Int) (w : World) :
    Calls Try.prog 60 #[.int .i64 x] w fun e w' => e = .returned (.int .i64 (upI x)) ∧ w = w' := by
  obtain ⟨v, hv⟩ : ∃ v, cutI x 0 15 = v := ⟨_, rfl⟩
  have hu : upI x = v + 1 := by rw [← hv]; unfold upI cutI; split <;> (try split) <;> omega
  have v0 : 0 ≤ v := by rw [← hv]; unfold cutI; split <;> (try split) <;> omega
  have v1 : v ≤ 15 := by rw [← hv]; unfold cutI; split <;> (try split) <;> omega
  rw [hu]
  have HV := Lib.hid hv
  clear hv hu
  go_enter Try.func60, Try.ntmps60
  go_wp2_with (go_at_call 59; refine (cut_as _ _ _ _ HV.out _).mono ?_; rintro e w' ⟨rfl, rfl⟩)
  go_ret
  exact ⟨rfl, rfl⟩

theorem split_mul (r d : Int) : r / 1000 * d + r % 1000 * d / 1000 = r * d / 1000 := by
  have h : r * d = r % 1000 * d + r / 1000 * d * 1000 := by
    have := Int.emod_add_mul_ediv r 1000
    calc r * d = (r % 1000 + 1000 * (r / 1000)) * d := by rw [this]
      _ = r % 1000 * d + 1000 * (r / 1000) * d := Int.add_mul _ _ _
      _ = _ := by rw [Int.mul_assoc, Int.mul_comm 1000]
  rw [h, Int.add_mul_ediv_right _ _ (by omega), Int.add_comm]

set_option maxHeartbeats 1000000 in
theorem rjit_in (x d y z : Int) (x0 : 0 ≤ x) (x1 : x ≤ 1099511627776) (d0 : 0 ≤ d) (d1 : d ≤ 1000) (hy : cutI y 0 1099511627776 = x) (hz : cutI z 0 1000 = d) (w : World) :
    Calls Try.prog 61 #[.int .i64 y, .int .i64 z] w fun e w' => e = .returned (.int .i64 (x / 2 + (x - x / 2) * d / 1000)) ∧ w = w' := by
  have hs := split_mul (x - x / 2) d
  obtain ⟨h1, h2, h3, h4⟩ := half_mul x d x0 x1 d0 d1
  have g1 : 0 ≤ (x - x / 2) / 1000 * d := Int.mul_nonneg (by omega) d0
  have g2 : 0 ≤ (x - x / 2) % 1000 * d := Int.mul_nonneg (by omega) d0
  have g3 : 0 ≤ (x - x / 2) % 1000 * d / 1000 := by omega
  have g4 : (x - x / 2) % 1000 * d ≤ 1000 * 1000 := Int.mul_le_mul (by omega) d1 d0 (by omega)
  have g5 : (x - x / 2) / 1000 * d ≤ 1099511627776 := by omega
  have g6 : (x - x / 2) % 1000 * d / 1000 ≤ 1000 := by omega
  rw [← hs]
  have HY := Lib.hid hy
  have HZ := Lib.hid hz
  clear hy hz hs h1 h2 h3 h4
  go_enter Try.func61, Try.ntmps61
  go_wp2_with (go_at_call 59; (first | (with_reducible refine (cut_as _ _ _ _ HY.out _).mono ?_) | (with_reducible refine (cut_as _ _ _ _ HZ.out _).mono ?_)); rintro e w' ⟨rfl, rfl⟩)
  go_ret
  exact ⟨ret_int (by omega), rfl⟩
theorem cutI_eq (n m : Int) (h : 0 ≤ m) : cutI n 0 m = max 0 (min n m) := by unfold cutI; split <;> (try split) <;> omega
theorem rjit_any (y z : Int) (w : World) :
    Calls Try.prog 61 #[.int .i64 y, .int .i64 z] w fun e w' => e = .returned (.int .i64 (jitI y z)) ∧ w = w' :=
  rjit_in _ _ y z (by omega) (by omega) (by omega) (by omega) (cutI_eq _ _ (by omega)) (cutI_eq _ _ (by omega)) w

theorem shlI_nonneg (k : Nat) (x : Int) (h : 0 ≤ x) : 0 ≤ shlI k x := by
  induction k with
  | zero => exact h
  | succ k ih => show 0 ≤ clampI (2 * shlI k x); unfold clampI; split <;> (try split) <;> omega

set_option maxHeartbeats 1000000 in
theorem rmost_any (b m e : Int) (w : World) :
    Calls Try.prog 62 #[.int .i64 b, .int .i64 m, .int .i64 e] w fun x w' => x = .returned (.int .i64 (mostI b m e)) ∧ w = w' := by
  by_cases he : e < 1
  · rw [show mostI b m e = 0 from if_pos he]
    have hd : decide (e < 1) = true := decide_eq_true he
    go_enter Try.func62, Try.ntmps62
    go_wp2
    go_ret
    exact ⟨rfl, rfl⟩
  · have E : mostI b m e = max (min (shl (max b 0) (min e 16 - 1)) m) 0 := if_neg he
    by_cases hm : m < 1
    · have e0 : mostI b m e = 0 := by rw [E]; omega
      rw [e0]
      clear E e0
      have hd : decide (e < 1) = false := decide_eq_false he
      have hd' : decide (m < 1) = true := decide_eq_true hm
      go_enter Try.func62, Try.ntmps62
      go_wp2
      go_ret
      exact ⟨rfl, rfl⟩
    · have hd : decide (e < 1) = false := decide_eq_false he
      have hd' : decide (m < 1) = false := decide_eq_false hm
      have x0 : 0 ≤ clampI (max b 0) := by unfold clampI; split <;> (try split) <;> omega
      have HX := Lib.hid (show cutI b 0 4611686018427387903 = clampI (max b 0) by unfold cutI clampI; split <;> (try split) <;> (try split) <;> (try split) <;> omega)
      have HE := Lib.hid E
      clear E
      generalize mostI b m e = r at *
      go_enter Try.func62, Try.ntmps62
      go_wp2_with (go_at_call 59; refine (cut_as _ _ _ _ HX.out _).mono ?_; rintro e w' ⟨rfl, rfl⟩)
      go_loop [7, 8] (fun x i => ∃ k : Nat, k + 1 ≤ 16 ∧ (k : Int) + 1 ≤ e ∧ i = .int .i64 (k + 1) ∧ x = .int .i64 (shlI k (clampI (max b 0)))) (fun _ i => 16 - (intOf i).toNat)
      case atStart => exact ⟨0, by omega, by omega, rfl, rfl⟩
      case round =>
        obtain ⟨k, hk, hke, rfl, rfl⟩ := hrel
        have s0 := shlI_nonneg k _ x0
        by_cases hlt : (k : Int) + 1 < e
        · by_cases h16 : (k : Int) + 1 < 16
          · have HS := Lib.hid (shlI_step k (max b 0))
            go_wp2_with (go_at_call 32; refine (radd_any _ _ _).mono ?_; rintro e w' ⟨rfl, rfl⟩)
            go_round
            case rel => exact ⟨k + 1, by omega, by omega, by go_num, by rw [HS.out]⟩
            case measure => simp [intOf]; omega
          · have hk15 : k = 15 := by omega
            have HS := Lib.hid (show shl (max b 0) (min e 16 - 1) = shlI k (clampI (max b 0)) by unfold shl; rw [show (min (min e 16 - 1) 64).toNat = k by omega])
            obtain ⟨s, hs⟩ : ∃ s, shlI k (clampI (max b 0)) = s := ⟨_, rfl⟩
            rw [hs] at s0
            have HR : Hid (cutI s 0 m = r) := Lib.hid (by rw [HE.out, HS.out, hs]; unfold cutI; split <;> (try split) <;> omega)
            rw [hs]
            clear hs
            go_wp2_with (go_at_call 59; refine (cut_as _ _ _ _ HR.out _).mono ?_; rintro e w' ⟨rfl, rfl⟩)
            go_ret
            exact ⟨rfl, rfl⟩
        · have HS := Lib.hid (show shl (max b 0) (min e 16 - 1) = shlI k (clampI (max b 0)) by unfold shl; rw [show (min (min e 16 - 1) 64).toNat = k by omega])
          obtain ⟨s, hs⟩ : ∃ s, shlI k (clampI (max b 0)) = s := ⟨_, rfl⟩
          rw [hs] at s0
          have HR : Hid (cutI s 0 m = r) := Lib.hid (by rw [HE.out, HS.out, hs]; unfold cutI; split <;> (try split) <;> omega)
          rw [hs]
          clear hs
          go_wp2_with (go_at_call 59; refine (cut_as _ _ _ _ HR.out _).mono ?_; rintro e w' ⟨rfl, rfl⟩)
          go_ret
          exact ⟨rfl, rfl⟩

theorem most_as (b m e v : Int) (h : mostI b m e = v) (w : World) :
    Calls Try.prog 58 #[.int .i64 b, .int .i64 m, .int .i64 e] w fun x w' => x = .returned (.int .i64 v) ∧ w = w' := h ▸ most_any b m e w
theorem jit_as (y z v : Int) (h : jitI y z = v) (w : World) :
    Calls Try.prog 57 #[.int .i64 y, .int .i64 z] w fun e w' => e = .returned (.int .i64 v) ∧ w = w' := h ▸ jit_any y z w
theorem up_as (x v : Int) (h : upI x = v) (w : World) :
    Calls Try.prog 56 #[.int .i64 x] w fun e w' => e = .returned (.int .i64 v) ∧ w = w' := h ▸ up_any x w
theorem rup_as (x v : Int) (h : upI x = v) (w : World) :
    Calls Try.prog 60 #[.int .i64 x] w fun e w' => e = .returned (.int .i64 v) ∧ w = w' := h ▸ rup_any x w

end Go.Proofs.Ytelakgbpfnlpiaa
