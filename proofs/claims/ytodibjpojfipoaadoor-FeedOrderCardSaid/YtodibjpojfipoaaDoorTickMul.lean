/- Contracts of tick's differences and products, and of the reference's. -/
import Derived.Test.YtodibjpojfipoaaDoorTickAdd
import Derived.Shelf.Bits.Mul64
import Derived.Laws.Bits64b
namespace Go.Proofs.YtodibjpojfipoaaDoor
open Go.RowKit

def subI (a b : Int) : Int := clampI (clampI a - clampI b)
def mulI (a b : Int) : Int := clampI (clampI a * clampI b)

/-- Every sum and product that the school method forms stays below 2^64. -/
theorem school (x y : Nat) (hx : x < 18446744073709551616) (hy : y < 18446744073709551616) :
    x / 4294967296 * (y / 4294967296) < 18446744073709551616 ∧ x / 4294967296 * (y % 4294967296) < 18446744073709551616 ∧ x % 4294967296 * (y / 4294967296) < 18446744073709551616 ∧
    x / 4294967296 * (y / 4294967296) + (x / 4294967296 * (y % 4294967296) + x % 4294967296 * (y % 4294967296) / 4294967296) / 4294967296 < 18446744073709551616 := by
  have p (a b : Nat) (ha : a ≤ 4294967295) (hb : b ≤ 4294967295) : a * b ≤ 4294967295 * 4294967295 := Nat.mul_le_mul ha hb
  have p1 := p (x / 4294967296) (y / 4294967296) (by omega) (by omega)
  have p2 := p (x / 4294967296) (y % 4294967296) (by omega) (by omega)
  have p3 := p (x % 4294967296) (y / 4294967296) (by omega) (by omega)
  have p4 := p (x % 4294967296) (y % 4294967296) (by omega) (by omega)
  omega

set_option maxHeartbeats 1000000 in
theorem mul64_any (x y : Nat) (hx : x < 18446744073709551616) (hy : y < 18446744073709551616) (w : World) :
    Calls Tryd.prog 29 #[.int .u64 x, .int .u64 y] w fun e w' => e = .returned (.tuple #[.int .u64 ((x * y / 18446744073709551616 : Nat) : Int), .int .u64 ((x * y % 18446744073709551616 : Nat) : Int)]) ∧ w = w' := by
  obtain ⟨s1, s2, s3, s4⟩ := school x y hx hy
  obtain ⟨m1, m2, m3, m4⟩ := Lib.mul64_hi x y hx hy
  have s5 := Nat.lt_of_le_of_lt (Nat.le_of_eq m4) (show x * y / 18446744073709551616 < 18446744073709551616 from Nat.div_lt_of_lt_mul (Nat.mul_lt_mul_of_lt_of_lt hx hy))
  go_enter Tryd.func29, Tryd.ntmps29
  go_wp2
  simp only [Mul64.maskN x hx, Mul64.maskN y hy, Mul64.maskN _ m2, Mul64.divN, Mul64.mulN, Mul64.addN, Mul64.wrapM (x * y), Mul64.wrapN _ m1, Mul64.wrapN _ m2, Mul64.wrapN _ m3, Mul64.wrapN _ s1, Mul64.wrapN _ s2, Mul64.wrapN _ s3, Mul64.wrapN _ s4, Mul64.wrapN _ s5]
  rw [m4]
  go_ret2
  exact ⟨rfl, rfl⟩

set_option maxHeartbeats 400000 in
theorem size_any (a : Int) (h1 : -4611686018427387903 ≤ a) (h2 : a ≤ 4611686018427387903) (w : World) :
    Calls Tryd.prog 30 #[.int .i64 a] w fun e w' => e = .returned (.int .u64 (a.natAbs : Int)) ∧ w = w' := by
  by_cases h : a < 0
  · go_enter Tryd.func30, Tryd.ntmps30
    go_wp2
    go_ret
    exact ⟨ret_int (by omega), rfl⟩
  · go_enter Tryd.func30, Tryd.ntmps30
    go_wp2
    go_ret
    exact ⟨ret_int (by omega), rfl⟩

/-- A product below 2^64 lies in the lower word alone. -/
def LowWord (x y : Nat) (w : World) (e : Ending) (w' : World) : Prop := ∃ p : Int, Hid (p = ((x * y : Nat) : Int)) ∧ 0 ≤ p ∧ p < 18446744073709551616 ∧ e = .returned (.tuple #[.int .u64 0, .int .u64 p]) ∧ w = w'
/-- A product from 2^64 on has an upper word. -/
def HighWord (w : World) (e : Ending) (w' : World) : Prop := ∃ h p : Int, 1 ≤ h ∧ e = .returned (.tuple #[.int .u64 h, .int .u64 p]) ∧ w = w'
theorem mul64_low (x y : Nat) (hx : x < 18446744073709551616) (hy : y < 18446744073709551616) (h : x * y < 18446744073709551616) (w : World) :
    Calls Tryd.prog 29 #[.int .u64 x, .int .u64 y] w (LowWord x y w) := by
  refine (mul64_any x y hx hy w).mono fun e w' hh => ?_
  obtain ⟨he, hw⟩ := hh
  refine ⟨((x * y : Nat) : Int), Lib.hid rfl, by omega, by omega, ?_, hw⟩
  rw [he, Nat.div_eq_of_lt h, Nat.mod_eq_of_lt h]
  rfl
theorem mul64_high (x y : Nat) (hx : x < 18446744073709551616) (hy : y < 18446744073709551616) (h : 18446744073709551616 ≤ x * y) (w : World) :
    Calls Tryd.prog 29 #[.int .u64 x, .int .u64 y] w (HighWord w) := by
  refine (mul64_any x y hx hy w).mono fun e w' hh => ?_
  obtain ⟨he, hw⟩ := hh
  refine ⟨_, _, ?_, he, hw⟩
  have := (Nat.le_div_iff_mul_le (show 0 < 18446744073709551616 by omega)).2 (show 1 * 18446744073709551616 ≤ x * y by omega)
  omega

theorem mul_signs_same (a b : Int) (h : (a < 0) ↔ (b < 0)) : a * b = ((a.natAbs * b.natAbs : Nat) : Int) := by
  by_cases ha : a < 0
  · have hb := h.1 ha
    have e1 : a = -(a.natAbs : Int) := by omega
    have e2 : b = -(b.natAbs : Int) := by omega
    generalize a.natAbs = x at *
    generalize b.natAbs = y at *
    subst e1; subst e2
    rw [Int.neg_mul_neg, Int.natCast_mul]
  · have hb : ¬ b < 0 := fun hb => ha (h.2 hb)
    have e1 : a = (a.natAbs : Int) := by omega
    have e2 : b = (b.natAbs : Int) := by omega
    generalize a.natAbs = x at *
    generalize b.natAbs = y at *
    subst e1; subst e2
    rw [Int.natCast_mul]
theorem mul_signs_other (a b : Int) (h : ¬ ((a < 0) ↔ (b < 0))) : a * b = -((a.natAbs * b.natAbs : Nat) : Int) := by
  by_cases ha : a < 0
  · have hb : ¬ b < 0 := fun hb => h ⟨fun _ => hb, fun _ => ha⟩
    have e1 : a = -(a.natAbs : Int) := by omega
    have e2 : b = (b.natAbs : Int) := by omega
    generalize a.natAbs = x at *
    generalize b.natAbs = y at *
    subst e1; subst e2
    rw [Int.neg_mul, Int.natCast_mul]
  · have hb : b < 0 := by
      by_cases hb : b < 0
      · exact hb
      · exact absurd ⟨fun k => absurd k ha, fun k => absurd k hb⟩ h
    have e1 : a = (a.natAbs : Int) := by omega
    have e2 : b = -(b.natAbs : Int) := by omega
    generalize a.natAbs = x at *
    generalize b.natAbs = y at *
    subst e1; subst e2
    rw [Int.mul_neg, Int.natCast_mul]

/-- What Mul returns, out of the size of the product. -/
theorem mulI_same (a b : Int) (h : (clampI a < 0) ↔ (clampI b < 0)) : mulI a b = clampI (((clampI a).natAbs * (clampI b).natAbs : Nat) : Int) := by
  unfold mulI; rw [mul_signs_same _ _ h]
theorem mulI_other (a b : Int) (h : ¬ ((clampI a < 0) ↔ (clampI b < 0))) : mulI a b = clampI (-(((clampI a).natAbs * (clampI b).natAbs : Nat) : Int)) := by
  unfold mulI; rw [mul_signs_other _ _ h]

set_option maxHeartbeats 1000000 in
theorem mul_any (a b : Int) (w : World) :
    Calls Tryd.prog 16 #[.int .i64 a, .int .i64 b] w fun e w' => e = .returned (.int .i64 (mulI a b)) ∧ w = w' := by
  have a1 := clampI_lo a
  have a2 := clampI_hi a
  have b1 := clampI_lo b
  have b2 := clampI_hi b
  have hx : (clampI a).natAbs < 18446744073709551616 := by omega
  have hy : (clampI b).natAbs < 18446744073709551616 := by omega
  have hs := mulI_same a b
  have ho := mulI_other a b
  generalize mulI a b = r at *
  by_cases hp : (clampI a).natAbs * (clampI b).natAbs < 18446744073709551616
  · have c64 := mul64_low _ _ hx hy hp
    have HS := Lib.hid hs; clear hs
    have HO := Lib.hid ho; clear ho
    have C64 := Lib.hid c64; clear c64
    clear hp hx hy
    go_enter Tryd.func16, Tryd.ntmps16
    go_wp2_with (first | (go_at_call 28; refine (clamp_any _ _).mono ?_; rintro e w' ⟨rfl, rfl⟩) | (go_at_call 30; refine (size_any _ (by assumption) (by assumption) _).mono ?_; rintro e w' ⟨rfl, rfl⟩))
    refine (C64.out _).mono ?_
    rintro e w' ⟨p, HP, hp0, hp1, rfl, rfl⟩
    by_cases h : p < 4611686018427387903
    all_goals by_cases ha : clampI a < 0
    all_goals by_cases hb : clampI b < 0
    all_goals first | have da : decide (clampI a < 0) = true := decide_eq_true ha | have da : decide (clampI a < 0) = false := decide_eq_false ha
    all_goals first | have db : decide (clampI b < 0) = true := decide_eq_true hb | have db : decide (clampI b < 0) = false := decide_eq_false hb
    all_goals go_wp2
    all_goals go_ret
    all_goals first
      | exact ⟨ret_int (by rw [HS.out (by omega), ← HP.out, clampI_id (by omega) (by omega)]), rfl⟩
      | exact ⟨ret_int (by rw [HO.out (by omega), ← HP.out, clampI_id (by omega) (by omega)]), rfl⟩
      | exact ⟨ret_int (by rw [HS.out (by omega), ← HP.out]; unfold clampI; rw [if_neg (by omega)]; split <;> omega), rfl⟩
      | exact ⟨ret_int (by rw [HO.out (by omega), ← HP.out]; unfold clampI; split <;> (try split) <;> omega), rfl⟩
  · have c64 := mul64_high _ _ hx hy (by omega)
    have HS := Lib.hid hs; clear hs
    have HO := Lib.hid ho; clear ho
    have C64 := Lib.hid c64; clear c64
    have HP := Lib.hid hp; clear hp
    clear hx hy
    go_enter Tryd.func16, Tryd.ntmps16
    go_wp2_with (first | (go_at_call 28; refine (clamp_any _ _).mono ?_; rintro e w' ⟨rfl, rfl⟩) | (go_at_call 30; refine (size_any _ (by assumption) (by assumption) _).mono ?_; rintro e w' ⟨rfl, rfl⟩))
    refine (C64.out _).mono ?_
    rintro e w' ⟨h, p, hh, rfl, rfl⟩
    by_cases ha : clampI a < 0
    all_goals by_cases hb : clampI b < 0
    all_goals first | have da : decide (clampI a < 0) = true := decide_eq_true ha | have da : decide (clampI a < 0) = false := decide_eq_false ha
    all_goals first | have db : decide (clampI b < 0) = true := decide_eq_true hb | have db : decide (clampI b < 0) = false := decide_eq_false hb
    all_goals go_wp2
    all_goals go_ret
    all_goals have hp := HP.out
    all_goals first
      | exact ⟨ret_int (by rw [HS.out (by omega), clampI_big (by omega)]), rfl⟩
      | exact ⟨ret_int (by rw [HO.out (by omega), clampI_small (by omega)]), rfl⟩
theorem mulI_lo (a b : Int) : -4611686018427387903 ≤ mulI a b := clampI_lo _
theorem mulI_hi (a b : Int) : mulI a b ≤ 4611686018427387903 := clampI_hi _
theorem subI_lo (a b : Int) : -4611686018427387903 ≤ subI a b := clampI_lo _
theorem subI_hi (a b : Int) : subI a b ≤ 4611686018427387903 := clampI_hi _
end Go.Proofs.YtodibjpojfipoaaDoor
