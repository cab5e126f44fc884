/- Contracts of tick's differences and products, and of the reference's. -/
import Derived.Test.YtodibjpojfipoaaGreatDoorTickAdd
import Derived.Shelf.Bits.Mul64
import Derived.Laws.Bits64b
namespace Go.Proofs.YtodibjpojfipoaaGreatDoor
open Go.RowKit

def subI (a b : Int) : Int := clampI (clampI a - clampI b)
def mulI (a b : Int) : Int := clampI (clampI a * clampI b)

/-- Every sum and product that the school method forms stays below 2^64. -/
theorem school (x y : Nat) (hx : x < 18446744073709551616) (hy : y < 18446744073709551616) :
    x / 4294967296 * (y / 4294967296) < 18446744073709551616 ∧ x / 4294967296 * (y % 4294967296) < 18446744073709551616 ∧ x % 4294967296 * (y / 4294967296) < 18446744073709551616 ∧
    x / 4294967296 * (y / 4294967296) + (x / 4294967296 * (y % 4294967296) + x % 4294967296 * (y % 4294967296) / 4294967296) / 4294967296 < 18446744073709551616 := by
  have p (a b : Nat) (ha : a ≤ 4294967295) (hb : b ≤ 4294967295) : a * b ≤ 4294967295 * 4294967295 := Nat.mul_le_mul ha hb
  have p1 := p (x / 4294967296) (y / 4294967296) (by omega) (by omega)
  have p2 := p (x / 4294967296) (y % 4294967296) (by omega) (by omega)
  have p3 := p (x % 4294967296) (y / 4294967296) (by omega) (by omega)
  have p4 := p (x % 4294967296) (y % 4294967296) (by omega) (by omega)
  omega

set_option maxHeartbeats 1000000 in
theorem mul64_any (x y : Nat) (hx : x < 18446744073709551616) (hy : y < 18446744073709551616) (w : World) :
    Calls Tryz.prog 41 #[.int .u64 x, .int .u64 y] w fun e w' => e = .returned (.tuple #[.int .u64 ((x * y / 18446744073709551616 : Nat) : Int), .int .u64 ((x * y % 18446744073709551616 : Nat) : Int)]) ∧ w = w' := by
  obtain ⟨s1, s2, s3, s4⟩ := school x y hx hy
  obtain ⟨m1, m2, m3, m4⟩ := Lib.mul64_hi x y hx hy
  have s5 := Nat.lt_of_le_of_lt (Nat.le_of_eq m4) (show x * y / 18446744073709551616 < 18446744073709551616 from Nat.div_lt_of_lt_mul (Nat.mul_lt_mul_of_lt_of_lt hx hy))
  go_enter Tryz.func41, Tryz.ntmps41
  go_wp2
  simp only [Mul64.maskN x hx, Mul64.maskN y hy, Mul64.maskN _ m2, Mul64.divN, Mul64.mulN, Mul64.addN, Mul64.wrapM (x * y), Mul64.wrapN _ m1, Mul64.wrapN _ m2, Mul64.wrapN _ m3, Mul64.wrapN _ s1, Mul64.wrapN _ s2, Mul64.wrapN _ s3, Mul64.wrapN _ s4, Mul64.wrapN _ s5]
  rw [m4]
  go_ret2
  exact ⟨rfl, rfl⟩

set_option maxHeartbeats 400000 in
theorem size_any (a : Int) (h1 : -4611686018427387903 ≤ a) (h2 : a ≤ 4611686018427387903) (w : World) :
    Calls Tryz.prog 42 #[.int .i64 a] w fun e w' => e = .returned (.int .u64 (a.natAbs : Int)) ∧ w = w' := by
  by_cases h : a < 0
  · go_enter Tryz.func42, Tryz.ntmps42
    go_wp2
    go_ret
    exact ⟨ret_int (by omega), rfl⟩
  · go_enter Tryz.func42, Tryz.ntmps42
    go_wp2
    go_ret
    exact ⟨ret_int (by omega), rfl⟩

/-- A product below 2^64 lies in the lower word alone. -/
def LowWord (x y : Nat) (w : World) (e : Ending) (w' : World) : Prop := ∃ p : Int, Hid (p = ((x * y : Nat) : Int)) ∧ 0 ≤ p ∧ p < 18446744073709551616 ∧ e = .returned (.tuple #[.int .u64 0, .int .u64 p]) ∧ w = w'
/-- A product from 2^64 on has an upper word. -/
def HighWord (w : World) (e : Ending) (w' : World) : Prop := ∃ h p : Int, 1 ≤ h ∧ e = .returned (.tuple #[.int .u64 h, .int .u64 p]) ∧ w = w'
theorem mul64_low (x y : Nat) (hx : x < 18446744073709551616) (hy : y < 18446744073709551616) (h : x * y < 18446744073709551616) (w : World) :
    Calls Tryz.prog 41 #[.int .u64 x, .int .u64 y] w (LowWord x y w) := by
  refine (mul64_any x y hx hy w).mono fun e w' hh => ?_
  obtain ⟨he, hw⟩ := hh
  refine ⟨((x * y : Nat) : Int), Lib.hid rfl, by omega, by omega, ?_, hw⟩
  rw [he, Nat.div_eq_of_lt h, Nat.mod_eq_of_lt h]
  rfl
theorem mul64_high (x y : Nat) (hx : x < 18446744073709551616) (hy : y < 18446744073709551616) (h : 18446744073709551616 ≤ x * y) (w : World) :
    Calls Tryz.prog 41 #[.int .u64 x, .int .u64 y] w (HighWord w) := by
  refine (mul64_any x y hx hy w).mono fun e w' hh => ?_
  obtain ⟨he, hw⟩ := hh
  refine ⟨_, _, ?_, he, hw⟩
  have := (Nat.le_div_iff_mul_le (show 0 < 18446744073709551616 by omega)).2 (show 1 * 18446744073709551616 ≤ x * y by omega)
  omega

theorem mul_signs_same (a b : Int) (h : (a < 0) ↔ (b < 0)) : a * b = ((a.natAbs * b.natAbs : Nat) : Int) := by
  by_cases ha : a < 0
  · have hb := h.1 ha
    have e1 : a = -(a.natAbs : Int) := by omega
    have e2 : b = -(b.natAbs : Int) := by omega
    generalize a.natAbs = x at *
    generalize b.natAbs = y at *
    subst e1; subst e2
    rw [Int.neg_mul_neg, Int.natCast_mul]
  · have hb : ¬ b < 0 := fun hb => ha (h.2 hb)
    have e1 : a = (a.natAbs : Int) := by omega
    have e2 : b = (b.natAbs : Int) := by omega
    generalize a.natAbs = x at *
    generalize b.natAbs = y at *
    subst e1; subst e2
    rw [Int.natCast_mul]
theorem mul_signs_other (a b : Int) (h : ¬ ((a < 0) ↔ (b < 0))) : a * b = -((a.natAbs * b.natAbs : Nat) : Int) := by
  by_cases ha : a < 0
  · have hb : ¬ b < 0 := fun hb => h ⟨fun _ => hb, fun _ => ha⟩
    have e1 : a = -(a.natAbs : Int) := by omega
    have e2 : b = (b.natAbs : Int) := by omega
    generalize a.natAbs = x at *
    generalize b.natAbs = y at *
    subst e1; subst e2
    rw [Int.neg_mul, Int.natCast_mul]
  · have hb : b < 0 := by
      by_cases hb : b < 0
      · exact hb
      · exact absurd ⟨fun k => absurd k ha, fun k => absurd k hb⟩ h
    have e1 : a = (a.natAbs : Int) := by omega
    have e2 : b = -(b.natAbs : Int) := by omega
    generalize a.natAbs = x at *
    generalize b.natAbs = y at *
    subst e1; subst e2
    rw [Int.mul_neg, Int.natCast_mul]

/-- What Mul returns, out of the size of the product. -/
theorem mulI_same (a b : Int) (h : (clampI a < 0) ↔ (clampI b < 0)) : mulI a b = clampI (((clampI a).natAbs * (clampI b).natAbs : Nat) : Int) := by
  unfold mulI; rw [mul_signs_same _ _ h]
theorem mulI_other (a b : Int) (h : ¬ ((clampI a < 0) ↔ (clampI b < 0))) : mulI a b = clampI (-(((clampI a).natAbs * (clampI b).natAbs : Nat) : Int)) := by
  unfold mulI; rw [mul_signs_other _ _ h]

set_option maxHeartbeats 1000000 in
theorem mul_any (a b : Int) (w : World) :
    Calls Tryz.prog 22 #[.int .i64 a, .int .i64 b] w fun e w' => e = .returned (.int .i64 (mulI a b)) ∧ w = w' := by
  have a1 := clampI_lo a
  have a2 := clampI_hi a
  have b1 := clampI_lo b
  have b2 := clampI_hi b
  have hx : (clampI a).natAbs < 18446744073709551616 := by omega
  have hy : (clampI b).natAbs < 18446744073709551616 := by omega
  have hs := mulI_same a b
  have ho := mulI_other a b
  generalize mulI a b = r at *
  by_cases hp : (clampI a).natAbs * (clampI b).natAbs < 18446744073709551616
  · have c64 := mul64_low _ _ hx hy hp
    have HS := Lib.hid hs; clear hs
    have HO := Lib.hid ho; clear ho
    have C64 := Lib.hid c64; clear c64
    clear hp hx hy
    go_enter Tryz.func22, Tryz.ntmps22
    go_wp2_with (first | (go_at_call 40; refine (clamp_any _ _).mono ?_; rintro e w' ⟨rfl, rfl⟩) | (go_at_call 42; refine (size_any _ (by assumption) (by assumption) _).mono ?_; rintro e w' ⟨rfl, rfl⟩))
    refine (C64.out _).mono ?_
    rintro e w' ⟨p, HP, hp0, hp1, rfl, rfl⟩
    by_cases h : p < 4611686018427387903
    all_goals by_cases ha : clampI a < 0
    all_goals by_cases hb : clampI b < 0
    all_goals first | have da : decide (clampI a < 0) = true := decide_eq_true ha | have da : decide (clampI a < 0) = false := decide_eq_false ha
    all_goals first | have db : decide (clampI b < 0) = true := decide_eq_true hb | have db : decide (clampI b < 0) = false := decide_eq_false hb
    all_goals go_wp2
    all_goals go_ret
    all_goals first
      | exact ⟨ret_int (by rw [HS.out (by omega), ← HP.out, clampI_id (by omega) (by omega)]), rfl⟩
      | exact ⟨ret_int (by rw [HO.out (by omega), ← HP.out, clampI_id (by omega) (by omega)]), rfl⟩
      | exact ⟨ret_int (by rw [HS.out (by omega), ← HP.out]; unfold clampI; rw [if_neg (by omega)]; split <;> omega), rfl⟩
      | exact ⟨ret_int (by rw [HO.out (by omega), ← HP.out]; unfold clampI; split <;> (try split) <;> omega), rfl⟩
  · have c64 := mul64_high _ _ hx hy (by omega)
    have HS := Lib.hid hs; clear hs
    have HO := Lib.hid ho; clear ho
    have C64 := Lib.hid c64; clear c64
    have HP := Lib.hid hp; clear hp
    clear hx hy
    go_enter Tryz.func22, Tryz.ntmps22
    go_wp2_with (first | (go_at_call 40; refine (clamp_any _ _).mono ?_; rintro e w' ⟨rfl, rfl⟩) | (go_at_call 42; refine (size_any _ (by assumption) (by assumption) _).mono ?_; rintro e w' ⟨rfl, rfl⟩))
    refine (C64.out _).mono ?_
    rintro e w' ⟨h, p, hh, rfl, rfl⟩
    by_cases ha : clampI a < 0
    all_goals by_cases hb : clampI b < 0
    all_goals first | have da : decide (clampI a < 0) = true := decide_eq_true ha | have da : decide (clampI a < 0) = false := decide_eq_false ha
    all_goals first | have db : decide (clampI b < 0) = true := decide_eq_true hb | have db : decide (clampI b < 0) = false := decide_eq_false hb
    all_goals go_wp2
    all_goals go_ret
    all_goals have hp := HP.out
    all_goals first
      | exact ⟨ret_int (by rw [HS.out (by omega), clampI_big (by omega)]), rfl⟩
      | exact ⟨ret_int (by rw [HO.out (by omega), clampI_small (by omega)]), rfl⟩
theorem mulI_lo (a b : Int) : -4611686018427387903 ≤ mulI a b := clampI_lo _
theorem mulI_hi (a b : Int) : mulI a b ≤ 4611686018427387903 := clampI_hi _
theorem subI_lo (a b : Int) : -4611686018427387903 ≤ subI a b := clampI_lo _
theorem subI_hi (a b : Int) : subI a b ≤ 4611686018427387903 := clampI_hi _
theorem held_as (a v : Int) (h : clampI a = v) (w : World) :
    Calls Tryz.prog 82 #[.int .i64 a] w fun e w' => e = .returned (.int .i64 v) ∧ w = w' := h ▸ held_any a w

set_option maxHeartbeats 1000000 in
theorem rmul_pp (a b X Y : Int) (hA : Hid (clampI a = X)) (hB : Hid (clampI b = Y)) (x0 : 0 < X) (y0 : 0 < Y) (x1 : X ≤ 4611686018427387903) (y1 : Y ≤ 4611686018427387903) (w : World) :
    Calls Tryz.prog 45 #[.int .i64 a, .int .i64 b] w fun e w' => e = .returned (.int .i64 (mulI a b)) ∧ w = w' := by
  have E : Hid (mulI a b = clampI (X * Y)) := Lib.hid (by unfold mulI; rw [hA.out, hB.out])
  generalize mulI a b = r at *
  have hq := Int.le_ediv_iff_mul_le (a := X) (b := 4611686018427387903) y0
  have p0 : 0 < X * Y := Int.mul_pos x0 y0
  have zx : (X == 0) = false := by rw [beq_eq_false_iff_ne]; omega
  have zy : (Y == 0) = false := by rw [beq_eq_false_iff_ne]; omega
  have sx : decide (X < 0) = false := by simp; omega
  have sy : decide (Y < 0) = false := by simp; omega
  by_cases h : X * Y ≤ 4611686018427387903
  · have h' := hq.2 h
    clear hq
    go_enter Tryz.func45, Tryz.ntmps45
    go_wp2_with (go_at_call 82; (first | (with_reducible refine (held_as a _ hA.out _).mono ?_) | (with_reducible refine (held_as b _ hB.out _).mono ?_)); rintro e w' ⟨rfl, rfl⟩)
    go_ret
    exact ⟨ret_int (by rw [E.out, clampI_id (by omega) (by omega)]), rfl⟩
  · have h' : 4611686018427387903 / Y < X := by
      by_cases g : X ≤ 4611686018427387903 / Y
      · exact absurd (hq.1 g) h
      · omega
    clear hq
    go_enter Tryz.func45, Tryz.ntmps45
    go_wp2_with (go_at_call 82; (first | (with_reducible refine (held_as a _ hA.out _).mono ?_) | (with_reducible refine (held_as b _ hB.out _).mono ?_)); rintro e w' ⟨rfl, rfl⟩)
    go_ret
    exact ⟨ret_int (by rw [E.out, clampI_big (by omega)]), rfl⟩

set_option maxHeartbeats 1000000 in
theorem rmul_pn (a b X Y : Int) (hA : Hid (clampI a = X)) (hB : Hid (clampI b = -Y)) (x0 : 0 < X) (y0 : 0 < Y) (x1 : X ≤ 4611686018427387903) (y1 : Y ≤ 4611686018427387903) (w : World) :
    Calls Tryz.prog 45 #[.int .i64 a, .int .i64 b] w fun e w' => e = .returned (.int .i64 (mulI a b)) ∧ w = w' := by
  have E : Hid (mulI a b = clampI (-(X * Y))) := Lib.hid (by unfold mulI; rw [hA.out, hB.out, Int.mul_neg])
  generalize mulI a b = r at *
  have hq := Int.le_ediv_iff_mul_le (a := X) (b := 4611686018427387903) y0
  have p0 : 0 < X * Y := Int.mul_pos x0 y0
  have zx : (X == 0) = false := by rw [beq_eq_false_iff_ne]; omega
  have zy : (-Y == 0) = false := by rw [beq_eq_false_iff_ne]; omega
  have sx : decide (X < 0) = false := by simp; omega
  have sy : decide (-Y < 0) = true := by simp; omega
  by_cases h : X * Y ≤ 4611686018427387903
  · have h' := hq.2 h
    clear hq
    go_enter Tryz.func45, Tryz.ntmps45
    go_wp2_with (go_at_call 82; (first | (with_reducible refine (held_as a _ hA.out _).mono ?_) | (with_reducible refine (held_as b _ hB.out _).mono ?_)); rintro e w' ⟨rfl, rfl⟩)
    go_ret
    exact ⟨ret_int (by rw [E.out, clampI_id (by omega) (by omega)]), rfl⟩
  · have h' : 4611686018427387903 / Y < X := by
      by_cases g : X ≤ 4611686018427387903 / Y
      · exact absurd (hq.1 g) h
      · omega
    clear hq
    go_enter Tryz.func45, Tryz.ntmps45
    go_wp2_with (go_at_call 82; (first | (with_reducible refine (held_as a _ hA.out _).mono ?_) | (with_reducible refine (held_as b _ hB.out _).mono ?_)); rintro e w' ⟨rfl, rfl⟩)
    go_ret
    exact ⟨ret_int (by rw [E.out, clampI_small (by omega)]), rfl⟩

set_option maxHeartbeats 1000000 in
theorem rmul_np (a b X Y : Int) (hA : Hid (clampI a = -X)) (hB : Hid (clampI b = Y)) (x0 : 0 < X) (y0 : 0 < Y) (x1 : X ≤ 4611686018427387903) (y1 : Y ≤ 4611686018427387903) (w : World) :
    Calls Tryz.prog 45 #[.int .i64 a, .int .i64 b] w fun e w' => e = .returned (.int .i64 (mulI a b)) ∧ w = w' := by
  have E : Hid (mulI a b = clampI (-(X * Y))) := Lib.hid (by unfold mulI; rw [hA.out, hB.out, Int.neg_mul])
  generalize mulI a b = r at *
  have hq := Int.le_ediv_iff_mul_le (a := X) (b := 4611686018427387903) y0
  have p0 : 0 < X * Y := Int.mul_pos x0 y0
  have zx : (-X == 0) = false := by rw [beq_eq_false_iff_ne]; omega
  have zy : (Y == 0) = false := by rw [beq_eq_false_iff_ne]; omega
  have sx : decide (-X < 0) = true := by simp; omega
  have sy : decide (Y < 0) = false := by simp; omega
  by_cases h : X * Y ≤ 4611686018427387903
  · have h' := hq.2 h
    clear hq
    go_enter Tryz.func45, Tryz.ntmps45
    go_wp2_with (go_at_call 82; (first | (with_reducible refine (held_as a _ hA.out _).mono ?_) | (with_reducible refine (held_as b _ hB.out _).mono ?_)); rintro e w' ⟨rfl, rfl⟩)
    go_ret
    exact ⟨ret_int (by rw [E.out, clampI_id (by omega) (by omega)]), rfl⟩
  · have h' : 4611686018427387903 / Y < X := by
      by_cases g : X ≤ 4611686018427387903 / Y
      · exact absurd (hq.1 g) h
      · omega
    clear hq
    go_enter Tryz.func45, Tryz.ntmps45
    go_wp2_with (go_at_call 82; (first | (with_reducible refine (held_as a _ hA.out _).mono ?_) | (with_reducible refine (held_as b _ hB.out _).mono ?_)); rintro e w' ⟨rfl, rfl⟩)
    go_ret
    exact ⟨ret_int (by rw [E.out, clampI_small (by omega)]), rfl⟩

set_option maxHeartbeats 1000000 in
theorem rmul_nn (a b X Y : Int) (hA : Hid (clampI a = -X)) (hB : Hid (clampI b = -Y)) (x0 : 0 < X) (y0 : 0 < Y) (x1 : X ≤ 4611686018427387903) (y1 : Y ≤ 4611686018427387903) (w : World) :
    Calls Tryz.prog 45 #[.int .i64 a, .int .i64 b] w fun e w' => e = .returned (.int .i64 (mulI a b)) ∧ w = w' := by
  have E : Hid (mulI a b = clampI (X * Y)) := Lib.hid (by unfold mulI; rw [hA.out, hB.out, Int.neg_mul_neg])
  generalize mulI a b = r at *
  have hq := Int.le_ediv_iff_mul_le (a := X) (b := 4611686018427387903) y0
  have p0 : 0 < X * Y := Int.mul_pos x0 y0
  have zx : (-X == 0) = false := by rw [beq_eq_false_iff_ne]; omega
  have zy : (-Y == 0) = false := by rw [beq_eq_false_iff_ne]; omega
  have sx : decide (-X < 0) = true := by simp; omega
  have sy : decide (-Y < 0) = true := by simp; omega
  by_cases h : X * Y ≤ 4611686018427387903
  · have h' := hq.2 h
    clear hq
    go_enter Tryz.func45, Tryz.ntmps45
    go_wp2_with (go_at_call 82; (first | (with_reducible refine (held_as a _ hA.out _).mono ?_) | (with_reducible refine (held_as b _ hB.out _).mono ?_)); rintro e w' ⟨rfl, rfl⟩)
    go_ret
    exact ⟨ret_int (by rw [E.out, clampI_id (by omega) (by omega)]), rfl⟩
  · have h' : 4611686018427387903 / Y < X := by
      by_cases g : X ≤ 4611686018427387903 / Y
      · exact absurd (hq.1 g) h
      · omega
    clear hq
    go_enter Tryz.func45, Tryz.ntmps45
    go_wp2_with (go_at_call 82; (first | (with_reducible refine (held_as a _ hA.out _).mono ?_) | (with_reducible refine (held_as b _ hB.out _).mono ?_)); rintro e w' ⟨rfl, rfl⟩)
    go_ret
    exact ⟨ret_int (by rw [E.out, clampI_big (by omega)]), rfl⟩

set_option maxHeartbeats 400000 in
theorem rmul_zero (a b : Int) (h : clampI a = 0 ∨ clampI b = 0) (w : World) :
    Calls Tryz.prog 45 #[.int .i64 a, .int .i64 b] w fun e w' => e = .returned (.int .i64 (mulI a b)) ∧ w = w' := by
  have E : mulI a b = 0 := by unfold mulI; rcases h with h | h <;> rw [h] <;> simp [clampI]
  rw [E]
  clear E
  by_cases h0 : clampI a = 0
  · have hA := Lib.hid h0
    clear h h0
    go_enter Tryz.func45, Tryz.ntmps45
    go_wp2_with (go_at_call 82; (first | (with_reducible refine (held_as a _ hA.out _).mono ?_) | (with_reducible refine (held_any b _).mono ?_)); rintro e w' ⟨rfl, rfl⟩)
    go_ret
    exact ⟨rfl, rfl⟩
  · have hB := Lib.hid (h.resolve_left h0)
    have h0' : (clampI a == 0) = false := by simpa using h0
    clear h h0
    go_enter Tryz.func45, Tryz.ntmps45
    go_wp2_with (go_at_call 82; (first | (with_reducible refine (held_any a _).mono ?_) | (with_reducible refine (held_as b _ hB.out _).mono ?_)); rintro e w' ⟨rfl, rfl⟩)
    go_ret
    exact ⟨rfl, rfl⟩

theorem rmul_any (a b : Int) (w : World) :
    Calls Tryz.prog 45 #[.int .i64 a, .int .i64 b] w fun e w' => e = .returned (.int .i64 (mulI a b)) ∧ w = w' := by
  have a1 := clampI_lo a
  have a2 := clampI_hi a
  have b1 := clampI_lo b
  have b2 := clampI_hi b
  by_cases ha : clampI a = 0
  · exact rmul_zero a b (.inl ha) w
  · by_cases hb : clampI b = 0
    · exact rmul_zero a b (.inr hb) w
    · rcases Int.lt_or_gt_of_ne ha with ha | ha
      · rcases Int.lt_or_gt_of_ne hb with hb | hb
        · exact rmul_nn a b (-clampI a) (-clampI b) (Lib.hid (by omega)) (Lib.hid (by omega)) (by omega) (by omega) (by omega) (by omega) w
        · exact rmul_np a b (-clampI a) (clampI b) (Lib.hid (by omega)) (Lib.hid rfl) (by omega) (by omega) (by omega) (by omega) w
      · rcases Int.lt_or_gt_of_ne hb with hb | hb
        · exact rmul_pn a b (clampI a) (-clampI b) (Lib.hid rfl) (Lib.hid (by omega)) (by omega) (by omega) (by omega) (by omega) w
        · exact rmul_pp a b (clampI a) (clampI b) (Lib.hid rfl) (Lib.hid rfl) (by omega) (by omega) (by omega) (by omega) w

end Go.Proofs.YtodibjpojfipoaaGreatDoor
