/- Contracts of tick's and the reference's sums, each for any numbers. -/
import Derived.Test.YtonfbkffngplcaaRows
import Derived.WalkKit
import Derived.WalkSpells
import Derived.WalkLawsBesides
import Derived.Lib.Hide
namespace Go.Proofs.Ytonfbkffngplcaa
open Go.RowKit

theorem ret_int {k : IntKind} {a b : Int} (h : a = b) : Ending.returned (.int k a) = .returned (.int k b) := by rw [h]
theorem ret_bool {a b : Bool} (h : a = b) : Ending.returned (.bool a) = .returned (.bool b) := by rw [h]

def clampI (a : Int) : Int := if a < -4611686018427387903 then -4611686018427387903 else if 4611686018427387903 < a then 4611686018427387903 else a
theorem clampI_lo (a : Int) : -4611686018427387903 ≤ clampI a := by unfold clampI; split <;> (try split) <;> omega
theorem clampI_hi (a : Int) : clampI a ≤ 4611686018427387903 := by unfold clampI; split <;> (try split) <;> omega
theorem clampI_id {a : Int} (h1 : -4611686018427387903 ≤ a) (h2 : a ≤ 4611686018427387903) : clampI a = a := by unfold clampI; rw [if_neg (by omega), if_neg (by omega)]
theorem clampI_big {a : Int} (h : 4611686018427387903 < a) : clampI a = 4611686018427387903 := by unfold clampI; rw [if_neg (by omega), if_pos (by omega)]
theorem clampI_small {a : Int} (h : a < -4611686018427387903) : clampI a = -4611686018427387903 := by unfold clampI; rw [if_pos (by omega)]
theorem clampI_clampI (a : Int) : clampI (clampI a) = clampI a := clampI_id (clampI_lo a) (clampI_hi a)

set_option maxHeartbeats 400000 in
theorem clamp_any (a : Int) (w : World) :
    Calls Try.prog 25 #[.int .i64 a] w fun e w' => e = .returned (.int .i64 (clampI a)) ∧ w = w' := by
  by_cases h1 : a < -4611686018427387903
  · have e := clampI_small h1
    rw [e]; clear e
    go_enter Try.func25, Try.ntmps25
    go_wp2
    go_ret
    exact ⟨ret_int (by omega), rfl⟩
  · by_cases h2 : 4611686018427387903 < a
    · have e := clampI_big h2
      rw [e]; clear e
      go_enter Try.func25, Try.ntmps25
      go_wp2
      go_ret
      exact ⟨ret_int (by omega), rfl⟩
    · have e := clampI_id (a := a) (by omega) (by omega)
      rw [e]; clear e
      go_enter Try.func25, Try.ntmps25
      go_wp2
      all_goals (go_ret; exact ⟨ret_int (by omega), rfl⟩)

def addI (a b : Int) : Int := clampI (clampI a + clampI b)

set_option maxHeartbeats 400000 in
theorem add_any (a b : Int) (w : World) :
    Calls Try.prog 17 #[.int .i64 a, .int .i64 b] w fun e w' => e = .returned (.int .i64 (addI a b)) ∧ w = w' := by
  unfold addI
  have a1 := clampI_lo a
  have a2 := clampI_hi a
  have b1 := clampI_lo b
  have b2 := clampI_hi b
  go_enter Try.func17, Try.ntmps17
  go_wp2_with (go_at_call 25; refine (clamp_any _ _).mono ?_; rintro e w' ⟨rfl, rfl⟩)
  go_ret
  exact ⟨rfl, rfl⟩

theorem addI_lo (a b : Int) : -4611686018427387903 ≤ addI a b := clampI_lo _
theorem addI_hi (a b : Int) : addI a b ≤ 4611686018427387903 := clampI_hi _
theorem add_as (a b v : Int) (h : addI a b = v) (w : World) :
    Calls Try.prog 17 #[.int .i64 a, .int .i64 b] w fun e w' => e = .returned (.int .i64 v) ∧ w = w' := h ▸ add_any a b w
end Go.Proofs.Ytonfbkffngplcaa
