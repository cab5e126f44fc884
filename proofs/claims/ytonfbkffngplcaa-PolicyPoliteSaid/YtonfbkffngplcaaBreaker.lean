/- Contracts of package breaker, each for any state and numbers. -/
import Derived.Test.YtonfbkffngplcaaTickAdd
import Derived.Below
import Derived.StillTailTactics
import Derived.Deep.RegionHeld3
import Derived.BigQuiet
import Derived.Deep.QuietTactic
namespace Go.Proofs.Ytonfbkffngplcaa
open Go.RowKit

/-- A breaker as a value. -/
def brk (s f t : Int) : Value := .agg #[.int .i64 s, .int .i64 f, .int .i64 t]

def sendS (s t now : Int) : Int := if s = 1 ∧ t ≤ now then 2 else s
def failF (f : Int) : Int := max 0 (min f 1099511627776) + 1
def opens (s f most : Int) : Bool := decide (s = 2 ∨ max most 1 ≤ failF f)

set_option maxHeartbeats 400000 in
theorem send_any (s f t now : Int) (w : World) :
    Calls Try.prog 18 #[brk s f t, .int .i64 now] w fun e w' => e = .returned (brk (sendS s t now) f t) ∧ Below w.heap.size w w' := by
  unfold sendS brk
  by_cases h : s = 1
  · subst h
    by_cases h2 : t ≤ now
    · have d1 : decide (t ≤ now) = true := decide_eq_true h2
      rw [if_pos ⟨rfl, h2⟩]
      go_enter Try.func18, Try.ntmps18
      go_wp2
      exact bodyPost_ret (v := .agg #[.int .i64 2, .int .i64 f, .int .i64 t]) (by simp [results, Try.results18, go_sem]) rfl ⟨rfl, ((Below.refl _ _).alloc (Nat.le_refl _) _).alloc (by simp) _⟩
    · have d1 : decide (t ≤ now) = false := decide_eq_false h2
      rw [if_neg (by omega)]
      go_enter Try.func18, Try.ntmps18
      go_wp2
      exact bodyPost_ret (v := .agg #[.int .i64 1, .int .i64 f, .int .i64 t]) (by simp [results, Try.results18, go_sem]) rfl ⟨rfl, ((Below.refl _ _).alloc (Nat.le_refl _) _).alloc (by simp) _⟩
  · have d0 : (s == 1) = false := by simpa using h
    rw [if_neg (by omega)]
    go_enter Try.func18, Try.ntmps18
    go_wp2
    exact bodyPost_ret (v := .agg #[.int .i64 s, .int .i64 f, .int .i64 t]) (by simp [results, Try.results18, go_sem]) rfl ⟨rfl, ((Below.refl _ _).alloc (Nat.le_refl _) _).alloc (by simp) _⟩

set_option maxHeartbeats 400000 in
theorem good_any (s f t : Int) (w : World) :
    Calls Try.prog 14 #[brk s f t] w fun e w' => e = .returned (brk 0 0 0) ∧ Below w.heap.size w w' := by
  unfold brk
  go_enter Try.func14, Try.ntmps14
  go_wp2
  exact bodyPost_ret (v := .agg #[.int .i64 0, .int .i64 0, .int .i64 0]) (by simp [results, Try.results14, go_sem]) rfl ⟨rfl, ((Below.refl _ _).alloc (Nat.le_refl _) _).alloc (by simp) _⟩

def failT (t now opn : Int) : Int := max t (addI now opn)
theorem ret_brk {s f a b : Int} (h : a = b) : Ending.returned (.agg #[.int .i64 s, .int .i64 f, .int .i64 a]) = .returned (.agg #[.int .i64 s, .int .i64 f, .int .i64 b]) := by rw [h]
end Go.Proofs.Ytonfbkffngplcaa
