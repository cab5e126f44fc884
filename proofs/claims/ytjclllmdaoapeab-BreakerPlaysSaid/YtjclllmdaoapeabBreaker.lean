/- Contracts of package breaker, each for any state and numbers. -/
import Derived.Test.YtjclllmdaoapeabTickAdd
import Derived.Below
import Derived.StillTailTactics
import Derived.Deep.RegionHeld3
import Derived.BigQuiet
import Derived.Deep.QuietTactic
namespace Go.Proofs.Ytjclllmdaoapeab
open Go.RowKit

/-- A breaker as a value. -/
def brk (s f t : Int) : Value := .agg #[.int .i64 s, .int .i64 f, .int .i64 t]

def mayB (s t now fl : Int) : Bool := if s = 0 then true else if s = 1 then decide (t ≤ now ∧ fl < 1) else decide (fl < 1)
def sendS (s t now : Int) : Int := if s = 1 ∧ t ≤ now then 2 else s
def failF (f : Int) : Int := max 0 (min f 1099511627776) + 1
def opens (s f most : Int) : Bool := decide (s = 2 ∨ max most 1 ≤ failF f)

set_option maxHeartbeats 400000 in
theorem may_closed (f t now fl : Int) (w : World) :
    Calls Try.prog 22 #[brk 0 f t, .int .i64 now, .int .i64 fl] w fun e w' => e = .returned (.bool true) ∧ Below w.heap.size w w' := by
  unfold brk
  go_enter Try.func22, Try.ntmps22
  go_wp2
  go_ret
  exact ⟨rfl, (Below.refl _ _).alloc (Nat.le_refl _) _⟩
set_option maxHeartbeats 400000 in
theorem may_opened (f t now fl : Int) (w : World) :
    Calls Try.prog 22 #[brk 1 f t, .int .i64 now, .int .i64 fl] w fun e w' => e = .returned (.bool (decide (t ≤ now ∧ fl < 1))) ∧ Below w.heap.size w w' := by
  unfold brk
  by_cases h1 : t ≤ now
  · have d1 : decide (t ≤ now) = true := decide_eq_true h1
    have E := Lib.hid (show decide (t ≤ now ∧ fl < 1) = decide (fl < 1) by simp [h1])
    go_enter Try.func22, Try.ntmps22
    go_wp2
    go_ret
    exact ⟨ret_bool E.out.symm, (Below.refl _ _).alloc (Nat.le_refl _) _⟩
  · have d1 : decide (t ≤ now) = false := decide_eq_false h1
    rw [decide_eq_false (show ¬ (t ≤ now ∧ fl < 1) by omega)]
    go_enter Try.func22, Try.ntmps22
    go_wp2
    go_ret
    exact ⟨rfl, (Below.refl _ _).alloc (Nat.le_refl _) _⟩
set_option maxHeartbeats 400000 in
theorem may_half (s f t now fl : Int) (h0 : s ≠ 0) (h1 : s ≠ 1) (w : World) :
    Calls Try.prog 22 #[brk s f t, .int .i64 now, .int .i64 fl] w fun e w' => e = .returned (.bool (decide (fl < 1))) ∧ Below w.heap.size w w' := by
  unfold brk
  have d0 : (s == 0) = false := by simpa using h0
  have d1 : (s == 1) = false := by simpa using h1
  clear h0 h1
  go_enter Try.func22, Try.ntmps22
  go_wp2
  go_ret
  exact ⟨rfl, (Below.refl _ _).alloc (Nat.le_refl _) _⟩
theorem may_any (s f t now fl : Int) (w : World) :
    Calls Try.prog 22 #[brk s f t, .int .i64 now, .int .i64 fl] w fun e w' => e = .returned (.bool (mayB s t now fl)) ∧ Below w.heap.size w w' := by
  unfold mayB
  by_cases h0 : s = 0
  · subst h0; rw [if_pos rfl]; exact may_closed f t now fl w
  · rw [if_neg h0]
    by_cases h1 : s = 1
    · subst h1; rw [if_pos rfl]; exact may_opened f t now fl w
    · rw [if_neg h1]; exact may_half s f t now fl h0 h1 w

set_option maxHeartbeats 400000 in
theorem send_any (s f t now : Int) (w : World) :
    Calls Try.prog 23 #[brk s f t, .int .i64 now] w fun e w' => e = .returned (brk (sendS s t now) f t) ∧ Below w.heap.size w w' := by
  unfold sendS brk
  by_cases h : s = 1
  · subst h
    by_cases h2 : t ≤ now
    · have d1 : decide (t ≤ now) = true := decide_eq_true h2
      rw [if_pos ⟨rfl, h2⟩]
      go_enter Try.func23, Try.ntmps23
      go_wp2
      exact bodyPost_ret (v := .agg #[.int .i64 2, .int .i64 f, .int .i64 t]) (by simp [results, Try.results23, go_sem]) rfl ⟨rfl, ((Below.refl _ _).alloc (Nat.le_refl _) _).alloc (by simp) _⟩
    · have d1 : decide (t ≤ now) = false := decide_eq_false h2
      rw [if_neg (by omega)]
      go_enter Try.func23, Try.ntmps23
      go_wp2
      exact bodyPost_ret (v := .agg #[.int .i64 1, .int .i64 f, .int .i64 t]) (by simp [results, Try.results23, go_sem]) rfl ⟨rfl, ((Below.refl _ _).alloc (Nat.le_refl _) _).alloc (by simp) _⟩
  · have d0 : (s == 1) = false := by simpa using h
    rw [if_neg (by omega)]
    go_enter Try.func23, Try.ntmps23
    go_wp2
    exact bodyPost_ret (v := .agg #[.int .i64 s, .int .i64 f, .int .i64 t]) (by simp [results, Try.results23, go_sem]) rfl ⟨rfl, ((Below.refl _ _).alloc (Nat.le_refl _) _).alloc (by simp) _⟩

set_option maxHeartbeats 400000 in
theorem good_any (s f t : Int) (w : World) :
    Calls Try.prog 25 #[brk s f t] w fun e w' => e = .returned (brk 0 0 0) ∧ Below w.heap.size w w' := by
  unfold brk
  go_enter Try.func25, Try.ntmps25
  go_wp2
  exact bodyPost_ret (v := .agg #[.int .i64 0, .int .i64 0, .int .i64 0]) (by simp [results, Try.results25, go_sem]) rfl ⟨rfl, ((Below.refl _ _).alloc (Nat.le_refl _) _).alloc (by simp) _⟩

def failT (t now opn : Int) : Int := max t (addI now opn)
theorem ret_brk {s f a b : Int} (h : a = b) : Ending.returned (.agg #[.int .i64 s, .int .i64 f, .int .i64 a]) = .returned (.agg #[.int .i64 s, .int .i64 f, .int .i64 b]) := by rw [h]
end Go.Proofs.Ytjclllmdaoapeab
