/- Package frame: records in memory; whether one may be. -/
import Derived.Test.YtndgpdpabjaedaaFrNum
namespace Go.Proofs.Ytndgpdpabjaedaa
open Go.RowKit

/-- A record's cells. -/
def reqL (r : Rc) : List Value := [.int .i64 r.id, .string r.host, .string r.path, .int .i64 r.prio, .int .i64 r.till]
def recL (r : Rc) : List Value := .int .i64 r.kind :: reqL r
set_option maxHeartbeats 1000000 in
theorem sound_yes (r : Rc) (w : World) (h : soundR r) :
    Calls Try.prog 16 #[.agg (recL r).toArray] w fun e w' => e = .returned (.bool true) ∧ Below w.heap.size w w' := by
  obtain ⟨g0, g1, g2, g3, g4, g5, g6, g7⟩ := h
  have d0 : decide ((1 : Int) ≤ r.kind) = true := decide_eq_true (by omega)
  have d1 : decide (r.kind ≤ (3 : Int)) = true := decide_eq_true (by omega)
  have d2 : decide ((0 : Int) ≤ r.id) = true := decide_eq_true (by omega)
  have d3 : decide ((0 : Int) ≤ r.till) = true := decide_eq_true (by omega)
  have d4 : decide ((0 : Int) ≤ r.prio) = true := decide_eq_true (by omega)
  have d5 : decide (r.prio ≤ (7 : Int)) = true := decide_eq_true (by omega)
  have d6 : decide ((r.host.size : Int) ≤ 256) = true := decide_eq_true (by omega)
  have d7 : decide ((r.path.size : Int) ≤ 768) = true := decide_eq_true (by omega)
  clear g0 g1 g2 g3 g4 g5
  show Calls Try.prog 16 #[.agg #[.int .i64 r.kind, .int .i64 r.id, .string r.host, .string r.path, .int .i64 r.prio, .int .i64 r.till]] w _
  go_enter Try.func16, Try.ntmps16
  go_wp2_with fail
  go_ret
  exact ⟨rfl, (Below.refl _ _).alloc (Nat.le_refl _) _⟩
set_option maxHeartbeats 4000000 in
theorem sound_no (r : Rc) (w : World) (h : ¬ soundR r) :
    Calls Try.prog 16 #[.agg (recL r).toArray] w fun e w' => e = .returned (.bool false) ∧ Below w.heap.size w w' := by
  unfold soundR at h
  by_cases g0 : 1 ≤ r.kind
  rotate_left
  · clear h
    have d0 : decide ((1 : Int) ≤ r.kind) = false := decide_eq_false (by omega)
    show Calls Try.prog 16 #[.agg #[.int .i64 r.kind, .int .i64 r.id, .string r.host, .string r.path, .int .i64 r.prio, .int .i64 r.till]] w _
    go_enter Try.func16, Try.ntmps16
    go_wp2_with fail
    go_ret
    exact ⟨rfl, (Below.refl _ _).alloc (Nat.le_refl _) _⟩
  by_cases g1 : r.kind ≤ 3
  rotate_left
  · clear h
    have d0 : decide ((1 : Int) ≤ r.kind) = true := decide_eq_true (by omega)
    have d1 : decide (r.kind ≤ (3 : Int)) = false := decide_eq_false (by omega)
    show Calls Try.prog 16 #[.agg #[.int .i64 r.kind, .int .i64 r.id, .string r.host, .string r.path, .int .i64 r.prio, .int .i64 r.till]] w _
    go_enter Try.func16, Try.ntmps16
    go_wp2_with fail
    go_ret
    exact ⟨rfl, (Below.refl _ _).alloc (Nat.le_refl _) _⟩
  by_cases g2 : 0 ≤ r.id
  rotate_left
  · clear h
    have d0 : decide ((1 : Int) ≤ r.kind) = true := decide_eq_true (by omega)
    have d1 : decide (r.kind ≤ (3 : Int)) = true := decide_eq_true (by omega)
    have d2 : decide ((0 : Int) ≤ r.id) = false := decide_eq_false (by omega)
    show Calls Try.prog 16 #[.agg #[.int .i64 r.kind, .int .i64 r.id, .string r.host, .string r.path, .int .i64 r.prio, .int .i64 r.till]] w _
    go_enter Try.func16, Try.ntmps16
    go_wp2_with fail
    go_ret
    exact ⟨rfl, (Below.refl _ _).alloc (Nat.le_refl _) _⟩
  by_cases g3 : 0 ≤ r.till
  rotate_left
  · clear h
    have d0 : decide ((1 : Int) ≤ r.kind) = true := decide_eq_true (by omega)
    have d1 : decide (r.kind ≤ (3 : Int)) = true := decide_eq_true (by omega)
    have d2 : decide ((0 : Int) ≤ r.id) = true := decide_eq_true (by omega)
    have d3 : decide ((0 : Int) ≤ r.till) = false := decide_eq_false (by omega)
    show Calls Try.prog 16 #[.agg #[.int .i64 r.kind, .int .i64 r.id, .string r.host, .string r.path, .int .i64 r.prio, .int .i64 r.till]] w _
    go_enter Try.func16, Try.ntmps16
    go_wp2_with fail
    go_ret
    exact ⟨rfl, (Below.refl _ _).alloc (Nat.le_refl _) _⟩
  by_cases g4 : 0 ≤ r.prio
  rotate_left
  · clear h
    have d0 : decide ((1 : Int) ≤ r.kind) = true := decide_eq_true (by omega)
    have d1 : decide (r.kind ≤ (3 : Int)) = true := decide_eq_true (by omega)
    have d2 : decide ((0 : Int) ≤ r.id) = true := decide_eq_true (by omega)
    have d3 : decide ((0 : Int) ≤ r.till) = true := decide_eq_true (by omega)
    have d4 : decide ((0 : Int) ≤ r.prio) = false := decide_eq_false (by omega)
    show Calls Try.prog 16 #[.agg #[.int .i64 r.kind, .int .i64 r.id, .string r.host, .string r.path, .int .i64 r.prio, .int .i64 r.till]] w _
    go_enter Try.func16, Try.ntmps16
    go_wp2_with fail
    go_ret
    exact ⟨rfl, (Below.refl _ _).alloc (Nat.le_refl _) _⟩
  by_cases g5 : r.prio ≤ 7
  rotate_left
  · clear h
    have d0 : decide ((1 : Int) ≤ r.kind) = true := decide_eq_true (by omega)
    have d1 : decide (r.kind ≤ (3 : Int)) = true := decide_eq_true (by omega)
    have d2 : decide ((0 : Int) ≤ r.id) = true := decide_eq_true (by omega)
    have d3 : decide ((0 : Int) ≤ r.till) = true := decide_eq_true (by omega)
    have d4 : decide ((0 : Int) ≤ r.prio) = true := decide_eq_true (by omega)
    have d5 : decide (r.prio ≤ (7 : Int)) = false := decide_eq_false (by omega)
    show Calls Try.prog 16 #[.agg #[.int .i64 r.kind, .int .i64 r.id, .string r.host, .string r.path, .int .i64 r.prio, .int .i64 r.till]] w _
    go_enter Try.func16, Try.ntmps16
    go_wp2_with fail
    go_ret
    exact ⟨rfl, (Below.refl _ _).alloc (Nat.le_refl _) _⟩
  by_cases g6 : r.host.size ≤ 256
  rotate_left
  · clear h
    have d0 : decide ((1 : Int) ≤ r.kind) = true := decide_eq_true (by omega)
    have d1 : decide (r.kind ≤ (3 : Int)) = true := decide_eq_true (by omega)
    have d2 : decide ((0 : Int) ≤ r.id) = true := decide_eq_true (by omega)
    have d3 : decide ((0 : Int) ≤ r.till) = true := decide_eq_true (by omega)
    have d4 : decide ((0 : Int) ≤ r.prio) = true := decide_eq_true (by omega)
    have d5 : decide (r.prio ≤ (7 : Int)) = true := decide_eq_true (by omega)
    have d6 : decide ((r.host.size : Int) ≤ 256) = false := decide_eq_false (by omega)
    show Calls Try.prog 16 #[.agg #[.int .i64 r.kind, .int .i64 r.id, .string r.host, .string r.path, .int .i64 r.prio, .int .i64 r.till]] w _
    go_enter Try.func16, Try.ntmps16
    go_wp2_with fail
    go_ret
    exact ⟨rfl, (Below.refl _ _).alloc (Nat.le_refl _) _⟩
  by_cases g7 : r.path.size ≤ 768
  rotate_left
  · clear h
    have d0 : decide ((1 : Int) ≤ r.kind) = true := decide_eq_true (by omega)
    have d1 : decide (r.kind ≤ (3 : Int)) = true := decide_eq_true (by omega)
    have d2 : decide ((0 : Int) ≤ r.id) = true := decide_eq_true (by omega)
    have d3 : decide ((0 : Int) ≤ r.till) = true := decide_eq_true (by omega)
    have d4 : decide ((0 : Int) ≤ r.prio) = true := decide_eq_true (by omega)
    have d5 : decide (r.prio ≤ (7 : Int)) = true := decide_eq_true (by omega)
    have d6 : decide ((r.host.size : Int) ≤ 256) = true := decide_eq_true (by omega)
    have d7 : decide ((r.path.size : Int) ≤ 768) = false := decide_eq_false (by omega)
    show Calls Try.prog 16 #[.agg #[.int .i64 r.kind, .int .i64 r.id, .string r.host, .string r.path, .int .i64 r.prio, .int .i64 r.till]] w _
    go_enter Try.func16, Try.ntmps16
    go_wp2_with fail
    go_ret
    exact ⟨rfl, (Below.refl _ _).alloc (Nat.le_refl _) _⟩
  exact absurd ⟨g0, g1, g2, g3, g4, g5, g6, g7⟩ h

/-! The document's. -/
set_option maxHeartbeats 1000000 in
theorem rsound_yes (r : Rc) (w : World) (h : soundR r) :
    Calls Try.prog 11 #[.int .i64 r.kind, .agg (reqL r).toArray] w fun e w' => e = .returned (.bool true) ∧ Below w.heap.size w w' := by
  obtain ⟨g0, g1, g2, g3, g4, g5, g6, g7⟩ := h
  have d0 : decide ((1 : Int) ≤ r.kind) = true := decide_eq_true (by omega)
  have d1 : decide (r.kind ≤ (3 : Int)) = true := decide_eq_true (by omega)
  have d2 : decide ((0 : Int) ≤ r.id) = true := decide_eq_true (by omega)
  have d3 : decide ((0 : Int) ≤ r.till) = true := decide_eq_true (by omega)
  have d4 : decide ((0 : Int) ≤ r.prio) = true := decide_eq_true (by omega)
  have d5 : decide (r.prio ≤ (7 : Int)) = true := decide_eq_true (by omega)
  have d6 : decide ((r.host.size : Int) ≤ 256) = true := decide_eq_true (by omega)
  have d7 : decide ((r.path.size : Int) ≤ 768) = true := decide_eq_true (by omega)
  clear g0 g1 g2 g3 g4 g5
  show Calls Try.prog 11 #[.int .i64 r.kind, .agg #[.int .i64 r.id, .string r.host, .string r.path, .int .i64 r.prio, .int .i64 r.till]] w _
  go_enter Try.func11, Try.ntmps11
  go_wp2_with fail
  go_ret
  exact ⟨rfl, (Below.refl _ _).alloc (Nat.le_refl _) _⟩
set_option maxHeartbeats 4000000 in
theorem rsound_no (r : Rc) (w : World) (h : ¬ soundR r) :
    Calls Try.prog 11 #[.int .i64 r.kind, .agg (reqL r).toArray] w fun e w' => e = .returned (.bool false) ∧ Below w.heap.size w w' := by
  unfold soundR at h
  by_cases g0 : 1 ≤ r.kind
  rotate_left
  · clear h
    have d0 : decide ((1 : Int) ≤ r.kind) = false := decide_eq_false (by omega)
    show Calls Try.prog 11 #[.int .i64 r.kind, .agg #[.int .i64 r.id, .string r.host, .string r.path, .int .i64 r.prio, .int .i64 r.till]] w _
    go_enter Try.func11, Try.ntmps11
    go_wp2_with fail
    go_ret
    exact ⟨rfl, (Below.refl _ _).alloc (Nat.le_refl _) _⟩
  by_cases g1 : r.kind ≤ 3
  rotate_left
  · clear h
    have d0 : decide ((1 : Int) ≤ r.kind) = true := decide_eq_true (by omega)
    have d1 : decide (r.kind ≤ (3 : Int)) = false := decide_eq_false (by omega)
    show Calls Try.prog 11 #[.int .i64 r.kind, .agg #[.int .i64 r.id, .string r.host, .string r.path, .int .i64 r.prio, .int .i64 r.till]] w _
    go_enter Try.func11, Try.ntmps11
    go_wp2_with fail
    go_ret
    exact ⟨rfl, (Below.refl _ _).alloc (Nat.le_refl _) _⟩
  by_cases g2 : 0 ≤ r.id
  rotate_left
  · clear h
    have d0 : decide ((1 : Int) ≤ r.kind) = true := decide_eq_true (by omega)
    have d1 : decide (r.kind ≤ (3 : Int)) = true := decide_eq_true (by omega)
    have d2 : decide ((0 : Int) ≤ r.id) = false := decide_eq_false (by omega)
    show Calls Try.prog 11 #[.int .i64 r.kind, .agg #[.int .i64 r.id, .string r.host, .string r.path, .int .i64 r.prio, .int .i64 r.till]] w _
    go_enter Try.func11, Try.ntmps11
    go_wp2_with fail
    go_ret
    exact ⟨rfl, (Below.refl _ _).alloc (Nat.le_refl _) _⟩
  by_cases g3 : 0 ≤ r.till
  rotate_left
  · clear h
    have d0 : decide ((1 : Int) ≤ r.kind) = true := decide_eq_true (by omega)
    have d1 : decide (r.kind ≤ (3 : Int)) = true := decide_eq_true (by omega)
    have d2 : decide ((0 : Int) ≤ r.id) = true := decide_eq_true (by omega)
    have d3 : decide ((0 : Int) ≤ r.till) = false := decide_eq_false (by omega)
    show Calls Try.prog 11 #[.int .i64 r.kind, .agg #[.int .i64 r.id, .string r.host, .string r.path, .int .i64 r.prio, .int .i64 r.till]] w _
    go_enter Try.func11, Try.ntmps11
    go_wp2_with fail
    go_ret
    exact ⟨rfl, (Below.refl _ _).alloc (Nat.le_refl _) _⟩
  by_cases g4 : 0 ≤ r.prio
  rotate_left
  · clear h
    have d0 : decide ((1 : Int) ≤ r.kind) = true := decide_eq_true (by omega)
    have d1 : decide (r.kind ≤ (3 : Int)) = true := decide_eq_true (by omega)
    have d2 : decide ((0 : Int) ≤ r.id) = true := decide_eq_true (by omega)
    have d3 : decide ((0 : Int) ≤ r.till) = true := decide_eq_true (by omega)
    have d4 : decide ((0 : Int) ≤ r.prio) = false := decide_eq_false (by omega)
    show Calls Try.prog 11 #[.int .i64 r.kind, .agg #[.int .i64 r.id, .string r.host, .string r.path, .int .i64 r.prio, .int .i64 r.till]] w _
    go_enter Try.func11, Try.ntmps11
    go_wp2_with fail
    go_ret
    exact ⟨rfl, (Below.refl _ _).alloc (Nat.le_refl _) _⟩
  by_cases g5 : r.prio ≤ 7
  rotate_left
  · clear h
    have d0 : decide ((1 : Int) ≤ r.kind) = true := decide_eq_true (by omega)
    have d1 : decide (r.kind ≤ (3 : Int)) = true := decide_eq_true (by omega)
    have d2 : decide ((0 : Int) ≤ r.id) = true := decide_eq_true (by omega)
    have d3 : decide ((0 : Int) ≤ r.till) = true := decide_eq_true (by omega)
    have d4 : decide ((0 : Int) ≤ r.prio) = true := decide_eq_true (by omega)
    have d5 : decide (r.prio ≤ (7 : Int)) = false := decide_eq_false (by omega)
    show Calls Try.prog 11 #[.int .i64 r.kind, .agg #[.int .i64 r.id, .string r.host, .string r.path, .int .i64 r.prio, .int .i64 r.till]] w _
    go_enter Try.func11, Try.ntmps11
    go_wp2_with fail
    go_ret
    exact ⟨rfl, (Below.refl _ _).alloc (Nat.le_refl _) _⟩
  by_cases g6 : r.host.size ≤ 256
  rotate_left
  · clear h
    have d0 : decide ((1 : Int) ≤ r.kind) = true := decide_eq_true (by omega)
    have d1 : decide (r.kind ≤ (3 : Int)) = true := decide_eq_true (by omega)
    have d2 : decide ((0 : Int) ≤ r.id) = true := decide_eq_true (by omega)
    have d3 : decide ((0 : Int) ≤ r.till) = true := decide_eq_true (by omega)
    have d4 : decide ((0 : Int) ≤ r.prio) = true := decide_eq_true (by omega)
    have d5 : decide (r.prio ≤ (7 : Int)) = true := decide_eq_true (by omega)
    have d6 : decide ((r.host.size : Int) ≤ 256) = false := decide_eq_false (by omega)
    show Calls Try.prog 11 #[.int .i64 r.kind, .agg #[.int .i64 r.id, .string r.host, .string r.path, .int .i64 r.prio, .int .i64 r.till]] w _
    go_enter Try.func11, Try.ntmps11
    go_wp2_with fail
    go_ret
    exact ⟨rfl, (Below.refl _ _).alloc (Nat.le_refl _) _⟩
  by_cases g7 : r.path.size ≤ 768
  rotate_left
  · clear h
    have d0 : decide ((1 : Int) ≤ r.kind) = true := decide_eq_true (by omega)
    have d1 : decide (r.kind ≤ (3 : Int)) = true := decide_eq_true (by omega)
    have d2 : decide ((0 : Int) ≤ r.id) = true := decide_eq_true (by omega)
    have d3 : decide ((0 : Int) ≤ r.till) = true := decide_eq_true (by omega)
    have d4 : decide ((0 : Int) ≤ r.prio) = true := decide_eq_true (by omega)
    have d5 : decide (r.prio ≤ (7 : Int)) = true := decide_eq_true (by omega)
    have d6 : decide ((r.host.size : Int) ≤ 256) = true := decide_eq_true (by omega)
    have d7 : decide ((r.path.size : Int) ≤ 768) = false := decide_eq_false (by omega)
    show Calls Try.prog 11 #[.int .i64 r.kind, .agg #[.int .i64 r.id, .string r.host, .string r.path, .int .i64 r.prio, .int .i64 r.till]] w _
    go_enter Try.func11, Try.ntmps11
    go_wp2_with fail
    go_ret
    exact ⟨rfl, (Below.refl _ _).alloc (Nat.le_refl _) _⟩
  exact absurd ⟨g0, g1, g2, g3, g4, g5, g6, g7⟩ h

end Go.Proofs.Ytndgpdpabjaedaa
