/- A failure too many. -/
import Derived.Test.YtonfbkffngplcaaBreaker
namespace Go.Proofs.Ytonfbkffngplcaa
open Go.RowKit

set_option maxHeartbeats 1000000 in
theorem fail_open_lo_one (s f t now most opn : Int) (hs : s ≠ 2) (h1 : ¬ 1099511627776 < f) (h2 : ¬ 0 < f) (m1 : most < 1) (w : World) :
    Calls Try.prog 21 #[brk s f t, .int .i64 now, .int .i64 most, .int .i64 opn] w fun e w' => e = .returned (brk 1 (1) (failT t now opn)) ∧ Below w.heap.size w w' := by
  have ds : (s == 2) = false := by simpa using hs
  clear hs
  have a1 := addI_lo now opn
  have a2 := addI_hi now opn
  unfold failT brk
  go_enter Try.func21, Try.ntmps21
  go_wp2
  go_region_with (go_at_call 17; refine (add_any _ _ _).mono ?_; rintro e w' ⟨rfl, rfl⟩)
  all_goals go_wp2
  all_goals first
    | exact bodyPost_ret (v := .agg #[.int .i64 1, .int .i64 (1), .int .i64 t]) (by simp [results, Try.results21, go_sem]) rfl ⟨ret_brk (by omega), (((Below.refl _ _).alloc (Nat.le_refl _) _).alloc (by simp) _).drew⟩
    | exact bodyPost_ret (v := .agg #[.int .i64 1, .int .i64 (1), .int .i64 (addI now opn)]) (by simp [results, Try.results21, go_sem]) rfl ⟨ret_brk (by omega), (((Below.refl _ _).alloc (Nat.le_refl _) _).alloc (by simp) _).drew⟩

set_option maxHeartbeats 1000000 in
theorem fail_open_lo_most (s f t now most opn : Int) (hs : s ≠ 2) (h1 : ¬ 1099511627776 < f) (h2 : ¬ 0 < f) (m1 : ¬ most < 1) (hm : most ≤ 1) (w : World) :
    Calls Try.prog 21 #[brk s f t, .int .i64 now, .int .i64 most, .int .i64 opn] w fun e w' => e = .returned (brk 1 (1) (failT t now opn)) ∧ Below w.heap.size w w' := by
  have ds : (s == 2) = false := by simpa using hs
  clear hs
  have dm : decide (most ≤ 1) = true := decide_eq_true hm
  have a1 := addI_lo now opn
  have a2 := addI_hi now opn
  unfold failT brk
  go_enter Try.func21, Try.ntmps21
  go_wp2
  go_region_with (go_at_call 17; refine (add_any _ _ _).mono ?_; rintro e w' ⟨rfl, rfl⟩)
  all_goals go_wp2
  all_goals first
    | exact bodyPost_ret (v := .agg #[.int .i64 1, .int .i64 (1), .int .i64 t]) (by simp [results, Try.results21, go_sem]) rfl ⟨ret_brk (by omega), (((Below.refl _ _).alloc (Nat.le_refl _) _).alloc (by simp) _).drew⟩
    | exact bodyPost_ret (v := .agg #[.int .i64 1, .int .i64 (1), .int .i64 (addI now opn)]) (by simp [results, Try.results21, go_sem]) rfl ⟨ret_brk (by omega), (((Below.refl _ _).alloc (Nat.le_refl _) _).alloc (by simp) _).drew⟩

set_option maxHeartbeats 1000000 in
theorem fail_open_in_one (s f t now most opn : Int) (hs : s ≠ 2) (h1 : ¬ 1099511627776 < f) (h2 : 0 < f) (m1 : most < 1) (hm : 1 ≤ f + 1) (w : World) :
    Calls Try.prog 21 #[brk s f t, .int .i64 now, .int .i64 most, .int .i64 opn] w fun e w' => e = .returned (brk 1 (f + 1) (failT t now opn)) ∧ Below w.heap.size w w' := by
  have ds : (s == 2) = false := by simpa using hs
  clear hs
  have dm : decide (1 ≤ f + 1) = true := decide_eq_true hm
  have a1 := addI_lo now opn
  have a2 := addI_hi now opn
  unfold failT brk
  go_enter Try.func21, Try.ntmps21
  go_wp2
  go_region_with (go_at_call 17; refine (add_any _ _ _).mono ?_; rintro e w' ⟨rfl, rfl⟩)
  all_goals go_wp2
  all_goals first
    | exact bodyPost_ret (v := .agg #[.int .i64 1, .int .i64 (f + 1), .int .i64 t]) (by simp [results, Try.results21, go_sem]) rfl ⟨ret_brk (by omega), (((Below.refl _ _).alloc (Nat.le_refl _) _).alloc (by simp) _).drew⟩
    | exact bodyPost_ret (v := .agg #[.int .i64 1, .int .i64 (f + 1), .int .i64 (addI now opn)]) (by simp [results, Try.results21, go_sem]) rfl ⟨ret_brk (by omega), (((Below.refl _ _).alloc (Nat.le_refl _) _).alloc (by simp) _).drew⟩

set_option maxHeartbeats 1000000 in
theorem fail_open_in_most (s f t now most opn : Int) (hs : s ≠ 2) (h1 : ¬ 1099511627776 < f) (h2 : 0 < f) (m1 : ¬ most < 1) (hm : most ≤ f + 1) (w : World) :
    Calls Try.prog 21 #[brk s f t, .int .i64 now, .int .i64 most, .int .i64 opn] w fun e w' => e = .returned (brk 1 (f + 1) (failT t now opn)) ∧ Below w.heap.size w w' := by
  have ds : (s == 2) = false := by simpa using hs
  clear hs
  have dm : decide (most ≤ f + 1) = true := decide_eq_true hm
  have a1 := addI_lo now opn
  have a2 := addI_hi now opn
  unfold failT brk
  go_enter Try.func21, Try.ntmps21
  go_wp2
  go_region_with (go_at_call 17; refine (add_any _ _ _).mono ?_; rintro e w' ⟨rfl, rfl⟩)
  all_goals go_wp2
  all_goals first
    | exact bodyPost_ret (v := .agg #[.int .i64 1, .int .i64 (f + 1), .int .i64 t]) (by simp [results, Try.results21, go_sem]) rfl ⟨ret_brk (by omega), (((Below.refl _ _).alloc (Nat.le_refl _) _).alloc (by simp) _).drew⟩
    | exact bodyPost_ret (v := .agg #[.int .i64 1, .int .i64 (f + 1), .int .i64 (addI now opn)]) (by simp [results, Try.results21, go_sem]) rfl ⟨ret_brk (by omega), (((Below.refl _ _).alloc (Nat.le_refl _) _).alloc (by simp) _).drew⟩

set_option maxHeartbeats 1000000 in
theorem fail_open_hi_one (s f t now most opn : Int) (hs : s ≠ 2) (h1 : 1099511627776 < f) (m1 : most < 1) (w : World) :
    Calls Try.prog 21 #[brk s f t, .int .i64 now, .int .i64 most, .int .i64 opn] w fun e w' => e = .returned (brk 1 (1099511627777) (failT t now opn)) ∧ Below w.heap.size w w' := by
  have ds : (s == 2) = false := by simpa using hs
  clear hs
  have a1 := addI_lo now opn
  have a2 := addI_hi now opn
  unfold failT brk
  go_enter Try.func21, Try.ntmps21
  go_wp2
  go_region_with (go_at_call 17; refine (add_any _ _ _).mono ?_; rintro e w' ⟨rfl, rfl⟩)
  all_goals go_wp2
  all_goals first
    | exact bodyPost_ret (v := .agg #[.int .i64 1, .int .i64 (1099511627777), .int .i64 t]) (by simp [results, Try.results21, go_sem]) rfl ⟨ret_brk (by omega), (((Below.refl _ _).alloc (Nat.le_refl _) _).alloc (by simp) _).drew⟩
    | exact bodyPost_ret (v := .agg #[.int .i64 1, .int .i64 (1099511627777), .int .i64 (addI now opn)]) (by simp [results, Try.results21, go_sem]) rfl ⟨ret_brk (by omega), (((Below.refl _ _).alloc (Nat.le_refl _) _).alloc (by simp) _).drew⟩

set_option maxHeartbeats 1000000 in
theorem fail_open_hi_most (s f t now most opn : Int) (hs : s ≠ 2) (h1 : 1099511627776 < f) (m1 : ¬ most < 1) (hm : most ≤ 1099511627777) (w : World) :
    Calls Try.prog 21 #[brk s f t, .int .i64 now, .int .i64 most, .int .i64 opn] w fun e w' => e = .returned (brk 1 (1099511627777) (failT t now opn)) ∧ Below w.heap.size w w' := by
  have ds : (s == 2) = false := by simpa using hs
  clear hs
  have dm : decide (most ≤ 1099511627777) = true := decide_eq_true hm
  have a1 := addI_lo now opn
  have a2 := addI_hi now opn
  unfold failT brk
  go_enter Try.func21, Try.ntmps21
  go_wp2
  go_region_with (go_at_call 17; refine (add_any _ _ _).mono ?_; rintro e w' ⟨rfl, rfl⟩)
  all_goals go_wp2
  all_goals first
    | exact bodyPost_ret (v := .agg #[.int .i64 1, .int .i64 (1099511627777), .int .i64 t]) (by simp [results, Try.results21, go_sem]) rfl ⟨ret_brk (by omega), (((Below.refl _ _).alloc (Nat.le_refl _) _).alloc (by simp) _).drew⟩
    | exact bodyPost_ret (v := .agg #[.int .i64 1, .int .i64 (1099511627777), .int .i64 (addI now opn)]) (by simp [results, Try.results21, go_sem]) rfl ⟨ret_brk (by omega), (((Below.refl _ _).alloc (Nat.le_refl _) _).alloc (by simp) _).drew⟩

end Go.Proofs.Ytonfbkffngplcaa
