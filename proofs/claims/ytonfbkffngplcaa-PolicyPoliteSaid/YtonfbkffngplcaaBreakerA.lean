/- A failure of a breaker that is half open. -/
import Derived.Test.YtonfbkffngplcaaBreaker
namespace Go.Proofs.Ytonfbkffngplcaa
open Go.RowKit

set_option maxHeartbeats 1000000 in
theorem fail_half_lo (f t now most opn : Int) (h1 : ¬ 1099511627776 < f) (h2 : ¬ 0 < f) (w : World) :
    Calls Try.prog 21 #[brk 2 f t, .int .i64 now, .int .i64 most, .int .i64 opn] w fun e w' => e = .returned (brk 1 (1) (failT t now opn)) ∧ Below w.heap.size w w' := by
  have a1 := addI_lo now opn
  have a2 := addI_hi now opn
  unfold failT brk
  go_enter Try.func21, Try.ntmps21
  go_wp2
  go_region_with (go_at_call 17; refine (add_any _ _ _).mono ?_; rintro e w' ⟨rfl, rfl⟩)
  all_goals go_wp2
  all_goals first
    | exact bodyPost_ret (v := .agg #[.int .i64 1, .int .i64 (1), .int .i64 t]) (by simp [results, Try.results21, go_sem]) rfl ⟨ret_brk (by omega), (((Below.refl _ _).alloc (Nat.le_refl _) _).alloc (by simp) _).drew⟩
    | exact bodyPost_ret (v := .agg #[.int .i64 1, .int .i64 (1), .int .i64 (addI now opn)]) (by simp [results, Try.results21, go_sem]) rfl ⟨ret_brk (by omega), (((Below.refl _ _).alloc (Nat.le_refl _) _).alloc (by simp) _).drew⟩

set_option maxHeartbeats 1000000 in
theorem fail_half_in (f t now most opn : Int) (h1 : ¬ 1099511627776 < f) (h2 : 0 < f) (w : World) :
    Calls Try.prog 21 #[brk 2 f t, .int .i64 now, .int .i64 most, .int .i64 opn] w fun e w' => e = .returned (brk 1 (f + 1) (failT t now opn)) ∧ Below w.heap.size w w' := by
  have a1 := addI_lo now opn
  have a2 := addI_hi now opn
  unfold failT brk
  go_enter Try.func21, Try.ntmps21
  go_wp2
  go_region_with (go_at_call 17; refine (add_any _ _ _).mono ?_; rintro e w' ⟨rfl, rfl⟩)
  all_goals go_wp2
  all_goals first
    | exact bodyPost_ret (v := .agg #[.int .i64 1, .int .i64 (f + 1), .int .i64 t]) (by simp [results, Try.results21, go_sem]) rfl ⟨ret_brk (by omega), (((Below.refl _ _).alloc (Nat.le_refl _) _).alloc (by simp) _).drew⟩
    | exact bodyPost_ret (v := .agg #[.int .i64 1, .int .i64 (f + 1), .int .i64 (addI now opn)]) (by simp [results, Try.results21, go_sem]) rfl ⟨ret_brk (by omega), (((Below.refl _ _).alloc (Nat.le_refl _) _).alloc (by simp) _).drew⟩

set_option maxHeartbeats 1000000 in
theorem fail_half_hi (f t now most opn : Int) (h1 : 1099511627776 < f) (w : World) :
    Calls Try.prog 21 #[brk 2 f t, .int .i64 now, .int .i64 most, .int .i64 opn] w fun e w' => e = .returned (brk 1 (1099511627777) (failT t now opn)) ∧ Below w.heap.size w w' := by
  have a1 := addI_lo now opn
  have a2 := addI_hi now opn
  unfold failT brk
  go_enter Try.func21, Try.ntmps21
  go_wp2
  go_region_with (go_at_call 17; refine (add_any _ _ _).mono ?_; rintro e w' ⟨rfl, rfl⟩)
  all_goals go_wp2
  all_goals first
    | exact bodyPost_ret (v := .agg #[.int .i64 1, .int .i64 (1099511627777), .int .i64 t]) (by simp [results, Try.results21, go_sem]) rfl ⟨ret_brk (by omega), (((Below.refl _ _).alloc (Nat.le_refl _) _).alloc (by simp) _).drew⟩
    | exact bodyPost_ret (v := .agg #[.int .i64 1, .int .i64 (1099511627777), .int .i64 (addI now opn)]) (by simp [results, Try.results21, go_sem]) rfl ⟨ret_brk (by omega), (((Below.refl _ _).alloc (Nat.le_refl _) _).alloc (by simp) _).drew⟩

end Go.Proofs.Ytonfbkffngplcaa
