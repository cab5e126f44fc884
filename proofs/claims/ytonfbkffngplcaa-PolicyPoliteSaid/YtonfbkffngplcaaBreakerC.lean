/- A failure that does not open the breaker; and all of them. -/
import Derived.Test.YtonfbkffngplcaaBreakerA
import Derived.Test.YtonfbkffngplcaaBreakerB
namespace Go.Proofs.Ytonfbkffngplcaa
open Go.RowKit

set_option maxHeartbeats 1000000 in
theorem fail_stay_lo_most (s f t now most opn : Int) (hs : s ≠ 2) (h1 : ¬ 1099511627776 < f) (h2 : ¬ 0 < f) (m1 : ¬ most < 1) (hm : ¬ most ≤ 1) (w : World) :
    Calls Try.prog 21 #[brk s f t, .int .i64 now, .int .i64 most, .int .i64 opn] w fun e w' => e = .returned (brk s (1) t) ∧ Below w.heap.size w w' := by
  have ds : (s == 2) = false := by simpa using hs
  clear hs
  have dm : decide (most ≤ 1) = false := decide_eq_false hm
  unfold brk
  go_enter Try.func21, Try.ntmps21
  go_wp2
  exact bodyPost_ret (v := .agg #[.int .i64 s, .int .i64 (1), .int .i64 t]) (by simp [results, Try.results21, go_sem]) rfl ⟨rfl, ((Below.refl _ _).alloc (Nat.le_refl _) _).alloc (by simp) _⟩

set_option maxHeartbeats 1000000 in
theorem fail_stay_in_most (s f t now most opn : Int) (hs : s ≠ 2) (h1 : ¬ 1099511627776 < f) (h2 : 0 < f) (m1 : ¬ most < 1) (hm : ¬ most ≤ f + 1) (w : World) :
    Calls Try.prog 21 #[brk s f t, .int .i64 now, .int .i64 most, .int .i64 opn] w fun e w' => e = .returned (brk s (f + 1) t) ∧ Below w.heap.size w w' := by
  have ds : (s == 2) = false := by simpa using hs
  clear hs
  have dm : decide (most ≤ f + 1) = false := decide_eq_false hm
  unfold brk
  go_enter Try.func21, Try.ntmps21
  go_wp2
  exact bodyPost_ret (v := .agg #[.int .i64 s, .int .i64 (f + 1), .int .i64 t]) (by simp [results, Try.results21, go_sem]) rfl ⟨rfl, ((Below.refl _ _).alloc (Nat.le_refl _) _).alloc (by simp) _⟩

set_option maxHeartbeats 1000000 in
theorem fail_stay_hi_most (s f t now most opn : Int) (hs : s ≠ 2) (h1 : 1099511627776 < f) (m1 : ¬ most < 1) (hm : ¬ most ≤ 1099511627777) (w : World) :
    Calls Try.prog 21 #[brk s f t, .int .i64 now, .int .i64 most, .int .i64 opn] w fun e w' => e = .returned (brk s (1099511627777) t) ∧ Below w.heap.size w w' := by
  have ds : (s == 2) = false := by simpa using hs
  clear hs
  have dm : decide (most ≤ 1099511627777) = false := decide_eq_false hm
  unfold brk
  go_enter Try.func21, Try.ntmps21
  go_wp2
  exact bodyPost_ret (v := .agg #[.int .i64 s, .int .i64 (1099511627777), .int .i64 t]) (by simp [results, Try.results21, go_sem]) rfl ⟨rfl, ((Below.refl _ _).alloc (Nat.le_refl _) _).alloc (by simp) _⟩

/-- What a failure comes to. -/
def failS (s f most : Int) : Int := if s = 2 ∨ max most 1 ≤ failF f then 1 else s
def failU (s f t now most opn : Int) : Int := if s = 2 ∨ max most 1 ≤ failF f then failT t now opn else t
theorem failF_lo {f : Int} (h : ¬ 0 < f) : failF f = 1 := by unfold failF; omega
theorem failF_in {f : Int} (h : ¬ 1099511627776 < f) (h2 : 0 < f) : failF f = f + 1 := by unfold failF; omega
theorem failF_hi {f : Int} (h : 1099511627776 < f) : failF f = 1099511627777 := by unfold failF; omega
theorem fail_any (s f t now most opn : Int) (w : World) :
    Calls Try.prog 21 #[brk s f t, .int .i64 now, .int .i64 most, .int .i64 opn] w fun e w' => e = .returned (brk (failS s f most) (failF f) (failU s f t now most opn)) ∧ Below w.heap.size w w' := by
  unfold failS failU
  by_cases hs : s = 2
  · subst hs
    rw [if_pos (.inl rfl), if_pos (.inl rfl)]
    by_cases h1 : 1099511627776 < f
    · rw [failF_hi h1]; exact fail_half_hi f t now most opn h1 w
    · by_cases h2 : 0 < f
      · rw [failF_in h1 h2]; exact fail_half_in f t now most opn h1 h2 w
      · rw [failF_lo h2]; exact fail_half_lo f t now most opn h1 h2 w
  · by_cases h1 : 1099511627776 < f
    · rw [failF_hi h1]
      by_cases m1 : most < 1
      · rw [if_pos (.inr (by omega)), if_pos (.inr (by omega))]; exact fail_open_hi_one s f t now most opn hs h1 m1 w
      · by_cases hm : most ≤ 1099511627777
        · rw [if_pos (.inr (by omega)), if_pos (.inr (by omega))]; exact fail_open_hi_most s f t now most opn hs h1 m1 hm w
        · rw [if_neg (by omega), if_neg (by omega)]; exact fail_stay_hi_most s f t now most opn hs h1 m1 hm w
    · by_cases h2 : 0 < f
      · rw [failF_in h1 h2]
        by_cases m1 : most < 1
        · rw [if_pos (.inr (by omega)), if_pos (.inr (by omega))]; exact fail_open_in_one s f t now most opn hs h1 h2 m1 (by omega) w
        · by_cases hm : most ≤ f + 1
          · rw [if_pos (.inr (by omega)), if_pos (.inr (by omega))]; exact fail_open_in_most s f t now most opn hs h1 h2 m1 hm w
          · rw [if_neg (by omega), if_neg (by omega)]; exact fail_stay_in_most s f t now most opn hs h1 h2 m1 hm w
      · rw [failF_lo h2]
        by_cases m1 : most < 1
        · rw [if_pos (.inr (by omega)), if_pos (.inr (by omega))]; exact fail_open_lo_one s f t now most opn hs h1 h2 m1 w
        · by_cases hm : most ≤ 1
          · rw [if_pos (.inr (by omega)), if_pos (.inr (by omega))]; exact fail_open_lo_most s f t now most opn hs h1 h2 m1 hm w
          · rw [if_neg (by omega), if_neg (by omega)]; exact fail_stay_lo_most s f t now most opn hs h1 h2 m1 hm w
theorem fail_as (s f t now most opn a b c : Int) (ha : failS s f most = a) (hb : failF f = b) (hc : failU s f t now most opn = c) (w : World) :
    Calls Try.prog 21 #[brk s f t, .int .i64 now, .int .i64 most, .int .i64 opn] w fun e w' => e = .returned (brk a b c) ∧ Below w.heap.size w w' := by
  subst ha; subst hb; subst hc; exact fail_any s f t now most opn w
theorem send_as (s f t now a : Int) (h : sendS s t now = a) (w : World) :
    Calls Try.prog 18 #[brk s f t, .int .i64 now] w fun e w' => e = .returned (brk a f t) ∧ Below w.heap.size w w' := h ▸ send_any s f t now w

end Go.Proofs.Ytonfbkffngplcaa
