/- Package queue: Push, Back. -/
import Derived.Test.YtbifnmlhbepadaaQuFn
namespace Go.Proofs.Ytbifnmlhbepadaa
open Go Go.RowKit
set_option linter.unusedVariables false
set_option linter.unusedSimpArgs false
set_option maxRecDepth 10000

def PushP (B q : Nat) (a : Option Addr) (rs : List Rq) (most : Int) (r : Rq) (w : World) (e : Ending) (w' : World) : Prop :=
  (rs.any (idB r.id) = true ∧ e = .returned (.int .i64 10) ∧ Below w.heap.size w w') ∨
  (rs.any (idB r.id) = false ∧ most ≤ (rs.length : Int) ∧ e = .returned (.int .i64 5) ∧ Below w.heap.size w w') ∨
  (rs.any (idB r.id) = false ∧ ¬ most ≤ (rs.length : Int) ∧ e = .returned (.int .i64 0) ∧ ∃ a' cap', Qm w' B q a' cap' (insQ rs r) most ∧ TurnQ q a w a' w')
def BackP (B q : Nat) (a : Option Addr) (rs : List Rq) (most : Int) (r : Rq) (w : World) (e : Ending) (w' : World) : Prop :=
  (rs.any (idB r.id) = true ∧ e = .returned (.bool false) ∧ Below w.heap.size w w') ∨
  (rs.any (idB r.id) = false ∧ e = .returned (.bool true) ∧ ∃ a' cap', Qm w' B q a' cap' (insQ rs r) most ∧ TurnQ q a w a' w')
set_option maxHeartbeats 4000000 in
theorem push_at {w : World} {B q cap : Nat} {a : Option Addr} {rs : List Rq} {most : Int} (h : Qm w B q a cap rs most) (hs : Srt rs) (n : Nat) (hn : rs.length = n) (hn2 : n ≤ 999999) (hB : B ≤ w.heap.size) (r : Rq) :
    Calls Try.prog 10 #[.pointer (some ⟨q, 0, none⟩), .agg (rqA r)] w (PushP B q a rs most r w) := by
  have BN := Lib.hid (Box.new w (rqA r) 27)
  have BB := Lib.hid ((Below.refl w.heap.size w).alloc (Nat.le_refl _) (.cells (rqA r) 27))
  have FD : Hid (∀ W, Below w.heap.size w W → Calls Try.prog 29 #[.pointer (some ⟨q, 0, none⟩), .int .i64 r.id] W fun e w' => (∃ i : Int, e = .returned (.int .i64 i) ∧ decide (0 ≤ i) = rs.any (idB r.id)) ∧ Below W.heap.size W w') := Lib.hid (fun W hW => find_at (h.later hW) r.id)
  have CN : Hid (∀ W, Below w.heap.size w W → Calls Try.prog 30 #[.pointer (some ⟨q, 0, none⟩)] W fun e w' => e = .returned (.int .i64 (n : Int)) ∧ w' = W) := Lib.hid (fun W hW => by have := count_at (h.later hW); rw [hn] at this; exact this)
  have PT : Hid (∀ W, Below w.heap.size w W → Calls Try.prog 31 #[.pointer (some ⟨q, 0, none⟩), .agg (rqA r), .func (.func 32) #[] #[]] W fun e w' => e = .returned (.tuple #[]) ∧ ∃ a' cap', Qm w' B q a' cap' (insQ rs r) most ∧ TurnQ q a W a' w') := Lib.hid (fun W hW => insert_at (h.later hW) hs (by omega) (Nat.le_trans hB hW.size) r)
  have QM := Lib.hid h
  have hqw := h.box.lt
  obtain ⟨has, hhas⟩ : ∃ b, rs.any (idB r.id) = b := ⟨_, rfl⟩
  rw [hhas] at FD
  have HHAS := Lib.hid hhas
  have HN := Lib.hid hn
  clear h hs hn hhas
  obtain ⟨ra, hra⟩ : ∃ ra, rqA r = ra := ⟨_, rfl⟩
  rw [hra] at BN BB PT ⊢
  have HRA : Hid (ra = #[.int .i64 r.id, .string r.host, .string r.path, .int .i64 r.prio, .int .i64 r.til]) := Lib.hid (by rw [← hra]; rfl)
  clear hra
  obtain ⟨ri, rh, rp, rr, rt⟩ := r
  obtain rfl := HRA.out
  clear HRA
  dsimp only at FD
  go_enter Try.func10, Try.ntmps10
  go_upto_region 3 with fail
  obtain ⟨w1, hw1⟩ : ∃ W, w.alloc (.cells #[.int .i64 ri, .string rh, .string rp, .int .i64 rr, .int .i64 rt] 27) = W := ⟨_, rfl⟩
  rw [hw1] at BN BB
  rw [hw1]
  clear hw1
  have t0 := BN.out.cell 0
  have lT := BN.out.lt
  have WB := BB
  obtain ⟨T, hT⟩ : ∃ T, w.heap.size = T := ⟨_, rfl⟩
  rw [hT] at BN t0 lT hqw ⊢
  have lq : q < w1.heap.size := by omega
  refine wp_region_last 6 (fun w' => w'.heap[T]? = w1.heap[T]? ∧ w'.heap[q]? = w1.heap[q]?) (by kernel_rfl) (⟨rfl, rfl⟩) (fun hHeld hClosed => ?_)
  refine wpAnyL_take (i := 0) (v := ?_) rfl (by kernel_rfl) (by kernel_rfl) (by kernel_rfl) (by kernel_rfl) (fun _ _ _ h => h) (by kernel_rfl) hClosed (Or.inl ⟨by rfl, ?_⟩) hHeld (fun hClosed => ?_)
  rotate_left
  · intro wv hSw; go_simp; all_goals (with_reducible rfl)
  (try simp only [List.getElem_toArray, List.getElem_cons_zero, put_at, List.set])
  refine wpAnyL_take (i := 1) (v := ?_) rfl (by kernel_rfl) (by kernel_rfl) (by kernel_rfl) (by kernel_rfl) (fun _ _ _ h => h) (by kernel_rfl) hClosed (Or.inl ⟨by rfl, ?_⟩) hHeld (fun hClosed => ?_)
  rotate_left
  · intro wv hSw; go_simp; all_goals (with_reducible rfl)
  (try simp only [List.getElem_toArray, List.getElem_cons_succ, List.getElem_cons_zero, put_at, List.set])
  refine wpAnyL_take (i := 2) (v := ?_) rfl (by kernel_rfl) (by kernel_rfl) (by kernel_rfl) (by kernel_rfl) (fun _ _ _ h => h) (by kernel_rfl) hClosed (Or.inl ⟨by rfl, ?_⟩) hHeld (fun hClosed => ?_)
  rotate_left
  · intro wv hSw; go_simp; all_goals (with_reducible rfl)
  (try simp only [List.getElem_toArray, List.getElem_cons_succ, List.getElem_cons_zero, put_at, List.set])
  refine wpAnyL_take (i := 3) (v := ?_) rfl (by kernel_rfl) (by kernel_rfl) (by kernel_rfl) (by kernel_rfl) (fun _ _ _ h => h) (by kernel_rfl) hClosed (Or.inl ⟨by rfl, ?_⟩) hHeld (fun hClosed => ?_)
  rotate_left
  · intro wv hSw; go_simp; all_goals (with_reducible rfl)
  (try simp only [List.getElem_toArray, List.getElem_cons_succ, List.getElem_cons_zero, put_at, List.set])
  refine wpAnyL_take (i := 4) (v := ?_) rfl (by kernel_rfl) (by kernel_rfl) (by kernel_rfl) (by kernel_rfl) (fun _ _ _ h => h) (by kernel_rfl) hClosed (Or.inl ⟨by rfl, ?_⟩) hHeld (fun hClosed => ?_)
  rotate_left
  · intro wv hSw; have e0 := cell_blk hSw.1 0; rw [t0] at e0; go_simp; all_goals (with_reducible rfl)
  (try simp only [List.getElem_toArray, List.getElem_cons_succ, List.getElem_cons_zero, put_at, List.set])
  refine wpAnyL_one (i := 5) rfl (by kernel_rfl) (by kernel_rfl) hClosed (fun KK hK => ?_)
  go_simp
  refine (FD.out _ WB.out.drew).mono ?_
  rintro e wq ⟨⟨ix, rfl, hix⟩, hbq⟩
  go_wp2_with fail
  refine hK.out _ _ ?_ (fun hClosed hHeld => ?_)
  · exact ⟨(hbq.block T lT).trans hHeld.1, (hbq.block q lq).trans hHeld.2⟩
  clear hK KK
  (first | simp only [List.getElem_toArray, List.getElem_cons_succ, List.getElem_cons_zero, put_at, List.set] | (try simp only [put_at, List.set]))
  have BQ := Lib.hid (WB.out.drew.trans (hbq.mono WB.out.drew.size))
  have HIX := Lib.hid hix
  clear hbq hix FD
  refine wpAnyL_last rfl (by kernel_rfl) (by kernel_rfl) (fun KK hK => ?_)
  go_simp
  refine hK.out _ _ ?_
  (try simp only [put_at, List.set])
  cases has with
  | true =>
    have hx0 : (0 : Int) ≤ ix := of_decide_eq_true HIX.out
    have hx1 : decide (0 ≤ ix) = true := HIX.out
    go_wp2
    go_ret
    exact Or.inl ⟨HHAS.out, rfl, BQ.out⟩
  | false =>
    have hx0 : ¬ (0 : Int) ≤ ix := of_decide_eq_false HIX.out
    have hx1 : decide (0 ≤ ix) = false := HIX.out
    obtain ⟨wy, hwy⟩ : ∃ W, wq = W := ⟨_, rfl⟩
    rw [hwy] at BQ ⊢
    have y1 := (QM.out.later BQ.out).box.cell 1
    have BNY : Hid (Box wy T #[.int .i64 ri, .string rh, .string rp, .int .i64 rr, .int .i64 rt] 27) := Lib.hid (by rw [← hwy]; exact hHeld.1.trans BN.out)
    have lq2 : q < wy.heap.size := Nat.lt_of_lt_of_le (by omega : q < w.heap.size) BQ.out.size
    clear hwy hHeld hClosed t0 lT lq HIX
    go_upto_region 5 with fail
    refine wp_region_last 8 (fun w' => w'.heap[T]? = wy.heap[T]? ∧ w'.heap[q]? = wy.heap[q]?) (by kernel_rfl) (⟨rfl, rfl⟩) (fun hHeld hClosed => ?_)
    refine wpAnyL_take (i := 0) (v := ?_) rfl (by kernel_rfl) (by kernel_rfl) (by kernel_rfl) (by kernel_rfl) (fun _ _ _ h => h) (by kernel_rfl) hClosed (Or.inl ⟨by rfl, ?_⟩) hHeld (fun hClosed => ?_)
    rotate_left
    · intro wv hSw; go_simp; all_goals (with_reducible rfl)
    (try simp only [List.getElem_toArray, List.getElem_cons_zero, put_at, List.set])
    refine wpAnyL_take (i := 1) (v := ?_) rfl (by kernel_rfl) (by kernel_rfl) (by kernel_rfl) (by kernel_rfl) (fun _ _ _ h => h) (by kernel_rfl) hClosed (Or.inl ⟨by rfl, ?_⟩) hHeld (fun hClosed => ?_)
    rotate_left
    · intro wv hSw; go_simp; all_goals (with_reducible rfl)
    (try simp only [List.getElem_toArray, List.getElem_cons_succ, List.getElem_cons_zero, put_at, List.set])
    refine wpAnyL_take (i := 2) (v := ?_) rfl (by kernel_rfl) (by kernel_rfl) (by kernel_rfl) (by kernel_rfl) (fun _ _ _ h => h) (by kernel_rfl) hClosed (Or.inl ⟨by rfl, ?_⟩) hHeld (fun hClosed => ?_)
    rotate_left
    · intro wv hSw; go_simp; all_goals (with_reducible rfl)
    (try simp only [List.getElem_toArray, List.getElem_cons_succ, List.getElem_cons_zero, put_at, List.set])
    refine wpAnyL_take (i := 4) (v := ?_) rfl (by kernel_rfl) (by kernel_rfl) (by kernel_rfl) (by kernel_rfl) (fun _ _ _ h => h) (by kernel_rfl) hClosed (Or.inl ⟨by rfl, ?_⟩) hHeld (fun hClosed => ?_)
    rotate_left
    · intro wv hSw; go_simp; all_goals (with_reducible rfl)
    (try simp only [List.getElem_toArray, List.getElem_cons_succ, List.getElem_cons_zero, put_at, List.set])
    refine wpAnyL_take (i := 5) (v := ?_) rfl (by kernel_rfl) (by kernel_rfl) (by kernel_rfl) (by kernel_rfl) (fun _ _ _ h => h) (by kernel_rfl) hClosed (Or.inl ⟨by rfl, ?_⟩) hHeld (fun hClosed => ?_)
    rotate_left
    · intro wv hSw; go_simp; all_goals (with_reducible rfl)
    (try simp only [List.getElem_toArray, List.getElem_cons_succ, List.getElem_cons_zero, put_at, List.set])
    refine wpAnyL_take (i := 6) (v := ?_) rfl (by kernel_rfl) (by kernel_rfl) (by kernel_rfl) (by kernel_rfl) (fun _ _ _ h => h) (by kernel_rfl) hClosed (Or.inl ⟨by rfl, ?_⟩) hHeld (fun hClosed => ?_)
    rotate_left
    · intro wv hSw; go_simp; all_goals (with_reducible rfl)
    (try simp only [List.getElem_toArray, List.getElem_cons_succ, List.getElem_cons_zero, put_at, List.set])
    refine wpAnyL_take (i := 7) (v := ?_) rfl (by kernel_rfl) (by kernel_rfl) (by kernel_rfl) (by kernel_rfl) (fun _ _ _ h => h) (by kernel_rfl) hClosed (Or.inl ⟨by rfl, ?_⟩) hHeld (fun hClosed => ?_)
    rotate_left
    · intro wv hSw; have e0 := cell_blk hSw.2 1; rw [y1] at e0; go_simp; all_goals (with_reducible rfl)
    (try simp only [List.getElem_toArray, List.getElem_cons_succ, List.getElem_cons_zero, put_at, List.set])
    refine wpAnyL_one (i := 3) rfl (by kernel_rfl) (by kernel_rfl) hClosed (fun KK hK => ?_)
    go_simp
    refine (CN.out _ BQ.out.drew).mono ?_
    rintro e wq2 ⟨rfl, rfl⟩
    go_wp2_with fail
    refine hK.out _ _ ?_ (fun hClosed hHeld => ?_)
    · exact hHeld
    clear hK KK
    (first | simp only [List.getElem_toArray, List.getElem_cons_succ, List.getElem_cons_zero, put_at, List.set] | (try simp only [put_at, List.set]))
    clear CN
    refine wpAnyL_last rfl (by kernel_rfl) (by kernel_rfl) (fun KK hK => ?_)
    go_simp
    refine hK.out _ _ ?_
    (try simp only [put_at, List.set])
    obtain ⟨wz, hwz⟩ : ∃ W, wy.drew = W := ⟨_, rfl⟩
    have BNQ : Hid (Box wz T #[.int .i64 ri, .string rh, .string rp, .int .i64 rr, .int .i64 rt] 27) := Lib.hid (by rw [← hwz]; exact BNY.out)
    have BQ : Hid (Below w.heap.size w wz) := Lib.hid (by rw [← hwz]; exact BQ.out.drew)
    rw [hwz]
    clear hwz hHeld hClosed y1 BNY
    by_cases hm : most ≤ (n : Int)
    · have hmd : decide (most ≤ (n : Int)) = true := decide_eq_true hm
      go_wp2
      go_ret
      exact Or.inr (Or.inl ⟨HHAS.out, by rw [HN.out]; exact hm, rfl, BQ.out⟩)
    · have hmd : decide (most ≤ (n : Int)) = false := decide_eq_false hm
      have WZ := Lib.hid (BQ.out.drew)
      have BNZ := Lib.hid (show Box wz T #[.int .i64 ri, .string rh, .string rp, .int .i64 rr, .int .i64 rt] 27 from BNQ.out)
      have u0 := BNQ.out.cell 0
      have u1 := BNQ.out.cell 1
      have u2 := BNQ.out.cell 2
      have u3 := BNQ.out.cell 3
      have u4 := BNQ.out.cell 4
      have lT2 := BNQ.out.lt
      have lq2 : q < wz.heap.size := Nat.lt_of_lt_of_le (by omega) BQ.out.size
      try clear CN
      go_upto_region 7 with fail
      go_still_tail 4, (by kernel_rfl)
      change wpList _ _ _ _ _ wz.drew
      generalize wz.drew = w2 at WZ ⊢
      go_wp2_with fail
      refine (PT.out _ WZ.out).mono ?_
      rintro e w3 ⟨rfl, a', cap', hq, ht⟩
      have FIN := Lib.hid (⟨a', cap', hq, (TurnQ.of_below WZ.out).trans ht⟩ : ∃ a' cap', Qm w3 B q a' cap' (insQ rs ⟨ri, rh, rp, rr, rt⟩) most ∧ TurnQ q a w a' w3)
      clear hq ht PT WZ
      go_wp2
      go_ret
      exact Or.inr (Or.inr ⟨HHAS.out, by rw [HN.out]; omega, rfl, FIN.out⟩)
set_option maxHeartbeats 4000000 in
theorem back_at {w : World} {B q cap : Nat} {a : Option Addr} {rs : List Rq} {most : Int} (h : Qm w B q a cap rs most) (hs : Srt rs) (n : Nat) (hn : rs.length = n) (hn2 : n ≤ 999999) (hB : B ≤ w.heap.size) (r : Rq) :
    Calls Try.prog 12 #[.pointer (some ⟨q, 0, none⟩), .agg (rqA r)] w (BackP B q a rs most r w) := by
  have BN := Lib.hid (Box.new w (rqA r) 27)
  have BB := Lib.hid ((Below.refl w.heap.size w).alloc (Nat.le_refl _) (.cells (rqA r) 27))
  have FD : Hid (∀ W, Below w.heap.size w W → Calls Try.prog 29 #[.pointer (some ⟨q, 0, none⟩), .int .i64 r.id] W fun e w' => (∃ i : Int, e = .returned (.int .i64 i) ∧ decide (0 ≤ i) = rs.any (idB r.id)) ∧ Below W.heap.size W w') := Lib.hid (fun W hW => find_at (h.later hW) r.id)
  have CN : Hid (∀ W, Below w.heap.size w W → Calls Try.prog 30 #[.pointer (some ⟨q, 0, none⟩)] W fun e w' => e = .returned (.int .i64 (n : Int)) ∧ w' = W) := Lib.hid (fun W hW => by have := count_at (h.later hW); rw [hn] at this; exact this)
  have PT : Hid (∀ W, Below w.heap.size w W → Calls Try.prog 31 #[.pointer (some ⟨q, 0, none⟩), .agg (rqA r), .func (.func 32) #[] #[]] W fun e w' => e = .returned (.tuple #[]) ∧ ∃ a' cap', Qm w' B q a' cap' (insQ rs r) most ∧ TurnQ q a W a' w') := Lib.hid (fun W hW => insert_at (h.later hW) hs (by omega) (Nat.le_trans hB hW.size) r)
  have QM := Lib.hid h
  have hqw := h.box.lt
  obtain ⟨has, hhas⟩ : ∃ b, rs.any (idB r.id) = b := ⟨_, rfl⟩
  rw [hhas] at FD
  have HHAS := Lib.hid hhas
  have HN := Lib.hid hn
  clear h hs hn hhas
  obtain ⟨ra, hra⟩ : ∃ ra, rqA r = ra := ⟨_, rfl⟩
  rw [hra] at BN BB PT ⊢
  have HRA : Hid (ra = #[.int .i64 r.id, .string r.host, .string r.path, .int .i64 r.prio, .int .i64 r.til]) := Lib.hid (by rw [← hra]; rfl)
  clear hra
  obtain ⟨ri, rh, rp, rr, rt⟩ := r
  obtain rfl := HRA.out
  clear HRA
  dsimp only at FD
  go_enter Try.func12, Try.ntmps12
  go_upto_region 1 with fail
  obtain ⟨w1, hw1⟩ : ∃ W, w.alloc (.cells #[.int .i64 ri, .string rh, .string rp, .int .i64 rr, .int .i64 rt] 27) = W := ⟨_, rfl⟩
  rw [hw1] at BN BB
  rw [hw1]
  clear hw1
  have t0 := BN.out.cell 0
  have lT := BN.out.lt
  have WB := BB
  obtain ⟨T, hT⟩ : ∃ T, w.heap.size = T := ⟨_, rfl⟩
  rw [hT] at BN t0 lT hqw ⊢
  have lq : q < w1.heap.size := by omega
  refine wp_region_last 10 (fun w' => w'.heap[T]? = w1.heap[T]? ∧ w'.heap[q]? = w1.heap[q]?) (by kernel_rfl) (⟨rfl, rfl⟩) (fun hHeld hClosed => ?_)
  refine wpAnyL_take (i := 0) (v := ?_) rfl (by kernel_rfl) (by kernel_rfl) (by kernel_rfl) (by kernel_rfl) (fun _ _ _ h => h) (by kernel_rfl) hClosed (Or.inl ⟨by rfl, ?_⟩) hHeld (fun hClosed => ?_)
  rotate_left
  · intro wv hSw; go_simp; all_goals (with_reducible rfl)
  (try simp only [List.getElem_toArray, List.getElem_cons_zero, put_at, List.set])
  refine wpAnyL_take (i := 1) (v := ?_) rfl (by kernel_rfl) (by kernel_rfl) (by kernel_rfl) (by kernel_rfl) (fun _ _ _ h => h) (by kernel_rfl) hClosed (Or.inl ⟨by rfl, ?_⟩) hHeld (fun hClosed => ?_)
  rotate_left
  · intro wv hSw; go_simp; all_goals (with_reducible rfl)
  (try simp only [List.getElem_toArray, List.getElem_cons_succ, List.getElem_cons_zero, put_at, List.set])
  refine wpAnyL_take (i := 2) (v := ?_) rfl (by kernel_rfl) (by kernel_rfl) (by kernel_rfl) (by kernel_rfl) (fun _ _ _ h => h) (by kernel_rfl) hClosed (Or.inl ⟨by rfl, ?_⟩) hHeld (fun hClosed => ?_)
  rotate_left
  · intro wv hSw; go_simp; all_goals (with_reducible rfl)
  (try simp only [List.getElem_toArray, List.getElem_cons_succ, List.getElem_cons_zero, put_at, List.set])
  refine wpAnyL_take (i := 3) (v := ?_) rfl (by kernel_rfl) (by kernel_rfl) (by kernel_rfl) (by kernel_rfl) (fun _ _ _ h => h) (by kernel_rfl) hClosed (Or.inl ⟨by rfl, ?_⟩) hHeld (fun hClosed => ?_)
  rotate_left
  · intro wv hSw; go_simp; all_goals (with_reducible rfl)
  (try simp only [List.getElem_toArray, List.getElem_cons_succ, List.getElem_cons_zero, put_at, List.set])
  refine wpAnyL_take (i := 4) (v := ?_) rfl (by kernel_rfl) (by kernel_rfl) (by kernel_rfl) (by kernel_rfl) (fun _ _ _ h => h) (by kernel_rfl) hClosed (Or.inl ⟨by rfl, ?_⟩) hHeld (fun hClosed => ?_)
  rotate_left
  · intro wv hSw; go_simp; all_goals (with_reducible rfl)
  (try simp only [List.getElem_toArray, List.getElem_cons_succ, List.getElem_cons_zero, put_at, List.set])
  refine wpAnyL_take (i := 5) (v := ?_) rfl (by kernel_rfl) (by kernel_rfl) (by kernel_rfl) (by kernel_rfl) (fun _ _ _ h => h) (by kernel_rfl) hClosed (Or.inl ⟨by rfl, ?_⟩) hHeld (fun hClosed => ?_)
  rotate_left
  · intro wv hSw; go_simp; all_goals (with_reducible rfl)
  (try simp only [List.getElem_toArray, List.getElem_cons_succ, List.getElem_cons_zero, put_at, List.set])
  refine wpAnyL_take (i := 6) (v := ?_) rfl (by kernel_rfl) (by kernel_rfl) (by kernel_rfl) (by kernel_rfl) (fun _ _ _ h => h) (by kernel_rfl) hClosed (Or.inl ⟨by rfl, ?_⟩) hHeld (fun hClosed => ?_)
  rotate_left
  · intro wv hSw; go_simp; all_goals (with_reducible rfl)
  (try simp only [List.getElem_toArray, List.getElem_cons_succ, List.getElem_cons_zero, put_at, List.set])
  refine wpAnyL_take (i := 7) (v := ?_) rfl (by kernel_rfl) (by kernel_rfl) (by kernel_rfl) (by kernel_rfl) (fun _ _ _ h => h) (by kernel_rfl) hClosed (Or.inl ⟨by rfl, ?_⟩) hHeld (fun hClosed => ?_)
  rotate_left
  · intro wv hSw; have e0 := cell_blk hSw.1 0; rw [t0] at e0; go_simp; all_goals (with_reducible rfl)
  (try simp only [List.getElem_toArray, List.getElem_cons_succ, List.getElem_cons_zero, put_at, List.set])
  refine wpAnyL_one (i := 8) rfl (by kernel_rfl) (by kernel_rfl) hClosed (fun KK hK => ?_)
  go_simp
  refine (FD.out _ WB.out.drew).mono ?_
  rintro e wq ⟨⟨ix, rfl, hix⟩, hbq⟩
  go_wp2_with fail
  refine hK.out _ _ ?_ (fun hClosed hHeld => ?_)
  · exact ⟨(hbq.block T lT).trans hHeld.1, (hbq.block q lq).trans hHeld.2⟩
  clear hK KK
  (first | simp only [List.getElem_toArray, List.getElem_cons_succ, List.getElem_cons_zero, put_at, List.set] | (try simp only [put_at, List.set]))
  have BQ := Lib.hid (WB.out.drew.trans (hbq.mono WB.out.drew.size))
  have HIX := Lib.hid hix
  clear hbq hix FD
  refine wpAnyL_take (i := 9) (v := ?_) rfl (by kernel_rfl) (by kernel_rfl) (by kernel_rfl) (by kernel_rfl) (fun _ _ _ h => h) (by kernel_rfl) hClosed (Or.inl ⟨by rfl, ?_⟩) hHeld (fun hClosed => ?_)
  rotate_left
  · intro wv hSw; go_simp; all_goals (with_reducible rfl)
  (try simp only [List.getElem_toArray, List.getElem_cons_succ, List.getElem_cons_zero, put_at, List.set])
  refine wpAnyL_last rfl (by kernel_rfl) (by kernel_rfl) (fun KK hK => ?_)
  go_simp
  refine hK.out _ _ ?_
  (try simp only [put_at, List.set])
  cases has with
  | true =>
    have hx0 : (0 : Int) ≤ ix := of_decide_eq_true HIX.out
    have hx1 : decide (0 ≤ ix) = true := HIX.out
    go_wp2
    go_ret
    exact Or.inl ⟨HHAS.out, rfl, BQ.out⟩
  | false =>
    have hx0 : ¬ (0 : Int) ≤ ix := of_decide_eq_false HIX.out
    have hx1 : decide (0 ≤ ix) = false := HIX.out
    obtain ⟨wz, hwz⟩ : ∃ W, wq = W := ⟨_, rfl⟩
    have BNQ : Hid (Box wz T #[.int .i64 ri, .string rh, .string rp, .int .i64 rr, .int .i64 rt] 27) := Lib.hid (by rw [← hwz]; exact hHeld.1.trans BN.out)
    rw [hwz] at BQ ⊢
    clear hwz hHeld hClosed t0 lT lq HIX
    have WZ := Lib.hid (BQ.out.drew)
    have BNZ := Lib.hid (show Box wz T #[.int .i64 ri, .string rh, .string rp, .int .i64 rr, .int .i64 rt] 27 from BNQ.out)
    have u0 := BNQ.out.cell 0
    have u1 := BNQ.out.cell 1
    have u2 := BNQ.out.cell 2
    have u3 := BNQ.out.cell 3
    have u4 := BNQ.out.cell 4
    have lT2 := BNQ.out.lt
    have lq2 : q < wz.heap.size := Nat.lt_of_lt_of_le (by omega) BQ.out.size
    try clear CN
    go_upto_region 3 with fail
    go_still_tail 4, (by kernel_rfl)
    change wpList _ _ _ _ _ wz.drew
    generalize wz.drew = w2 at WZ ⊢
    go_wp2_with fail
    refine (PT.out _ WZ.out).mono ?_
    rintro e w3 ⟨rfl, a', cap', hq, ht⟩
    have FIN := Lib.hid (⟨a', cap', hq, (TurnQ.of_below WZ.out).trans ht⟩ : ∃ a' cap', Qm w3 B q a' cap' (insQ rs ⟨ri, rh, rp, rr, rt⟩) most ∧ TurnQ q a w a' w3)
    clear hq ht PT WZ
    go_wp2
    go_ret
    exact Or.inr ⟨HHAS.out, rfl, FIN.out⟩
end Go.Proofs.Ytbifnmlhbepadaa
