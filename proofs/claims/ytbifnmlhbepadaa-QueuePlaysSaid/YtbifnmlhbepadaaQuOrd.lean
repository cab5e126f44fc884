/- Package queue: the order of requests. -/
import Derived.Test.YtbifnmlhbepadaaQuMem
namespace Go.Proofs.Ytbifnmlhbepadaa
open Go Go.RowKit
set_option linter.unusedVariables false
set_option linter.unusedSimpArgs false
set_option maxRecDepth 10000

theorem cell_blk {w w' : World} {b : Nat} (h : w'.heap[b]? = w.heap[b]?) (j : Nat) : w'.cell? ⟨b, j, none⟩ = w.cell? ⟨b, j, none⟩ := by
  unfold World.cell?
  rw [h]
theorem frz_blk {w w' : World} {b : Nat} (h : w'.heap[b]? = w.heap[b]?) (j : Nat) : w'.frozen? ⟨b, j, none⟩ = w.frozen? ⟨b, j, none⟩ := by
  unfold World.frozen?
  rw [h]
theorem isNaN_at (x : Int) (w : World) : Calls Try.prog 61 #[.int .i64 x] w fun e w' => e = .returned (.bool false) ∧ w' = w := by
  have hx : (x != x) = false := by simp
  go_enter Try.func61, Try.ntmps61
  go_wp2
  go_ret
  exact ⟨rfl, rfl⟩
theorem compare_at (x y : Int) (w : World) : Calls Try.prog 53 #[.int .i64 x, .int .i64 y] w fun e w' => e = .returned (.int .i64 (cmpI x y)) ∧ w' = w := by
  have HN := Lib.hid (fun z W => isNaN_at z W)
  obtain ⟨v, hv⟩ : ∃ v, cmpI x y = v := ⟨_, rfl⟩
  have HV : Hid (v = if x < y then -1 else if y < x then 1 else 0) := Lib.hid (by rw [← hv]; rfl)
  rw [hv]
  clear hv
  go_enter Try.func53, Try.ntmps53
  go_wp2_with fail
  refine (HN.out _ _).mono ?_
  rintro e w1 ⟨rfl, rfl⟩
  go_wp2_with fail
  refine (HN.out _ _).mono ?_
  rintro e w2 ⟨rfl, rfl⟩
  by_cases h1 : x < y
  · have d1 : decide (x < y) = true := decide_eq_true h1
    obtain rfl : v = -1 := by rw [HV.out, if_pos h1]
    go_wp2
    go_ret
    exact ⟨rfl, rfl⟩
  · have d1 : decide (x < y) = false := decide_eq_false h1
    by_cases h2 : y < x
    · have d2 : decide (y < x) = true := decide_eq_true h2
      obtain rfl : v = 1 := by rw [HV.out, if_neg h1, if_pos h2]
      go_wp2
      go_ret
      exact ⟨rfl, rfl⟩
    · have d2 : decide (y < x) = false := decide_eq_false h2
      obtain rfl : v = 0 := by rw [HV.out, if_neg h1, if_neg h2]
      go_wp2
      go_ret
      exact ⟨rfl, rfl⟩
def orI (x y : Int) : Int := if x = 0 then y else x
theorem or_at (x y : Int) (g : Nat) (w : World) (h0 : w.cell? ⟨g, 0, none⟩ = some (.int .i64 x)) (h1 : w.cell? ⟨g, 1, none⟩ = some (.int .i64 y)) :
    Calls Try.prog 52 #[.slice (some ⟨g, 0, none⟩) 2 2] w fun e w' => e = .returned (.int .i64 (orI x y)) ∧ w' = w := by
  have H0 := Lib.hid h0
  have H1 := Lib.hid h1
  obtain ⟨v, hv⟩ : ∃ v, orI x y = v := ⟨_, rfl⟩
  have HV : Hid (v = if x = 0 then y else x) := Lib.hid (by rw [← hv]; rfl)
  rw [hv]
  clear hv h0 h1
  go_enter Try.func52, Try.ntmps52
  go_wp2_with fail
  go_loopw [5, 8] (fun _ j wr => ∃ k : Nat, k ≤ 2 ∧ j = .int .i64 (k : Int) ∧ wr = w ∧ Hid (1 ≤ k → x = 0) ∧ Hid (2 ≤ k → y = 0)) (fun _ j _ => 2 - (intOf j).toNat)
  case atStart => exact ⟨0, by omega, rfl, rfl, Lib.hid (fun h => by omega), Lib.hid (fun h => by omega)⟩
  case round =>
    obtain ⟨k, hk, rfl, rfl, K1, K2⟩ := hrel
    by_cases hlt : k < 2
    · have hkd : decide ((k : Int) < 2) = true := decide_eq_true (by omega)
      have hx0 : (0 : Int) ≤ (k : Int) := by omega
      obtain ⟨z, hz, hzz⟩ : ∃ z, wr.cell? ⟨g, k, none⟩ = some (.int .i64 z) ∧ ((k = 0 ∧ z = x) ∨ (k = 1 ∧ z = y)) := by
        rcases (by omega : k = 0 ∨ k = 1) with rfl | rfl
        · exact ⟨x, H0.out, Or.inl ⟨rfl, rfl⟩⟩
        · exact ⟨y, H1.out, Or.inr ⟨rfl, rfl⟩⟩
      have HZ := Lib.hid hzz
      clear hzz
      by_cases h0 : z = 0
      · have d0 : (z != 0) = false := by simp; exact h0
        have N1 : Hid (1 ≤ k + 1 → x = 0) := Lib.hid (fun _ => by
          rcases HZ.out with ⟨_, h⟩ | ⟨hk, _⟩
          · rw [← h]; exact h0
          · exact K1.out (by omega))
        have N2 : Hid (2 ≤ k + 1 → y = 0) := Lib.hid (fun h2 => by
          rcases HZ.out with ⟨hk, _⟩ | ⟨_, h⟩
          · omega
          · rw [← h]; exact h0)
        clear h0
        go_wp2
        go_roundw
        case rel => exact ⟨k + 1, by omega, by go_num, trivial, N1, N2⟩
        case measure =>
          simp only [intOf]
          omega
      · have d0 : (z != 0) = true := by simp; exact h0
        obtain rfl : v = z := by
          rw [HV.out]
          rcases HZ.out with ⟨_, h⟩ | ⟨hk, h⟩
          · subst h; rw [if_neg h0]
          · rw [if_pos (K1.out (by omega)), h]
        clear h0
        go_wp2
        go_ret
        exact ⟨rfl, rfl⟩
    · have hkd : decide ((k : Int) < 2) = false := decide_eq_false (by omega)
      obtain rfl : v = 0 := by rw [HV.out, if_pos (K1.out (by omega))]; exact K2.out (by omega)
      go_wp2
      go_ret
      exact ⟨rfl, rfl⟩
theorem ordI_or (a b : Rq) : ordI a b = orI (cmpI a.prio b.prio) (cmpI a.id b.id) := rfl
set_option maxHeartbeats 4000000 in
theorem order_at (a b : Rq) (w : World) : Calls Try.prog 32 #[.agg (rqA a), .agg (rqA b)] w fun e w' => e = .returned (.int .i64 (ordI a b)) ∧ Below w.heap.size w w' := by
  have BX := Lib.hid ((Box.new w (rqA a) 27).alloc (.cells (rqA b) 27))
  have BY : Hid (Box ((w.alloc (.cells (rqA a) 27)).alloc (.cells (rqA b) 27)) (w.heap.size + 1) (rqA b) 27) := Lib.hid (by simpa using Box.new (w.alloc (.cells (rqA a) 27)) (rqA b) 27)
  have BB := Lib.hid (((Below.refl w.heap.size w).alloc (Nat.le_refl _) (.cells (rqA a) 27)).alloc (by simp) (.cells (rqA b) 27))
  have C1 := Lib.hid (fun W => compare_at a.prio b.prio W)
  have C2 := Lib.hid (fun W => compare_at a.id b.id W)
  obtain ⟨x, hx⟩ : ∃ x, cmpI a.prio b.prio = x := ⟨_, rfl⟩
  obtain ⟨y, hy⟩ : ∃ y, cmpI a.id b.id = y := ⟨_, rfl⟩
  have HV : Hid (ordI a b = orI x y) := Lib.hid (by rw [ordI_or, hx, hy])
  obtain ⟨v, hv⟩ : ∃ v, ordI a b = v := ⟨_, rfl⟩
  rw [hv] at HV ⊢
  rw [hx] at C1
  rw [hy] at C2
  have CO := Lib.hid (fun g W h0 h1 => or_at x y g W h0 h1)
  clear hx hy hv
  unfold rqA at *
  obtain ⟨i, h, p, pr, t⟩ := a
  obtain ⟨i2, h2, p2, pr2, t2⟩ := b
  dsimp only at *
  go_enter Try.func32, Try.ntmps32
  go_upto_region 1 with fail
  obtain ⟨w1, hw1⟩ : ∃ W, (w.alloc (.cells #[.int .i64 i, .string h, .string p, .int .i64 pr, .int .i64 t] 27)).alloc (.cells #[.int .i64 i2, .string h2, .string p2, .int .i64 pr2, .int .i64 t2] 27) = W := ⟨_, rfl⟩
  rw [hw1] at BX BY BB
  rw [hw1]
  clear hw1
  have a0 := BX.out.cell 0
  have a3 := BX.out.cell 3
  have b0 := BY.out.cell 0
  have b3 := BY.out.cell 3
  have lA := BX.out.lt
  have lG := BY.out.lt
  clear BX BY
  obtain ⟨A, hA⟩ : ∃ A, w.heap.size = A := ⟨_, rfl⟩
  obtain ⟨G, hG⟩ : ∃ G, A + 1 = G := ⟨_, rfl⟩
  rw [hA] at a0 a3 b0 b3 lA lG BB ⊢
  rw [hG] at b0 b3 lG ⊢
  refine wp_region_last 12 (fun w' => w'.heap[A]? = w1.heap[A]? ∧ w'.heap[G]? = w1.heap[G]?) (by kernel_rfl) (⟨rfl, rfl⟩) (fun hHeld hClosed => ?_)
  refine wpAnyL_take (i := 0) (v := ?_) rfl (by kernel_rfl) (by kernel_rfl) (by kernel_rfl) (by kernel_rfl) (fun _ _ _ h => h) (by kernel_rfl) hClosed (Or.inl ⟨by rfl, ?_⟩) hHeld (fun hClosed => ?_)
  rotate_left
  · intro wv hSw; go_simp; all_goals (with_reducible rfl)
  (try simp only [List.getElem_toArray, List.getElem_cons_zero, put_at, List.set])
  refine wpAnyL_take (i := 1) (v := ?_) rfl (by kernel_rfl) (by kernel_rfl) (by kernel_rfl) (by kernel_rfl) (fun _ _ _ h => h) (by kernel_rfl) hClosed (Or.inl ⟨by rfl, ?_⟩) hHeld (fun hClosed => ?_)
  rotate_left
  · intro wv hSw; have e0 := cell_blk hSw.1 0; rw [a0] at e0; have e1 := cell_blk hSw.1 3; rw [a3] at e1; have e2 := cell_blk hSw.2 0; rw [b0] at e2; have e3 := cell_blk hSw.2 3; rw [b3] at e3; go_simp; all_goals (with_reducible rfl)
  (try simp only [List.getElem_toArray, List.getElem_cons_succ, List.getElem_cons_zero, put_at, List.set])
  refine wpAnyL_take (i := 2) (v := ?_) rfl (by kernel_rfl) (by kernel_rfl) (by kernel_rfl) (by kernel_rfl) (fun _ _ _ h => h) (by kernel_rfl) hClosed (Or.inl ⟨by rfl, ?_⟩) hHeld (fun hClosed => ?_)
  rotate_left
  · intro wv hSw; go_simp; all_goals (with_reducible rfl)
  (try simp only [List.getElem_toArray, List.getElem_cons_succ, List.getElem_cons_zero, put_at, List.set])
  refine wpAnyL_take (i := 3) (v := ?_) rfl (by kernel_rfl) (by kernel_rfl) (by kernel_rfl) (by kernel_rfl) (fun _ _ _ h => h) (by kernel_rfl) hClosed (Or.inl ⟨by rfl, ?_⟩) hHeld (fun hClosed => ?_)
  rotate_left
  · intro wv hSw; have e0 := cell_blk hSw.1 0; rw [a0] at e0; have e1 := cell_blk hSw.1 3; rw [a3] at e1; have e2 := cell_blk hSw.2 0; rw [b0] at e2; have e3 := cell_blk hSw.2 3; rw [b3] at e3; go_simp; all_goals (with_reducible rfl)
  (try simp only [List.getElem_toArray, List.getElem_cons_succ, List.getElem_cons_zero, put_at, List.set])
  refine wpAnyL_take (i := 5) (v := ?_) rfl (by kernel_rfl) (by kernel_rfl) (by kernel_rfl) (by kernel_rfl) (fun _ _ _ h => h) (by kernel_rfl) hClosed (Or.inl ⟨by rfl, ?_⟩) hHeld (fun hClosed => ?_)
  rotate_left
  · intro wv hSw; go_simp; all_goals (with_reducible rfl)
  (try simp only [List.getElem_toArray, List.getElem_cons_succ, List.getElem_cons_zero, put_at, List.set])
  refine wpAnyL_take (i := 6) (v := ?_) rfl (by kernel_rfl) (by kernel_rfl) (by kernel_rfl) (by kernel_rfl) (fun _ _ _ h => h) (by kernel_rfl) hClosed (Or.inl ⟨by rfl, ?_⟩) hHeld (fun hClosed => ?_)
  rotate_left
  · intro wv hSw; have e0 := cell_blk hSw.1 0; rw [a0] at e0; have e1 := cell_blk hSw.1 3; rw [a3] at e1; have e2 := cell_blk hSw.2 0; rw [b0] at e2; have e3 := cell_blk hSw.2 3; rw [b3] at e3; go_simp; all_goals (with_reducible rfl)
  (try simp only [List.getElem_toArray, List.getElem_cons_succ, List.getElem_cons_zero, put_at, List.set])
  refine wpAnyL_take (i := 7) (v := ?_) rfl (by kernel_rfl) (by kernel_rfl) (by kernel_rfl) (by kernel_rfl) (fun _ _ _ h => h) (by kernel_rfl) hClosed (Or.inl ⟨by rfl, ?_⟩) hHeld (fun hClosed => ?_)
  rotate_left
  · intro wv hSw; go_simp; all_goals (with_reducible rfl)
  (try simp only [List.getElem_toArray, List.getElem_cons_succ, List.getElem_cons_zero, put_at, List.set])
  refine wpAnyL_take (i := 8) (v := ?_) rfl (by kernel_rfl) (by kernel_rfl) (by kernel_rfl) (by kernel_rfl) (fun _ _ _ h => h) (by kernel_rfl) hClosed (Or.inl ⟨by rfl, ?_⟩) hHeld (fun hClosed => ?_)
  rotate_left
  · intro wv hSw; have e0 := cell_blk hSw.1 0; rw [a0] at e0; have e1 := cell_blk hSw.1 3; rw [a3] at e1; have e2 := cell_blk hSw.2 0; rw [b0] at e2; have e3 := cell_blk hSw.2 3; rw [b3] at e3; go_simp; all_goals (with_reducible rfl)
  (try simp only [List.getElem_toArray, List.getElem_cons_succ, List.getElem_cons_zero, put_at, List.set])
  refine wpAnyL_one (i := 4) rfl (by kernel_rfl) (by kernel_rfl) hClosed (fun KK hK => ?_)
  go_simp
  refine (C1.out _).mono ?_
  rintro e wq ⟨rfl, rfl⟩
  go_wp2_with fail
  refine hK.out _ _ ?_ (fun hClosed hHeld => ?_)
  · exact hHeld
  clear hK KK
  (first | simp only [List.getElem_toArray, List.getElem_cons_succ, List.getElem_cons_zero, put_at, List.set] | (try simp only [put_at, List.set]))
  refine wpAnyL_one (i := 9) rfl (by kernel_rfl) (by kernel_rfl) hClosed (fun KK hK => ?_)
  go_simp
  refine (C2.out _).mono ?_
  rintro e wq ⟨rfl, rfl⟩
  go_wp2_with fail
  refine hK.out _ _ ?_ (fun hClosed hHeld => ?_)
  · exact hHeld
  clear hK KK
  (first | simp only [List.getElem_toArray, List.getElem_cons_succ, List.getElem_cons_zero, put_at, List.set] | (try simp only [put_at, List.set]))
  refine wpAnyL_one (i := 10) rfl (by kernel_rfl) (by kernel_rfl) hClosed (fun KK hK => ?_)
  go_simp
  refine hK.out _ _ ?_ (fun hClosed hHeld => ?_)
  · exact ⟨(Below.heap_alloc _ _ A (by first | exact lA | simpa using lA)).trans hHeld.1, (Below.heap_alloc _ _ G (by first | exact lG | simpa using lG)).trans hHeld.2⟩
  clear hK KK
  (first | simp only [List.getElem_toArray, List.getElem_cons_succ, List.getElem_cons_zero, put_at, List.set] | (try simp only [put_at, List.set]))
  refine wpAnyL_one (i := 11) rfl (by kernel_rfl) (by kernel_rfl) hClosed (fun KK hK => ?_)
  go_simp
  refine (CO.out _ _ (by simp [World.cell?_alloc_new]) (by simp [World.cell?_alloc_new])).mono ?_
  rintro e wq ⟨rfl, rfl⟩
  go_wp2_with fail
  refine hK.out _ _ ?_ (fun hClosed hHeld => ?_)
  · exact hHeld
  clear hK KK
  (first | simp only [List.getElem_toArray, List.getElem_cons_succ, List.getElem_cons_zero, put_at, List.set] | (try simp only [put_at, List.set]))
  refine wpAnyL_last rfl (by kernel_rfl) (by kernel_rfl) (fun KK hK => ?_)
  go_simp
  refine hK.out _ _ ?_
  (try simp only [put_at, List.set])
  go_wp2
  go_ret
  exact ⟨by rw [HV.out]; rfl, by rw [hA]; exact BB.out.trans ((((Below.refl w1.heap.size w1).alloc (Nat.le_refl _) _).drew).mono (Nat.le_of_lt lA))⟩
end Go.Proofs.Ytbifnmlhbepadaa
