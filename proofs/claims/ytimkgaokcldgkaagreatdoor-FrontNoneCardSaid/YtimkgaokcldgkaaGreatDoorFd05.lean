/- Part of a chain: QuOrd. -/
import Derived.Test.YtimkgaokcldgkaaGreatDoorFd03
import Derived.Test.YtimkgaokcldgkaaGreatDoorFd04
/- Package queue: the order of requests. -/
namespace Go.Proofs.YtimkgaokcldgkaaGreatDoor
open Go Go.RowKit
set_option linter.unusedVariables false
set_option linter.unusedSimpArgs false
set_option maxRecDepth 10000

theorem ordI_or (a b : Rq) : ordI a b = orI (cmpI a.prio b.prio) (cmpI a.id b.id) := rfl
set_option maxHeartbeats 4000000 in
theorem order_at (a b : Rq) (w : World) : Calls Tryz.prog 74 #[.agg (rqA a), .agg (rqA b)] w fun e w' => e = .returned (.int .i64 (ordI a b)) ∧ Below w.heap.size w w' := by
  have BX := Lib.hid ((Box.new w (rqA a) 35).alloc (.cells (rqA b) 35))
  have BY : Hid (Box ((w.alloc (.cells (rqA a) 35)).alloc (.cells (rqA b) 35)) (w.heap.size + 1) (rqA b) 35) := Lib.hid (by simpa using Box.new (w.alloc (.cells (rqA a) 35)) (rqA b) 35)
  have BB := Lib.hid (((Below.refl w.heap.size w).alloc (Nat.le_refl _) (.cells (rqA a) 35)).alloc (by simp) (.cells (rqA b) 35))
  have C1 := Lib.hid (fun W => compare_at a.prio b.prio W)
  have C2 := Lib.hid (fun W => compare_at a.id b.id W)
  obtain ⟨x, hx⟩ : ∃ x, cmpI a.prio b.prio = x := ⟨_, rfl⟩
  obtain ⟨y, hy⟩ : ∃ y, cmpI a.id b.id = y := ⟨_, rfl⟩
  have HV : Hid (ordI a b = orI x y) := Lib.hid (by rw [ordI_or, hx, hy])
  obtain ⟨v, hv⟩ : ∃ v, ordI a b = v := ⟨_, rfl⟩
  rw [hv] at HV ⊢
  rw [hx] at C1
  rw [hy] at C2
  have CO := Lib.hid (fun g W h0 h1 => or_at x y g W h0 h1)
  clear hx hy hv
  unfold rqA at *
  obtain ⟨i, h, p, pr, t⟩ := a
  obtain ⟨i2, h2, p2, pr2, t2⟩ := b
  dsimp only at *
  go_enter Tryz.func74, Tryz.ntmps74
  go_upto_region 1 with fail
  obtain ⟨w1, hw1⟩ : ∃ W, (w.alloc (.cells #[.int .i64 i, .string h, .string p, .int .i64 pr, .int .i64 t] 35)).alloc (.cells #[.int .i64 i2, .string h2, .string p2, .int .i64 pr2, .int .i64 t2] 35) = W := ⟨_, rfl⟩
  rw [hw1] at BX BY BB
  rw [hw1]
  clear hw1
  have a0 := BX.out.cell 0
  have a3 := BX.out.cell 3
  have b0 := BY.out.cell 0
  have b3 := BY.out.cell 3
  have lA := BX.out.lt
  have lG := BY.out.lt
  clear BX BY
  obtain ⟨A, hA⟩ : ∃ A, w.heap.size = A := ⟨_, rfl⟩
  obtain ⟨G, hG⟩ : ∃ G, A + 1 = G := ⟨_, rfl⟩
  rw [hA] at a0 a3 b0 b3 lA lG BB ⊢
  rw [hG] at b0 b3 lG ⊢
  refine wp_region_last 12 (fun w' => w'.heap[A]? = w1.heap[A]? ∧ w'.heap[G]? = w1.heap[G]?) (by kernel_rfl) (⟨rfl, rfl⟩) (fun hHeld hClosed => ?_)
  refine wpAnyL_take (i := 0) (v := ?_) rfl (by kernel_rfl) (by kernel_rfl) (by kernel_rfl) (by kernel_rfl) (fun _ _ _ h => h) (by kernel_rfl) hClosed (Or.inl ⟨by rfl, ?_⟩) hHeld (fun hClosed => ?_)
  rotate_left
  · intro wv hSw; go_simp; all_goals (with_reducible rfl)
  (try simp only [List.getElem_toArray, List.getElem_cons_zero, put_at, List.set])
  refine wpAnyL_take (i := 1) (v := ?_) rfl (by kernel_rfl) (by kernel_rfl) (by kernel_rfl) (by kernel_rfl) (fun _ _ _ h => h) (by kernel_rfl) hClosed (Or.inl ⟨by rfl, ?_⟩) hHeld (fun hClosed => ?_)
  rotate_left
  · intro wv hSw; have e0 := cell_blk hSw.1 0; rw [a0] at e0; have e1 := cell_blk hSw.1 3; rw [a3] at e1; have e2 := cell_blk hSw.2 0; rw [b0] at e2; have e3 := cell_blk hSw.2 3; rw [b3] at e3; go_simp; all_goals (with_reducible rfl)
  (try simp only [List.getElem_toArray, List.getElem_cons_succ, List.getElem_cons_zero, put_at, List.set])
  refine wpAnyL_take (i := 2) (v := ?_) rfl (by kernel_rfl) (by kernel_rfl) (by kernel_rfl) (by kernel_rfl) (fun _ _ _ h => h) (by kernel_rfl) hClosed (Or.inl ⟨by rfl, ?_⟩) hHeld (fun hClosed => ?_)
  rotate_left
  · intro wv hSw; go_simp; all_goals (with_reducible rfl)
  (try simp only [List.getElem_toArray, List.getElem_cons_succ, List.getElem_cons_zero, put_at, List.set])
  refine wpAnyL_take (i := 3) (v := ?_) rfl (by kernel_rfl) (by kernel_rfl) (by kernel_rfl) (by kernel_rfl) (fun _ _ _ h => h) (by kernel_rfl) hClosed (Or.inl ⟨by rfl, ?_⟩) hHeld (fun hClosed => ?_)
  rotate_left
  · intro wv hSw; have e0 := cell_blk hSw.1 0; rw [a0] at e0; have e1 := cell_blk hSw.1 3; rw [a3] at e1; have e2 := cell_blk hSw.2 0; rw [b0] at e2; have e3 := cell_blk hSw.2 3; rw [b3] at e3; go_simp; all_goals (with_reducible rfl)
  (try simp only [List.getElem_toArray, List.getElem_cons_succ, List.getElem_cons_zero, put_at, List.set])
  refine wpAnyL_take (i := 5) (v := ?_) rfl (by kernel_rfl) (by kernel_rfl) (by kernel_rfl) (by kernel_rfl) (fun _ _ _ h => h) (by kernel_rfl) hClosed (Or.inl ⟨by rfl, ?_⟩) hHeld (fun hClosed => ?_)
  rotate_left
  · intro wv hSw; go_simp; all_goals (with_reducible rfl)
  (try simp only [List.getElem_toArray, List.getElem_cons_succ, List.getElem_cons_zero, put_at, List.set])
  refine wpAnyL_take (i := 6) (v := ?_) rfl (by kernel_rfl) (by kernel_rfl) (by kernel_rfl) (by kernel_rfl) (fun _ _ _ h => h) (by kernel_rfl) hClosed (Or.inl ⟨by rfl, ?_⟩) hHeld (fun hClosed => ?_)
  rotate_left
  · intro wv hSw; have e0 := cell_blk hSw.1 0; rw [a0] at e0; have e1 := cell_blk hSw.1 3; rw [a3] at e1; have e2 := cell_blk hSw.2 0; rw [b0] at e2; have e3 := cell_blk hSw.2 3; rw [b3] at e3; go_simp; all_goals (with_reducible rfl)
  (try simp only [List.getElem_toArray, List.getElem_cons_succ, List.getElem_cons_zero, put_at, List.set])
  refine wpAnyL_take (i := 7) (v := ?_) rfl (by kernel_rfl) (by kernel_rfl) (by kernel_rfl) (by kernel_rfl) (fun _ _ _ h => h) (by kernel_rfl) hClosed (Or.inl ⟨by rfl, ?_⟩) hHeld (fun hClosed => ?_)
  rotate_left
  · intro wv hSw; go_simp; all_goals (with_reducible rfl)
  (try simp only [List.getElem_toArray, List.getElem_cons_succ, List.getElem_cons_zero, put_at, List.set])
  refine wpAnyL_take (i := 8) (v := ?_) rfl (by kernel_rfl) (by kernel_rfl) (by kernel_rfl) (by kernel_rfl) (fun _ _ _ h => h) (by kernel_rfl) hClosed (Or.inl ⟨by rfl, ?_⟩) hHeld (fun hClosed => ?_)
  rotate_left
  · intro wv hSw; have e0 := cell_blk hSw.1 0; rw [a0] at e0; have e1 := cell_blk hSw.1 3; rw [a3] at e1; have e2 := cell_blk hSw.2 0; rw [b0] at e2; have e3 := cell_blk hSw.2 3; rw [b3] at e3; go_simp; all_goals (with_reducible rfl)
  (try simp only [List.getElem_toArray, List.getElem_cons_succ, List.getElem_cons_zero, put_at, List.set])
  refine wpAnyL_one (i := 4) rfl (by kernel_rfl) (by kernel_rfl) hClosed (fun KK hK => ?_)
  go_simp
  refine (C1.out _).mono ?_
  rintro e wq ⟨rfl, rfl⟩
  go_wp2_with fail
  refine hK.out _ _ ?_ (fun hClosed hHeld => ?_)
  · exact hHeld
  clear hK KK
  (first | simp only [List.getElem_toArray, List.getElem_cons_succ, List.getElem_cons_zero, put_at, List.set] | (try simp only [put_at, List.set]))
  refine wpAnyL_one (i := 9) rfl (by kernel_rfl) (by kernel_rfl) hClosed (fun KK hK => ?_)
  go_simp
  refine (C2.out _).mono ?_
  rintro e wq ⟨rfl, rfl⟩
  go_wp2_with fail
  refine hK.out _ _ ?_ (fun hClosed hHeld => ?_)
  · exact hHeld
  clear hK KK
  (first | simp only [List.getElem_toArray, List.getElem_cons_succ, List.getElem_cons_zero, put_at, List.set] | (try simp only [put_at, List.set]))
  refine wpAnyL_one (i := 10) rfl (by kernel_rfl) (by kernel_rfl) hClosed (fun KK hK => ?_)
  go_simp
  refine hK.out _ _ ?_ (fun hClosed hHeld => ?_)
  · exact ⟨(Below.heap_alloc _ _ A (by first | exact lA | simpa using lA)).trans hHeld.1, (Below.heap_alloc _ _ G (by first | exact lG | simpa using lG)).trans hHeld.2⟩
  clear hK KK
  (first | simp only [List.getElem_toArray, List.getElem_cons_succ, List.getElem_cons_zero, put_at, List.set] | (try simp only [put_at, List.set]))
  refine wpAnyL_one (i := 11) rfl (by kernel_rfl) (by kernel_rfl) hClosed (fun KK hK => ?_)
  go_simp
  refine (CO.out _ _ (by simp [World.cell?_alloc_new]) (by simp [World.cell?_alloc_new])).mono ?_
  rintro e wq ⟨rfl, rfl⟩
  go_wp2_with fail
  refine hK.out _ _ ?_ (fun hClosed hHeld => ?_)
  · exact hHeld
  clear hK KK
  (first | simp only [List.getElem_toArray, List.getElem_cons_succ, List.getElem_cons_zero, put_at, List.set] | (try simp only [put_at, List.set]))
  refine wpAnyL_last rfl (by kernel_rfl) (by kernel_rfl) (fun KK hK => ?_)
  go_simp
  refine hK.out _ _ ?_
  (try simp only [put_at, List.set])
  go_wp2
  go_ret
  exact ⟨by rw [HV.out]; rfl, by rw [hA]; exact BB.out.trans ((((Below.refl w1.heap.size w1).alloc (Nat.le_refl _) _).drew).mono (Nat.le_of_lt lA))⟩
end Go.Proofs.YtimkgaokcldgkaaGreatDoor
