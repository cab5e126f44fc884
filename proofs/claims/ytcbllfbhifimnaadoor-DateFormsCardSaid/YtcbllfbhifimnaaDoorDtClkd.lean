/- The document's clock of a text. -/
import Derived.Test.YtcbllfbhifimnaaDoorDtCut
import Derived.Test.YtcbllfbhifimnaaDoorDtMon
namespace Go.Proofs.YtcbllfbhifimnaaDoor
open Go.RowKit
set_option linter.unusedVariables false
set_option linter.unusedSimpArgs false
set_option maxRecDepth 10000

theorem cutB_size (s : ByteArray) (a b : Nat) : (cutB s a b).size ≤ b - a := by
  unfold cutB
  split
  · exact Nat.zero_le _
  · split
    · simp; omega
    · simp; omega
set_option maxHeartbeats 4000000 in
theorem rclocked_at (y mo d h mi s vh vm vs : Int) (x : ByteArray) (h1 : rnumI (btL (cutB x 0 2)) = vh) (h2 : rnumI (btL (cutB x 3 5)) = vm) (h3 : rnumI (btL (cutB x 6 8)) = vs) (w : World) :
    Calls Tryd.prog 30 #[.agg #[.int .i64 y, .int .i64 mo, .int .i64 d, .int .i64 h, .int .i64 mi, .int .i64 s], .string x] w fun e w' => e = .returned (.agg #[.int .i64 y, .int .i64 mo, .int .i64 d, .int .i64 vh, .int .i64 vm, .int .i64 vs]) ∧ Below w.heap.size w w' := by
  obtain ⟨x1, hx1⟩ : ∃ c, cutB x 0 2 = c := ⟨_, rfl⟩
  obtain ⟨x2, hx2⟩ : ∃ c, cutB x 3 5 = c := ⟨_, rfl⟩
  obtain ⟨x3, hx3⟩ : ∃ c, cutB x 6 8 = c := ⟨_, rfl⟩
  have z1 := cutB_size x 0 2
  have z2 := cutB_size x 3 5
  have z3 := cutB_size x 6 8
  rw [hx1] at h1 z1
  rw [hx2] at h2 z2
  rw [hx3] at h3 z3
  have C1 := Lib.hid (fun W => rcut_at x x1 0 2 (by decide) hx1 W)
  have C2 := Lib.hid (fun W => rcut_at x x2 3 5 (by decide) hx2 W)
  have C3 := Lib.hid (fun W => rcut_at x x3 6 8 (by decide) hx3 W)
  have N1 := Lib.hid (fun W => rnum_at x1 vh h1 (by omega) W)
  have N2 := Lib.hid (fun W => rnum_at x2 vm h2 (by omega) W)
  have N3 := Lib.hid (fun W => rnum_at x3 vs h3 (by omega) W)
  clear hx1 hx2 hx3 z1 z2 z3 h1 h2 h3
  obtain ⟨g, hg⟩ : ∃ g, w.heap.size = g := ⟨_, rfl⟩
  go_enter Tryd.func30, Tryd.ntmps30
  go_wp2_with fail
  refine calls_forget (fun wx => Hid (Box wx g #[.int .i64 y, .int .i64 mo, .int .i64 d, .int .i64 h, .int .i64 mi, .int .i64 s] 24) ∧ Hid (Box wx (g + 1) #[.int .i64 0, .int .i64 0, .int .i64 0, .int .i64 0, .int .i64 0, .int .i64 0] 24) ∧ Hid (Below w.heap.size w wx)) ⟨Lib.hid ((dBox_new hg.symm).alloc _), Lib.hid (dBox_new (by simp; omega)), Lib.hid (((Below.refl _ _).alloc (Nat.le_refl _) _).alloc (by simp) _)⟩ ?_
  rintro w1 ⟨X1, Y1, B1⟩
  have HG : Hid (w.heap.size ≤ g) := Lib.hid (by omega)
  clear hg
  refine (C1.out _).mono ?_
  rintro e wx ⟨rfl, hw⟩
  subst wx
  go_wp2_with fail
  refine (N1.out _).mono ?_
  rintro e wx ⟨rfl, hw⟩
  subst wx
  go_wp2_with fail
  refine (C2.out _).mono ?_
  rintro e wx ⟨rfl, hw⟩
  subst wx
  go_wp2_with fail
  refine (N2.out _).mono ?_
  rintro e wx ⟨rfl, hw⟩
  subst wx
  go_wp2_with fail
  refine (C3.out _).mono ?_
  rintro e wx ⟨rfl, hw⟩
  subst wx
  go_wp2_with fail
  refine (N3.out _).mono ?_
  rintro e wx ⟨rfl, hw⟩
  subst wx
  have c := X1.out.cell
  have z := Y1.out.cell
  have c0 := c 0
  have z0 := z 0
  have e0 := X1.out.free 0
  have f0 := Y1.out.free 0
  have c1 := c 1
  have z1 := z 1
  have e1 := X1.out.free 1
  have f1 := Y1.out.free 1
  have c2 := c 2
  have z2 := z 2
  have e2 := X1.out.free 2
  have f2 := Y1.out.free 2
  have c3 := c 3
  have z3 := z 3
  have e3 := X1.out.free 3
  have f3 := Y1.out.free 3
  have c4 := c 4
  have z4 := z 4
  have e4 := X1.out.free 4
  have f4 := Y1.out.free 4
  have c5 := c 5
  have z5 := z 5
  have e5 := X1.out.free 5
  have f5 := Y1.out.free 5
  have gl := X1.out.lt
  have gl2 := Y1.out.lt
  simp only [List.getElem?_toArray, List.getElem?_cons_zero, List.getElem?_cons_succ] at c0 c1 c2 c3 c4 c5 z0 z1 z2 z3 z4 z5
  clear c z
  go_wp2
  exact bodyPost_ret (v := .agg #[.int .i64 y, .int .i64 mo, .int .i64 d, .int .i64 vh, .int .i64 vm, .int .i64 vs]) (by simp [results, Tryd.results30, go_sem, c0, c1, c2, c3, c4, c5, e0, e1, e2, e3, e4, e5, z0, z1, z2, z3, z4, z5, f0, f1, f2, f3, f4, f5, gl, gl2]) rfl ⟨rfl, (((((((((B1.out.setCell (p := ⟨g, 3, none⟩) HG.out _).setCell (p := ⟨g, 4, none⟩) HG.out _).setCell (p := ⟨g, 5, none⟩) HG.out _).setCell (p := ⟨g + 1, 0, none⟩) (Nat.le_succ_of_le HG.out) _).setCell (p := ⟨g + 1, 1, none⟩) (Nat.le_succ_of_le HG.out) _).setCell (p := ⟨g + 1, 2, none⟩) (Nat.le_succ_of_le HG.out) _).setCell (p := ⟨g + 1, 3, none⟩) (Nat.le_succ_of_le HG.out) _).setCell (p := ⟨g + 1, 4, none⟩) (Nat.le_succ_of_le HG.out) _).setCell (p := ⟨g + 1, 5, none⟩) (Nat.le_succ_of_le HG.out) _)⟩
end Go.Proofs.YtcbllfbhifimnaaDoor
