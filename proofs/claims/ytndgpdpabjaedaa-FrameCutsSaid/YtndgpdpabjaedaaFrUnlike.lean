/- The law on unlike records, walked. -/
import Derived.Test.YtndgpdpabjaedaaFrScans
namespace Go.Proofs.Ytndgpdpabjaedaa
open Go.RowKit
set_option linter.unusedSimpArgs false
set_option linter.unusedVariables false

theorem str_ne {a b : ByteArray} (h : a ≠ b) : (a.toList == b.toList) = false := by
  rw [ByteArray.toList_eq, ByteArray.toList_eq]
  simp only [beq_eq_false_iff_ne, ne_eq]
  intro e
  exact h (ByteArray.ext (Array.toList_inj.1 e))
theorem text_eq {a b : ByteArray} (h : a.toList = b.toList) : a = b := by
  rw [ByteArray.toList_eq, ByteArray.toList_eq] at h
  exact ByteArray.ext (Array.toList_inj.1 h)
theorem rc_eq {x y : Rc} (h1 : x.kind = y.kind) (h2 : x.id = y.id) (h3 : x.host.toList = y.host.toList) (h4 : x.path.toList = y.path.toList) (h5 : x.prio = y.prio) (h6 : x.till = y.till) : x = y := by
  have h3 := text_eq h3
  have h4 := text_eq h4
  obtain ⟨a1, a2, a3, a4, a5, a6⟩ := x
  obtain ⟨b1, b2, b3, b4, b5, b6⟩ := y
  simp_all
theorem unlike_of {x y : Rc} (hx : soundR x) (hy : soundR y) (fx : FitR x) (fy : FitR y) (hne : x ≠ y) : strL ((encR y).take (encR x).length) ≠ strL (encR x) := by
  intro e
  have h1 : (encR y).take (encR x).length = encR x := by
    have := congrArg btL e
    rwa [btL_strL ((encR_byts hy).take _), btL_strL (encR_byts hx)] at this
  have h2 := dec_enc hx fx ((encR y).drop (encR x).length)
  have h3 := dec_enc hy fy []
  have h4 : encR x ++ (encR y).drop (encR x).length = encR y ++ [] := by
    rw [List.append_nil]
    conv => lhs; lhs; rw [← h1]
    exact List.take_append_drop _ _
  rw [h4, h3] at h2
  injection h2 with h2
  injection h2 with h2 _
  exact hne h2.symm

set_option maxHeartbeats 2000000 in
theorem frameUnlike_out (x y : Rc) (w : World) (hx : RecOk x) (hy : RecOk y) (h : 3000 < wrap64 (wrap64 (wrap64 ((x.host.size : Int) + (x.path.size : Int)) + (y.host.size : Int)) + (y.path.size : Int))) : Calls Try.prog 8 #[.agg #[.int .i64 x.kind, .int .i64 x.id, .string x.host, .string x.path, .int .i64 x.prio, .int .i64 x.till], .agg #[.int .i64 y.kind, .int .i64 y.id, .string y.host, .string y.path, .int .i64 y.prio, .int .i64 y.till]] w fun e w' => e = .returned (.bool true) ∧ Below w.heap.size w w' := by
  obtain ⟨_, _, _, _, hh1, hp1⟩ := hx
  obtain ⟨_, _, _, _, hh2, hp2⟩ := hy
  have hz : Below w.heap.size w ((w.alloc (.cells #[.int .i64 x.kind, .int .i64 x.id, .string x.host, .string x.path, .int .i64 x.prio, .int .i64 x.till] 25)).alloc (.cells #[.int .i64 y.kind, .int .i64 y.id, .string y.host, .string y.path, .int .i64 y.prio, .int .i64 y.till] 25)) := ((Below.refl _ _).alloc (Nat.le_refl _) _).alloc (by simp) _
  obtain ⟨W, hW⟩ : ∃ W, wrap64 (wrap64 (wrap64 ((x.host.size : Int) + (x.path.size : Int)) + (y.host.size : Int)) + (y.path.size : Int)) = W := ⟨_, rfl⟩
  rw [hW] at h
  have hd1 : decide (3000 < W) = true := decide_eq_true h
  go_enter Try.func8, Try.ntmps8
  go_wp2_with fail
  refine (awake14 _).mono ?_
  rintro e wa ⟨rfl, hba⟩
  go_wp2_with fail
  go_ret
  exact ⟨rfl, hz.trans (hba.mono (by simp; omega))⟩

set_option maxHeartbeats 2000000 in
theorem frameUnlike_00 (x y : Rc) (w : World) (hx : RecOk x) (hy : RecOk y) (h : ¬ 3000 < wrap64 (wrap64 (wrap64 ((x.host.size : Int) + (x.path.size : Int)) + (y.host.size : Int)) + (y.path.size : Int))) (hxs : ¬ soundR x) (hys : ¬ soundR y) : Calls Try.prog 8 #[.agg #[.int .i64 x.kind, .int .i64 x.id, .string x.host, .string x.path, .int .i64 x.prio, .int .i64 x.till], .agg #[.int .i64 y.kind, .int .i64 y.id, .string y.host, .string y.path, .int .i64 y.prio, .int .i64 y.till]] w fun e w' => e = .returned (.bool true) ∧ Below w.heap.size w w' := by
  obtain ⟨_, _, _, _, hh1, hp1⟩ := hx
  obtain ⟨_, _, _, _, hh2, hp2⟩ := hy
  have hz : Below w.heap.size w ((w.alloc (.cells #[.int .i64 x.kind, .int .i64 x.id, .string x.host, .string x.path, .int .i64 x.prio, .int .i64 x.till] 25)).alloc (.cells #[.int .i64 y.kind, .int .i64 y.id, .string y.host, .string y.path, .int .i64 y.prio, .int .i64 y.till] 25)) := ((Below.refl _ _).alloc (Nat.le_refl _) _).alloc (by simp) _
  obtain ⟨W, hW⟩ : ∃ W, wrap64 (wrap64 (wrap64 ((x.host.size : Int) + (x.path.size : Int)) + (y.host.size : Int)) + (y.path.size : Int)) = W := ⟨_, rfl⟩
  rw [hW] at h
  have hd1 : decide (3000 < W) = false := decide_eq_false h
  go_enter Try.func8, Try.ntmps8
  go_wp2_with fail
  refine (enc_no x _ hxs).mono ?_
  rintro e w1 ⟨rfl, hb1⟩
  have z1 : Box w1 (w.heap.size + 1) #[.int .i64 y.kind, .int .i64 y.id, .string y.host, .string y.path, .int .i64 y.prio, .int .i64 y.till] 25 := by
    have := (Box.new (w.alloc (.cells #[.int .i64 x.kind, .int .i64 x.id, .string x.host, .string x.path, .int .i64 x.prio, .int .i64 x.till] 25)) #[.int .i64 y.kind, .int .i64 y.id, .string y.host, .string y.path, .int .i64 y.prio, .int .i64 y.till] 25).later hb1
    simpa using this
  have B1 := hz.trans (hb1.mono (by simp; omega))
  obtain ⟨lz, cz, fz⟩ := z1.facts
  go_wp2_with fail
  refine (enc_no y _ hys).mono ?_
  rintro e w2 ⟨rfl, hb2⟩
  have B2 := B1.trans (hb2.mono B1.size)
  clear lz cz fz
  go_wp2_with fail
  refine (awake14 _).mono ?_
  rintro e wa ⟨rfl, hba⟩
  go_wp2_with fail
  go_ret
  exact ⟨rfl, B2.trans (hba.mono B2.size)⟩

set_option maxHeartbeats 2000000 in
theorem frameUnlike_01 (x y : Rc) (w : World) (hx : RecOk x) (hy : RecOk y) (h : ¬ 3000 < wrap64 (wrap64 (wrap64 ((x.host.size : Int) + (x.path.size : Int)) + (y.host.size : Int)) + (y.path.size : Int))) (hxs : ¬ soundR x) (hys : soundR y) : Calls Try.prog 8 #[.agg #[.int .i64 x.kind, .int .i64 x.id, .string x.host, .string x.path, .int .i64 x.prio, .int .i64 x.till], .agg #[.int .i64 y.kind, .int .i64 y.id, .string y.host, .string y.path, .int .i64 y.prio, .int .i64 y.till]] w fun e w' => e = .returned (.bool true) ∧ Below w.heap.size w w' := by
  obtain ⟨_, _, _, _, hh1, hp1⟩ := hx
  obtain ⟨_, _, _, _, hh2, hp2⟩ := hy
  have hz : Below w.heap.size w ((w.alloc (.cells #[.int .i64 x.kind, .int .i64 x.id, .string x.host, .string x.path, .int .i64 x.prio, .int .i64 x.till] 25)).alloc (.cells #[.int .i64 y.kind, .int .i64 y.id, .string y.host, .string y.path, .int .i64 y.prio, .int .i64 y.till] 25)) := ((Below.refl _ _).alloc (Nat.le_refl _) _).alloc (by simp) _
  obtain ⟨Ey, hEy⟩ : ∃ E, encR y = E := ⟨_, rfl⟩
  obtain ⟨ny, hny⟩ : ∃ n, Ey.length = n := ⟨_, rfl⟩
  have HEy := Lib.hid hEy
  have HNy := Lib.hid hny
  clear hEy hny
  obtain ⟨W, hW⟩ : ∃ W, wrap64 (wrap64 (wrap64 ((x.host.size : Int) + (x.path.size : Int)) + (y.host.size : Int)) + (y.path.size : Int)) = W := ⟨_, rfl⟩
  rw [hW] at h
  have hd1 : decide (3000 < W) = false := decide_eq_false h
  go_enter Try.func8, Try.ntmps8
  go_wp2_with fail
  refine (enc_no x _ hxs).mono ?_
  rintro e w1 ⟨rfl, hb1⟩
  have z1 : Box w1 (w.heap.size + 1) #[.int .i64 y.kind, .int .i64 y.id, .string y.host, .string y.path, .int .i64 y.prio, .int .i64 y.till] 25 := by
    have := (Box.new (w.alloc (.cells #[.int .i64 x.kind, .int .i64 x.id, .string x.host, .string x.path, .int .i64 x.prio, .int .i64 x.till] 25)) #[.int .i64 y.kind, .int .i64 y.id, .string y.host, .string y.path, .int .i64 y.prio, .int .i64 y.till] 25).later hb1
    simpa using this
  have B1 := hz.trans (hb1.mono (by simp; omega))
  obtain ⟨lz, cz, fz⟩ := z1.facts
  go_wp2_with fail
  refine (enc_as y Ey ny HEy.out HNy.out _ hys).mono ?_
  rintro e w2 ⟨gy, cy, rfl, hoy, hb2⟩
  have B2 := B1.trans (hb2.mono B1.size)
  clear lz cz fz
  go_wp2_with fail
  refine (awake14 _).mono ?_
  rintro e wa ⟨rfl, hba⟩
  go_wp2_with fail
  go_ret
  exact ⟨rfl, B2.trans (hba.mono B2.size)⟩

set_option maxHeartbeats 2000000 in
theorem frameUnlike_10 (x y : Rc) (w : World) (hx : RecOk x) (hy : RecOk y) (h : ¬ 3000 < wrap64 (wrap64 (wrap64 ((x.host.size : Int) + (x.path.size : Int)) + (y.host.size : Int)) + (y.path.size : Int))) (hxs : soundR x) (hys : ¬ soundR y) : Calls Try.prog 8 #[.agg #[.int .i64 x.kind, .int .i64 x.id, .string x.host, .string x.path, .int .i64 x.prio, .int .i64 x.till], .agg #[.int .i64 y.kind, .int .i64 y.id, .string y.host, .string y.path, .int .i64 y.prio, .int .i64 y.till]] w fun e w' => e = .returned (.bool true) ∧ Below w.heap.size w w' := by
  obtain ⟨_, _, _, _, hh1, hp1⟩ := hx
  obtain ⟨_, _, _, _, hh2, hp2⟩ := hy
  have hz : Below w.heap.size w ((w.alloc (.cells #[.int .i64 x.kind, .int .i64 x.id, .string x.host, .string x.path, .int .i64 x.prio, .int .i64 x.till] 25)).alloc (.cells #[.int .i64 y.kind, .int .i64 y.id, .string y.host, .string y.path, .int .i64 y.prio, .int .i64 y.till] 25)) := ((Below.refl _ _).alloc (Nat.le_refl _) _).alloc (by simp) _
  obtain ⟨Ex, hEx⟩ : ∃ E, encR x = E := ⟨_, rfl⟩
  obtain ⟨nx, hnx⟩ : ∃ n, Ex.length = n := ⟨_, rfl⟩
  have HEx := Lib.hid hEx
  have HNx := Lib.hid hnx
  clear hEx hnx
  obtain ⟨W, hW⟩ : ∃ W, wrap64 (wrap64 (wrap64 ((x.host.size : Int) + (x.path.size : Int)) + (y.host.size : Int)) + (y.path.size : Int)) = W := ⟨_, rfl⟩
  rw [hW] at h
  have hd1 : decide (3000 < W) = false := decide_eq_false h
  go_enter Try.func8, Try.ntmps8
  go_wp2_with fail
  refine (enc_as x Ex nx HEx.out HNx.out _ hxs).mono ?_
  rintro e w1 ⟨gx, cx, rfl, hox, hb1⟩
  have z1 : Box w1 (w.heap.size + 1) #[.int .i64 y.kind, .int .i64 y.id, .string y.host, .string y.path, .int .i64 y.prio, .int .i64 y.till] 25 := by
    have := (Box.new (w.alloc (.cells #[.int .i64 x.kind, .int .i64 x.id, .string x.host, .string x.path, .int .i64 x.prio, .int .i64 x.till] 25)) #[.int .i64 y.kind, .int .i64 y.id, .string y.host, .string y.path, .int .i64 y.prio, .int .i64 y.till] 25).later hb1
    simpa using this
  have B1 := hz.trans (hb1.mono (by simp; omega))
  obtain ⟨lz, cz, fz⟩ := z1.facts
  go_wp2_with fail
  refine (enc_no y _ hys).mono ?_
  rintro e w2 ⟨rfl, hb2⟩
  have B2 := B1.trans (hb2.mono B1.size)
  clear lz cz fz
  go_wp2_with fail
  refine (awake14 _).mono ?_
  rintro e wa ⟨rfl, hba⟩
  go_wp2_with fail
  go_ret
  exact ⟨rfl, B2.trans (hba.mono B2.size)⟩

set_option maxHeartbeats 2000000 in
theorem frameUnlike_11 (x y : Rc) (w : World) (hx : RecOk x) (hy : RecOk y) (hxs : soundR x) (hys : soundR y) : Calls Try.prog 8 #[.agg #[.int .i64 x.kind, .int .i64 x.id, .string x.host, .string x.path, .int .i64 x.prio, .int .i64 x.till], .agg #[.int .i64 y.kind, .int .i64 y.id, .string y.host, .string y.path, .int .i64 y.prio, .int .i64 y.till]] w fun e w' => e = .returned (.bool true) ∧ Below w.heap.size w w' := by
  have hfx := hx.fit
  have hfy := hy.fit
  obtain ⟨_, _, _, _, hh1, hp1⟩ := hx
  obtain ⟨_, _, _, _, hh2, hp2⟩ := hy
  have hz : Below w.heap.size w ((w.alloc (.cells #[.int .i64 x.kind, .int .i64 x.id, .string x.host, .string x.path, .int .i64 x.prio, .int .i64 x.till] 25)).alloc (.cells #[.int .i64 y.kind, .int .i64 y.id, .string y.host, .string y.path, .int .i64 y.prio, .int .i64 y.till] 25)) := ((Below.refl _ _).alloc (Nat.le_refl _) _).alloc (by simp) _
  obtain ⟨_, _, _, _, _, _, sx7, sx8⟩ := id hxs
  obtain ⟨_, _, _, _, _, _, sy7, sy8⟩ := id hys
  have hun := unlike_of hxs hys hfx hfy
  have hEB : Byts (encR x) := encR_byts hxs
  obtain ⟨Ex, hEx⟩ : ∃ E, encR x = E := ⟨_, rfl⟩
  obtain ⟨nx, hnx⟩ : ∃ n, Ex.length = n := ⟨_, rfl⟩
  have hbx : nx ≤ 3000 ∧ 26 ≤ nx := by
    rw [← hnx, ← hEx]
    refine ⟨?_, encR_ge _⟩
    unfold encR
    rw [recB_length, contR_length]
    omega
  obtain ⟨Ey, hEy⟩ : ∃ E, encR y = E := ⟨_, rfl⟩
  obtain ⟨ny, hny⟩ : ∃ n, Ey.length = n := ⟨_, rfl⟩
  have hby : ny ≤ 3000 ∧ 26 ≤ ny := by
    rw [← hny, ← hEy]
    refine ⟨?_, encR_ge _⟩
    unfold encR
    rw [recB_length, contR_length]
    omega
  rw [hEx, hEy, hnx] at hun
  have hsm : x = y → Ey.take nx = Ex := fun e => by rw [← hEx, ← hEy, ← hnx, ← hEx, e, List.take_length]
  have HUN := Lib.hid hun
  have HSM := Lib.hid hsm
  clear hun hsm
  have HEx := Lib.hid hEx
  have HNx := Lib.hid hnx
  clear hEx hnx
  have HEy := Lib.hid hEy
  have HNy := Lib.hid hny
  clear hEy hny
  have hd1 : decide (3000 < (x.host.size : Int) + (x.path.size : Int) + (y.host.size : Int) + (y.path.size : Int)) = false := decide_eq_false (by omega)
  go_enter Try.func8, Try.ntmps8
  go_wp2_with fail
  refine (enc_as x Ex nx HEx.out HNx.out _ hxs).mono ?_
  rintro e w1 ⟨gx, cx, rfl, hox, hb1⟩
  have zx1 : Box w1 w.heap.size #[.int .i64 x.kind, .int .i64 x.id, .string x.host, .string x.path, .int .i64 x.prio, .int .i64 x.till] 25 := ((Box.new w #[.int .i64 x.kind, .int .i64 x.id, .string x.host, .string x.path, .int .i64 x.prio, .int .i64 x.till] 25).alloc _).later hb1
  have zy1 : Box w1 (w.heap.size + 1) #[.int .i64 y.kind, .int .i64 y.id, .string y.host, .string y.path, .int .i64 y.prio, .int .i64 y.till] 25 := by
    have := (Box.new (w.alloc (.cells #[.int .i64 x.kind, .int .i64 x.id, .string x.host, .string x.path, .int .i64 x.prio, .int .i64 x.till] 25)) #[.int .i64 y.kind, .int .i64 y.id, .string y.host, .string y.path, .int .i64 y.prio, .int .i64 y.till] 25).later hb1
    simpa using this
  have B1 := hz.trans (hb1.mono (by simp; omega))
  obtain ⟨lz, cz, fz⟩ := zy1.facts
  go_wp2_with fail
  refine (enc_as y Ey ny HEy.out HNy.out _ hys).mono ?_
  rintro e w2 ⟨gy, cy, rfl, hoy, hb2⟩
  have B2 := B1.trans (hb2.mono B1.size)
  have HZX := Lib.hid (zx1.later hb2)
  have HZY := Lib.hid (zy1.later hb2)
  have HOX := Lib.hid (hox.later hb2)
  have HOY := Lib.hid hoy
  have hcy := hoy.cap_le
  rw [HNy.out] at hcy
  clear lz cz fz zx1 zy1 hox hoy hb1 hb2 B1
  by_cases hgt : ny < nx
  · have hd2 : decide ((ny : Int) < (nx : Int)) = true := decide_eq_true (by omega)
    have hd3 : decide (ny < nx) = true := decide_eq_true hgt
    go_wp2_with fail
    refine (awake14 _).mono ?_
    rintro e wa ⟨rfl, hba⟩
    go_wp2_with fail
    go_ret
    exact ⟨rfl, B2.trans (hba.mono B2.size)⟩
  · have hd2 : decide ((ny : Int) < (nx : Int)) = false := decide_eq_false (by omega)
    have hd3 : decide (ny < nx) = false := decide_eq_false hgt
    have hi : (nx : Int) ≤ (cy : Int) := by omega
    have hi2 : nx ≤ cy := by omega
    have HTL : Hid ((Ey.take nx).length = nx) := Lib.hid (by rw [List.length_take, HNy.out]; omega)
    obtain ⟨s1, hs1⟩ : ∃ s, strL (Ey.take nx) = s := ⟨_, rfl⟩
    obtain ⟨s2, hs2⟩ : ∃ s, strL Ex = s := ⟨_, rfl⟩
    have HS1 := Lib.hid hs1
    have HS2 := Lib.hid hs2
    clear hs1 hs2
    go_wp2_with fail
    by_cases hxy : x = y
    · have hss : s1 = s2 := by rw [← HS1.out, ← HS2.out, HSM.out hxy]
      subst hss
      subst hxy
      refine wp_region_last 15 (fun w' => Below w2.heap.size w2 w') (by kernel_rfl) (Below.drew (Below.refl _ _)) (fun hHeld hClosed => ?_)
      refine wpAnyL_one (i := 0) rfl (by kernel_rfl) (by kernel_rfl) hClosed (fun KK hK => ?_)
      go_simp
      refine (awake14 _).mono ?_
      rintro e wa ⟨rfl, hba⟩
      go_wp2_with fail
      refine hK.out _ _ ?_ (fun hClosed hHeld => ?_)
      · exact hHeld.trans (hba.mono hHeld.size)
      clear hK KK
      (first | simp only [List.getElem_toArray, List.getElem_cons_zero, put_at, List.set] | (try simp only [put_at, List.set]))
      refine wpAnyL_take (i := 1) (v := ?_) rfl (by kernel_rfl) (by kernel_rfl) (by kernel_rfl) (by kernel_rfl) (fun _ _ _ h => h) (by kernel_rfl) hClosed (Or.inl ⟨by rfl, ?_⟩) hHeld (fun hClosed => ?_)
      rotate_left
      · intro wv hSw; go_simp; all_goals (with_reducible rfl)
      (try simp only [List.getElem_toArray, List.getElem_cons_succ, List.getElem_cons_zero, put_at, List.set])
      refine wpAnyL_take (i := 2) (v := ?_) rfl (by kernel_rfl) (by kernel_rfl) (by kernel_rfl) (by kernel_rfl) (fun _ _ _ h => h) (by kernel_rfl) hClosed (Or.inl ⟨by rfl, ?_⟩) hHeld (fun hClosed => ?_)
      rotate_left
      · intro wv hSw; go_simp; all_goals (with_reducible rfl)
      (try simp only [List.getElem_toArray, List.getElem_cons_succ, List.getElem_cons_zero, put_at, List.set])
      refine wpAnyL_take (i := 3) (v := ?_) rfl (by kernel_rfl) (by kernel_rfl) (by kernel_rfl) (by kernel_rfl) (fun _ _ _ h => h) (by kernel_rfl) hClosed (Or.inl ⟨by rfl, ?_⟩) hHeld (fun hClosed => ?_)
      rotate_left
      · intro wv hSw; go_simp; all_goals (with_reducible rfl)
      (try simp only [List.getElem_toArray, List.getElem_cons_succ, List.getElem_cons_zero, put_at, List.set])
      refine wpAnyL_take (i := 4) (v := ?_) rfl (by kernel_rfl) (by kernel_rfl) (by kernel_rfl) (by kernel_rfl) (fun _ _ _ h => h) (by kernel_rfl) hClosed (Or.inl ⟨by rfl, ?_⟩) hHeld (fun hClosed => ?_)
      rotate_left
      · intro wv hSw; go_simp; all_goals (with_reducible rfl)
      (try simp only [List.getElem_toArray, List.getElem_cons_succ, List.getElem_cons_zero, put_at, List.set])
      refine wpAnyL_take (i := 5) (v := ?_) rfl (by kernel_rfl) (by kernel_rfl) (by kernel_rfl) (by kernel_rfl) (fun _ _ _ h => h) (by kernel_rfl) hClosed (Or.inl ⟨by rfl, ?_⟩) hHeld (fun hClosed => ?_)
      rotate_left
      · intro wv hSw; go_simp; all_goals (with_reducible rfl)
      (try simp only [List.getElem_toArray, List.getElem_cons_succ, List.getElem_cons_zero, put_at, List.set])
      refine wpAnyL_take (i := 6) (v := ?_) rfl (by kernel_rfl) (by kernel_rfl) (by kernel_rfl) (by kernel_rfl) (fun _ _ _ h => h) (by kernel_rfl) hClosed (Or.inl ⟨by rfl, ?_⟩) hHeld (fun hClosed => ?_)
      rotate_left
      · intro wv hSw; have hzx := HZX.out.later hSw; obtain ⟨lx, cx', fx⟩ := hzx.facts; have hzy := HZY.out.later hSw; obtain ⟨ly, cy', fy⟩ := hzy.facts; have hX := ((HOY.out.later hSw).rd.take nx).text (P := Try.prog) 27 5 9 Try.underlying27 Try.underlying5 Try.underlying9 (fun _ => Or.inr ⟨_, _, rfl⟩) cy; rw [HTL.out, HS1.out] at hX; have hY := (HOX.out.later hSw).rd.text (P := Try.prog) 27 5 9 Try.underlying27 Try.underlying5 Try.underlying9 (fun _ => Or.inr ⟨_, _, rfl⟩) cx; rw [HNx.out, HS2.out] at hY; go_simp; all_goals (with_reducible rfl)
      (try simp only [List.getElem_toArray, List.getElem_cons_succ, List.getElem_cons_zero, put_at, List.set])
      refine wpAnyL_take (i := 7) (v := ?_) rfl (by kernel_rfl) (by kernel_rfl) (by kernel_rfl) (by kernel_rfl) (fun _ _ _ h => h) (by kernel_rfl) hClosed (Or.inl ⟨by rfl, ?_⟩) hHeld (fun hClosed => ?_)
      rotate_left
      · intro wv hSw; go_simp; all_goals (with_reducible rfl)
      (try simp only [List.getElem_toArray, List.getElem_cons_succ, List.getElem_cons_zero, put_at, List.set])
      refine wpAnyL_take (i := 8) (v := ?_) rfl (by kernel_rfl) (by kernel_rfl) (by kernel_rfl) (by kernel_rfl) (fun _ _ _ h => h) (by kernel_rfl) hClosed (Or.inl ⟨by rfl, ?_⟩) hHeld (fun hClosed => ?_)
      rotate_left
      · intro wv hSw; have hzx := HZX.out.later hSw; obtain ⟨lx, cx', fx⟩ := hzx.facts; have hzy := HZY.out.later hSw; obtain ⟨ly, cy', fy⟩ := hzy.facts; have hX := ((HOY.out.later hSw).rd.take nx).text (P := Try.prog) 27 5 9 Try.underlying27 Try.underlying5 Try.underlying9 (fun _ => Or.inr ⟨_, _, rfl⟩) cy; rw [HTL.out, HS1.out] at hX; have hY := (HOX.out.later hSw).rd.text (P := Try.prog) 27 5 9 Try.underlying27 Try.underlying5 Try.underlying9 (fun _ => Or.inr ⟨_, _, rfl⟩) cx; rw [HNx.out, HS2.out] at hY; go_simp; all_goals (with_reducible rfl)
      (try simp only [List.getElem_toArray, List.getElem_cons_succ, List.getElem_cons_zero, put_at, List.set])
      refine wpAnyL_take (i := 9) (v := ?_) rfl (by kernel_rfl) (by kernel_rfl) (by kernel_rfl) (by kernel_rfl) (fun _ _ _ h => h) (by kernel_rfl) hClosed (Or.inl ⟨by rfl, ?_⟩) hHeld (fun hClosed => ?_)
      rotate_left
      · intro wv hSw; go_simp; all_goals (with_reducible rfl)
      (try simp only [List.getElem_toArray, List.getElem_cons_succ, List.getElem_cons_zero, put_at, List.set])
      refine wpAnyL_take (i := 10) (v := ?_) rfl (by kernel_rfl) (by kernel_rfl) (by kernel_rfl) (by kernel_rfl) (fun _ _ _ h => h) (by kernel_rfl) hClosed (Or.inl ⟨by rfl, ?_⟩) hHeld (fun hClosed => ?_)
      rotate_left
      · intro wv hSw; have hzx := HZX.out.later hSw; obtain ⟨lx, cx', fx⟩ := hzx.facts; have hzy := HZY.out.later hSw; obtain ⟨ly, cy', fy⟩ := hzy.facts; have hX := ((HOY.out.later hSw).rd.take nx).text (P := Try.prog) 27 5 9 Try.underlying27 Try.underlying5 Try.underlying9 (fun _ => Or.inr ⟨_, _, rfl⟩) cy; rw [HTL.out, HS1.out] at hX; have hY := (HOX.out.later hSw).rd.text (P := Try.prog) 27 5 9 Try.underlying27 Try.underlying5 Try.underlying9 (fun _ => Or.inr ⟨_, _, rfl⟩) cx; rw [HNx.out, HS2.out] at hY; go_simp; all_goals (with_reducible rfl)
      (try simp only [List.getElem_toArray, List.getElem_cons_succ, List.getElem_cons_zero, put_at, List.set])
      refine wpAnyL_take (i := 11) (v := ?_) rfl (by kernel_rfl) (by kernel_rfl) (by kernel_rfl) (by kernel_rfl) (fun _ _ _ h => h) (by kernel_rfl) hClosed (Or.inl ⟨by rfl, ?_⟩) hHeld (fun hClosed => ?_)
      rotate_left
      · intro wv hSw; have hzx := HZX.out.later hSw; obtain ⟨lx, cx', fx⟩ := hzx.facts; have hzy := HZY.out.later hSw; obtain ⟨ly, cy', fy⟩ := hzy.facts; have hX := ((HOY.out.later hSw).rd.take nx).text (P := Try.prog) 27 5 9 Try.underlying27 Try.underlying5 Try.underlying9 (fun _ => Or.inr ⟨_, _, rfl⟩) cy; rw [HTL.out, HS1.out] at hX; have hY := (HOX.out.later hSw).rd.text (P := Try.prog) 27 5 9 Try.underlying27 Try.underlying5 Try.underlying9 (fun _ => Or.inr ⟨_, _, rfl⟩) cx; rw [HNx.out, HS2.out] at hY; go_simp; all_goals (with_reducible rfl)
      (try simp only [List.getElem_toArray, List.getElem_cons_succ, List.getElem_cons_zero, put_at, List.set])
      refine wpAnyL_take (i := 12) (v := ?_) rfl (by kernel_rfl) (by kernel_rfl) (by kernel_rfl) (by kernel_rfl) (fun _ _ _ h => h) (by kernel_rfl) hClosed (Or.inl ⟨by rfl, ?_⟩) hHeld (fun hClosed => ?_)
      rotate_left
      · intro wv hSw; go_simp; all_goals (with_reducible rfl)
      (try simp only [List.getElem_toArray, List.getElem_cons_succ, List.getElem_cons_zero, put_at, List.set])
      refine wpAnyL_take (i := 13) (v := ?_) rfl (by kernel_rfl) (by kernel_rfl) (by kernel_rfl) (by kernel_rfl) (fun _ _ _ h => h) (by kernel_rfl) hClosed (Or.inl ⟨by rfl, ?_⟩) hHeld (fun hClosed => ?_)
      rotate_left
      · intro wv hSw; go_simp; all_goals (with_reducible rfl)
      (try simp only [List.getElem_toArray, List.getElem_cons_succ, List.getElem_cons_zero, put_at, List.set])
      refine wpAnyL_take (i := 14) (v := ?_) rfl (by kernel_rfl) (by kernel_rfl) (by kernel_rfl) (by kernel_rfl) (fun _ _ _ h => h) (by kernel_rfl) hClosed (Or.inl ⟨by rfl, ?_⟩) hHeld (fun hClosed => ?_)
      rotate_left
      · intro wv hSw; go_simp; all_goals (with_reducible rfl)
      (try simp only [List.getElem_toArray, List.getElem_cons_succ, List.getElem_cons_zero, put_at, List.set])
      refine wpAnyL_last rfl (by kernel_rfl) (by kernel_rfl) (fun KK hK => ?_)
      go_simp
      refine hK.out _ _ ?_
      (try simp only [put_at, List.set])
      go_wp2_with fail
      go_ret
      exact ⟨rfl, B2.trans (hHeld.mono B2.size)⟩
    · have hne := str_ne (show s1 ≠ s2 by rw [← HS1.out, ← HS2.out]; exact HUN.out hxy)
      have HXY := Lib.hid hxy
      clear hxy
      refine wp_region_last 15 (fun w' => Below w2.heap.size w2 w') (by kernel_rfl) (Below.drew (Below.refl _ _)) (fun hHeld hClosed => ?_)
      refine wpAnyL_one (i := 0) rfl (by kernel_rfl) (by kernel_rfl) hClosed (fun KK hK => ?_)
      go_simp
      refine (awake14 _).mono ?_
      rintro e wa ⟨rfl, hba⟩
      go_wp2_with fail
      refine hK.out _ _ ?_ (fun hClosed hHeld => ?_)
      · exact hHeld.trans (hba.mono hHeld.size)
      clear hK KK
      (first | simp only [List.getElem_toArray, List.getElem_cons_zero, put_at, List.set] | (try simp only [put_at, List.set]))
      refine wpAnyL_take (i := 1) (v := ?_) rfl (by kernel_rfl) (by kernel_rfl) (by kernel_rfl) (by kernel_rfl) (fun _ _ _ h => h) (by kernel_rfl) hClosed (Or.inl ⟨by rfl, ?_⟩) hHeld (fun hClosed => ?_)
      rotate_left
      · intro wv hSw; go_simp; all_goals (with_reducible rfl)
      (try simp only [List.getElem_toArray, List.getElem_cons_succ, List.getElem_cons_zero, put_at, List.set])
      refine wpAnyL_take (i := 2) (v := ?_) rfl (by kernel_rfl) (by kernel_rfl) (by kernel_rfl) (by kernel_rfl) (fun _ _ _ h => h) (by kernel_rfl) hClosed (Or.inl ⟨by rfl, ?_⟩) hHeld (fun hClosed => ?_)
      rotate_left
      · intro wv hSw; go_simp; all_goals (with_reducible rfl)
      (try simp only [List.getElem_toArray, List.getElem_cons_succ, List.getElem_cons_zero, put_at, List.set])
      refine wpAnyL_take (i := 3) (v := ?_) rfl (by kernel_rfl) (by kernel_rfl) (by kernel_rfl) (by kernel_rfl) (fun _ _ _ h => h) (by kernel_rfl) hClosed (Or.inl ⟨by rfl, ?_⟩) hHeld (fun hClosed => ?_)
      rotate_left
      · intro wv hSw; go_simp; all_goals (with_reducible rfl)
      (try simp only [List.getElem_toArray, List.getElem_cons_succ, List.getElem_cons_zero, put_at, List.set])
      refine wpAnyL_take (i := 4) (v := ?_) rfl (by kernel_rfl) (by kernel_rfl) (by kernel_rfl) (by kernel_rfl) (fun _ _ _ h => h) (by kernel_rfl) hClosed (Or.inl ⟨by rfl, ?_⟩) hHeld (fun hClosed => ?_)
      rotate_left
      · intro wv hSw; go_simp; all_goals (with_reducible rfl)
      (try simp only [List.getElem_toArray, List.getElem_cons_succ, List.getElem_cons_zero, put_at, List.set])
      refine wpAnyL_take (i := 5) (v := ?_) rfl (by kernel_rfl) (by kernel_rfl) (by kernel_rfl) (by kernel_rfl) (fun _ _ _ h => h) (by kernel_rfl) hClosed (Or.inl ⟨by rfl, ?_⟩) hHeld (fun hClosed => ?_)
      rotate_left
      · intro wv hSw; go_simp; all_goals (with_reducible rfl)
      (try simp only [List.getElem_toArray, List.getElem_cons_succ, List.getElem_cons_zero, put_at, List.set])
      refine wpAnyL_take (i := 6) (v := ?_) rfl (by kernel_rfl) (by kernel_rfl) (by kernel_rfl) (by kernel_rfl) (fun _ _ _ h => h) (by kernel_rfl) hClosed (Or.inl ⟨by rfl, ?_⟩) hHeld (fun hClosed => ?_)
      rotate_left
      · intro wv hSw; have hzx := HZX.out.later hSw; obtain ⟨lx, cx', fx⟩ := hzx.facts; have hzy := HZY.out.later hSw; obtain ⟨ly, cy', fy⟩ := hzy.facts; have hX := ((HOY.out.later hSw).rd.take nx).text (P := Try.prog) 27 5 9 Try.underlying27 Try.underlying5 Try.underlying9 (fun _ => Or.inr ⟨_, _, rfl⟩) cy; rw [HTL.out, HS1.out] at hX; have hY := (HOX.out.later hSw).rd.text (P := Try.prog) 27 5 9 Try.underlying27 Try.underlying5 Try.underlying9 (fun _ => Or.inr ⟨_, _, rfl⟩) cx; rw [HNx.out, HS2.out] at hY; go_simp; all_goals (with_reducible rfl)
      (try simp only [List.getElem_toArray, List.getElem_cons_succ, List.getElem_cons_zero, put_at, List.set])
      refine wpAnyL_take (i := 7) (v := ?_) rfl (by kernel_rfl) (by kernel_rfl) (by kernel_rfl) (by kernel_rfl) (fun _ _ _ h => h) (by kernel_rfl) hClosed (Or.inl ⟨by rfl, ?_⟩) hHeld (fun hClosed => ?_)
      rotate_left
      · intro wv hSw; go_simp; all_goals (with_reducible rfl)
      (try simp only [List.getElem_toArray, List.getElem_cons_succ, List.getElem_cons_zero, put_at, List.set])
      refine wpAnyL_take (i := 8) (v := ?_) rfl (by kernel_rfl) (by kernel_rfl) (by kernel_rfl) (by kernel_rfl) (fun _ _ _ h => h) (by kernel_rfl) hClosed (Or.inl ⟨by rfl, ?_⟩) hHeld (fun hClosed => ?_)
      rotate_left
      · intro wv hSw; have hzx := HZX.out.later hSw; obtain ⟨lx, cx', fx⟩ := hzx.facts; have hzy := HZY.out.later hSw; obtain ⟨ly, cy', fy⟩ := hzy.facts; have hX := ((HOY.out.later hSw).rd.take nx).text (P := Try.prog) 27 5 9 Try.underlying27 Try.underlying5 Try.underlying9 (fun _ => Or.inr ⟨_, _, rfl⟩) cy; rw [HTL.out, HS1.out] at hX; have hY := (HOX.out.later hSw).rd.text (P := Try.prog) 27 5 9 Try.underlying27 Try.underlying5 Try.underlying9 (fun _ => Or.inr ⟨_, _, rfl⟩) cx; rw [HNx.out, HS2.out] at hY; go_simp; all_goals (with_reducible rfl)
      (try simp only [List.getElem_toArray, List.getElem_cons_succ, List.getElem_cons_zero, put_at, List.set])
      refine wpAnyL_take (i := 9) (v := ?_) rfl (by kernel_rfl) (by kernel_rfl) (by kernel_rfl) (by kernel_rfl) (fun _ _ _ h => h) (by kernel_rfl) hClosed (Or.inl ⟨by rfl, ?_⟩) hHeld (fun hClosed => ?_)
      rotate_left
      · intro wv hSw; go_simp; all_goals (with_reducible rfl)
      (try simp only [List.getElem_toArray, List.getElem_cons_succ, List.getElem_cons_zero, put_at, List.set])
      refine wpAnyL_take (i := 10) (v := ?_) rfl (by kernel_rfl) (by kernel_rfl) (by kernel_rfl) (by kernel_rfl) (fun _ _ _ h => h) (by kernel_rfl) hClosed (Or.inl ⟨by rfl, ?_⟩) hHeld (fun hClosed => ?_)
      rotate_left
      · intro wv hSw; have hzx := HZX.out.later hSw; obtain ⟨lx, cx', fx⟩ := hzx.facts; have hzy := HZY.out.later hSw; obtain ⟨ly, cy', fy⟩ := hzy.facts; have hX := ((HOY.out.later hSw).rd.take nx).text (P := Try.prog) 27 5 9 Try.underlying27 Try.underlying5 Try.underlying9 (fun _ => Or.inr ⟨_, _, rfl⟩) cy; rw [HTL.out, HS1.out] at hX; have hY := (HOX.out.later hSw).rd.text (P := Try.prog) 27 5 9 Try.underlying27 Try.underlying5 Try.underlying9 (fun _ => Or.inr ⟨_, _, rfl⟩) cx; rw [HNx.out, HS2.out] at hY; go_simp; all_goals (with_reducible rfl)
      (try simp only [List.getElem_toArray, List.getElem_cons_succ, List.getElem_cons_zero, put_at, List.set])
      refine wpAnyL_take (i := 11) (v := ?_) rfl (by kernel_rfl) (by kernel_rfl) (by kernel_rfl) (by kernel_rfl) (fun _ _ _ h => h) (by kernel_rfl) hClosed (Or.inl ⟨by rfl, ?_⟩) hHeld (fun hClosed => ?_)
      rotate_left
      · intro wv hSw; have hzx := HZX.out.later hSw; obtain ⟨lx, cx', fx⟩ := hzx.facts; have hzy := HZY.out.later hSw; obtain ⟨ly, cy', fy⟩ := hzy.facts; have hX := ((HOY.out.later hSw).rd.take nx).text (P := Try.prog) 27 5 9 Try.underlying27 Try.underlying5 Try.underlying9 (fun _ => Or.inr ⟨_, _, rfl⟩) cy; rw [HTL.out, HS1.out] at hX; have hY := (HOX.out.later hSw).rd.text (P := Try.prog) 27 5 9 Try.underlying27 Try.underlying5 Try.underlying9 (fun _ => Or.inr ⟨_, _, rfl⟩) cx; rw [HNx.out, HS2.out] at hY; go_simp; all_goals (with_reducible rfl)
      (try simp only [List.getElem_toArray, List.getElem_cons_succ, List.getElem_cons_zero, put_at, List.set])
      refine wpAnyL_take (i := 12) (v := .bool false) rfl (by kernel_rfl) (by kernel_rfl) (by kernel_rfl) (by kernel_rfl) (fun _ _ _ h => h) (by kernel_rfl) hClosed (Or.inl ⟨by rfl, ?_⟩) hHeld (fun hClosed => ?_)
      · intro wv hSw; go_simp; intro h1 h2 h3 h4 h5 h6; exact HXY.out (rc_eq h1 h2 h3 h4 h5 h6)
      (try simp only [List.getElem_toArray, List.getElem_cons_succ, List.getElem_cons_zero, put_at, List.set])
      refine wpAnyL_take (i := 13) (v := ?_) rfl (by kernel_rfl) (by kernel_rfl) (by kernel_rfl) (by kernel_rfl) (fun _ _ _ h => h) (by kernel_rfl) hClosed (Or.inl ⟨by rfl, ?_⟩) hHeld (fun hClosed => ?_)
      rotate_left
      · intro wv hSw; go_simp; all_goals (with_reducible rfl)
      (try simp only [List.getElem_toArray, List.getElem_cons_succ, List.getElem_cons_zero, put_at, List.set])
      refine wpAnyL_take (i := 14) (v := ?_) rfl (by kernel_rfl) (by kernel_rfl) (by kernel_rfl) (by kernel_rfl) (fun _ _ _ h => h) (by kernel_rfl) hClosed (Or.inl ⟨by rfl, ?_⟩) hHeld (fun hClosed => ?_)
      rotate_left
      · intro wv hSw; go_simp; all_goals (with_reducible rfl)
      (try simp only [List.getElem_toArray, List.getElem_cons_succ, List.getElem_cons_zero, put_at, List.set])
      refine wpAnyL_last rfl (by kernel_rfl) (by kernel_rfl) (fun KK hK => ?_)
      go_simp
      refine hK.out _ _ ?_
      (try simp only [put_at, List.set])
      go_wp2_with fail
      go_ret
      exact ⟨rfl, B2.trans (hHeld.mono B2.size)⟩

theorem frameUnlike_walk (x y : Rc) (w : World) (hx : RecOk x) (hy : RecOk y) : Calls Try.prog 8 #[.agg #[.int .i64 x.kind, .int .i64 x.id, .string x.host, .string x.path, .int .i64 x.prio, .int .i64 x.till], .agg #[.int .i64 y.kind, .int .i64 y.id, .string y.host, .string y.path, .int .i64 y.prio, .int .i64 y.till]] w fun e w' => e = .returned (.bool true) ∧ Below w.heap.size w w' := by
  by_cases hxs : soundR x
  · by_cases hys : soundR y
    · exact frameUnlike_11 x y w hx hy hxs hys
    · by_cases h : 3000 < wrap64 (wrap64 (wrap64 ((x.host.size : Int) + (x.path.size : Int)) + (y.host.size : Int)) + (y.path.size : Int))
      · exact frameUnlike_out x y w hx hy h
      · exact frameUnlike_10 x y w hx hy h hxs hys
  · by_cases h : 3000 < wrap64 (wrap64 (wrap64 ((x.host.size : Int) + (x.path.size : Int)) + (y.host.size : Int)) + (y.path.size : Int))
    · exact frameUnlike_out x y w hx hy h
    · by_cases hys : soundR y
      · exact frameUnlike_01 x y w hx hy h hxs hys
      · exact frameUnlike_00 x y w hx hy h hxs hys
end Go.Proofs.Ytndgpdpabjaedaa
