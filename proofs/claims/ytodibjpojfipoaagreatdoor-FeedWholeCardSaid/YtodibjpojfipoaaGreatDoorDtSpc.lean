/- A text of the third form, read. -/
import Derived.Test.YtodibjpojfipoaaGreatDoorDtFix
namespace Go.Proofs.YtodibjpojfipoaaGreatDoor
open Go.RowKit
set_option linter.unusedVariables false
set_option linter.unusedSimpArgs false
set_option maxRecDepth 10000

theorem spaced_form_at_start (l : List Int) : spcP l = if false = true then none else spcP l := rfl
set_option maxHeartbeats 4000000 in
theorem spaced_form_at (s : ByteArray) (w : World) (hT : TabD w) :
    Calls Tryz.prog 38 #[.string s] w (FormP (spcP (btL s)) w) := by
  have HT := Lib.hid hT
  clear hT
  obtain ⟨n, hn⟩ : ∃ n, w.heap.size = n := ⟨_, rfl⟩
  go_enter Tryz.func38, Tryz.ntmps38
  go_wp2_with fail
  refine calls_forget (fun wx => Hid (Fx n w wx #[.int .i64 0, .int .i64 0, .int .i64 0, .int .i64 0, .int .i64 0, .int .i64 0, .int .i64 0] s false)) (Lib.hid ⟨((dBox_new hn.symm).alloc _).alloc _, (dBox_new (by simp; omega)).alloc _, dBox_new (by simp; omega), (((Below.refl _ _).alloc (by omega) _).alloc (by simp; omega) _).alloc (by simp; omega) _⟩) ?_
  intro w0 F0
  refine (short_at (n + 1) s false _ (F0.out.tab hn.symm HT.out) F0.out.rb).mono ?_
  rintro e w1 ⟨vwd, q1, f1, rfl, R, lo, hi, st⟩
  have HBwd := Lib.hid (And.intro lo hi)
  clear lo hi
  have H1 := Lib.hid (cont_step (spaced_form_at_start (btL s)) R.fail st)
  have F1 := Lib.hid (F0.out.call R)
  clear st R
  have k0 := F1.out.mb.cell 0
  have c0 := F1.out.mb.free 0
  have gl := F1.out.mb.lt
  simp only [List.getElem?_toArray, List.getElem?_cons_zero, List.getElem?_cons_succ] at k0
  go_wp2_with fail
  have F1 : Hid (Fx n w _ #[.int .i64 vwd, .int .i64 0, .int .i64 0, .int .i64 0, .int .i64 0, .int .i64 0, .int .i64 0] q1 f1) := Lib.hid ((F1.out).set 0 (.int .i64 vwd))
  refine (mark_at (n + 1) q1 ⟨#[32]⟩ f1 _ F1.out.rb).mono ?_
  rintro e w2 ⟨q2, f2, rfl, R, st⟩
  have H2 := Lib.hid (cont_step H1.out R.fail st)
  have F2 := Lib.hid (F1.out.call R)
  clear st R H1
  go_wp2_with fail
  refine (month_at (n + 1) q2 f2 _ (F2.out.tab hn.symm HT.out) F2.out.rb).mono ?_
  rintro e w3 ⟨vmo, q3, f3, rfl, R, lo, hi, st⟩
  have HBmo := Lib.hid (And.intro lo hi)
  clear lo hi
  have H3 := Lib.hid (cont_step H2.out R.fail st)
  have F3 := Lib.hid (F2.out.call R)
  clear st R H2
  have k2 := F3.out.mb.cell 2
  have c2 := F3.out.mb.free 2
  have gl := F3.out.mb.lt
  simp only [List.getElem?_toArray, List.getElem?_cons_zero, List.getElem?_cons_succ] at k2
  go_wp2_with fail
  have F3 : Hid (Fx n w _ #[.int .i64 vwd, .int .i64 0, .int .i64 vmo, .int .i64 0, .int .i64 0, .int .i64 0, .int .i64 0] q3 f3) := Lib.hid ((F3.out).set 2 (.int .i64 vmo))
  refine (mark_at (n + 1) q3 ⟨#[32]⟩ f3 _ F3.out.rb).mono ?_
  rintro e w4 ⟨q4, f4, rfl, R, st⟩
  have H4 := Lib.hid (cont_step H3.out R.fail st)
  have F4 := Lib.hid (F3.out.call R)
  clear st R H3
  go_wp2_with fail
  refine (spaced_at (n + 1) q4 f4 _ F4.out.rb).mono ?_
  rintro e w5 ⟨vd, q5, f5, rfl, R, lo, hi, st⟩
  have HBd := Lib.hid (And.intro lo hi)
  clear lo hi
  have H5 := Lib.hid (cont_step H4.out R.fail st)
  have F5 := Lib.hid (F4.out.call R)
  clear st R H4
  have k3 := F5.out.mb.cell 3
  have c3 := F5.out.mb.free 3
  have gl := F5.out.mb.lt
  simp only [List.getElem?_toArray, List.getElem?_cons_zero, List.getElem?_cons_succ] at k3
  go_wp2_with fail
  have F5 : Hid (Fx n w _ #[.int .i64 vwd, .int .i64 0, .int .i64 vmo, .int .i64 vd, .int .i64 0, .int .i64 0, .int .i64 0] q5 f5) := Lib.hid ((F5.out).set 3 (.int .i64 vd))
  refine (mark_at (n + 1) q5 ⟨#[32]⟩ f5 _ F5.out.rb).mono ?_
  rintro e w6 ⟨q6, f6, rfl, R, st⟩
  have H6 := Lib.hid (cont_step H5.out R.fail st)
  have F6 := Lib.hid (F5.out.call R)
  clear st R H5
  go_wp2_with fail
  refine (clock_at (n + 1) q6 f6 _ F6.out.rb).mono ?_
  rintro e w7 ⟨vh, vm, vs, q7, f7, rfl, R, hc, st⟩
  have HC := Lib.hid hc
  clear hc
  have H7 := Lib.hid (cont_step H6.out R.fail st)
  have F7 := Lib.hid (F6.out.call R)
  clear st R H6
  have k4 := F7.out.mb.cell 4
  have c4 := F7.out.mb.free 4
  have k5 := F7.out.mb.cell 5
  have c5 := F7.out.mb.free 5
  have k6 := F7.out.mb.cell 6
  have c6 := F7.out.mb.free 6
  have gl := F7.out.mb.lt
  simp only [List.getElem?_toArray, List.getElem?_cons_zero, List.getElem?_cons_succ] at k4 k5 k6
  go_wp2_with fail
  have F7 : Hid (Fx n w _ #[.int .i64 vwd, .int .i64 0, .int .i64 vmo, .int .i64 vd, .int .i64 vh, .int .i64 vm, .int .i64 vs] q7 f7) := Lib.hid ((((F7.out).set 4 (.int .i64 vh)).set 5 (.int .i64 vm)).set 6 (.int .i64 vs))
  refine (mark_at (n + 1) q7 ⟨#[32]⟩ f7 _ F7.out.rb).mono ?_
  rintro e w8 ⟨q8, f8, rfl, R, st⟩
  have H8 := Lib.hid (cont_step H7.out R.fail st)
  have F8 := Lib.hid (F7.out.call R)
  clear st R H7
  go_wp2_with fail
  refine (num4_at (n + 1) q8 f8 _ F8.out.rb).mono ?_
  rintro e w9 ⟨vy, q9, f9, rfl, R, lo, hi, st⟩
  have HBy := Lib.hid (And.intro lo hi)
  clear lo hi
  have H9 := Lib.hid (cont_step H8.out R.fail st)
  have F9 := Lib.hid (F8.out.call R)
  clear st R H8
  have k1 := F9.out.mb.cell 1
  have c1 := F9.out.mb.free 1
  have gl := F9.out.mb.lt
  simp only [List.getElem?_toArray, List.getElem?_cons_zero, List.getElem?_cons_succ] at k1
  go_wp2
  refine code_forget (fun wx => Hid (Fx n w wx #[.int .i64 vwd, .int .i64 vy, .int .i64 vmo, .int .i64 vd, .int .i64 vh, .int .i64 vm, .int .i64 vs] q9 f9)) (Lib.hid ((F9.out).set 1 (.int .i64 vy))) ?_
  clear F9
  intro w9 F9
  have hw : ∀ i, w9.cell? ⟨n + 1 + 1, i, none⟩ = #[.int .i64 vwd, .int .i64 vy, .int .i64 vmo, .int .i64 vd, .int .i64 vh, .int .i64 vm, .int .i64 vs][i]? := F9.out.mb.cell
  have k0 : w9.cell? ⟨n + 1 + 1, 0, none⟩ = some (.int .i64 vwd) := hw 0
  have r0 := F9.out.ob.cell 0
  have c0 := F9.out.ob.free 0
  have k1 : w9.cell? ⟨n + 1 + 1, 1, none⟩ = some (.int .i64 vy) := hw 1
  have r1 := F9.out.ob.cell 1
  have c1 := F9.out.ob.free 1
  have k2 : w9.cell? ⟨n + 1 + 1, 2, none⟩ = some (.int .i64 vmo) := hw 2
  have r2 := F9.out.ob.cell 2
  have c2 := F9.out.ob.free 2
  have k3 : w9.cell? ⟨n + 1 + 1, 3, none⟩ = some (.int .i64 vd) := hw 3
  have r3 := F9.out.ob.cell 3
  have c3 := F9.out.ob.free 3
  have k4 : w9.cell? ⟨n + 1 + 1, 4, none⟩ = some (.int .i64 vh) := hw 4
  have r4 := F9.out.ob.cell 4
  have c4 := F9.out.ob.free 4
  have k5 : w9.cell? ⟨n + 1 + 1, 5, none⟩ = some (.int .i64 vm) := hw 5
  have r5 := F9.out.ob.cell 5
  have c5 := F9.out.ob.free 5
  have k6 : w9.cell? ⟨n + 1 + 1, 6, none⟩ = some (.int .i64 vs) := hw 6
  have r6 := F9.out.ob.cell 6
  have c6 := F9.out.ob.free 6
  simp only [List.getElem?_toArray, List.getElem?_cons_zero, List.getElem?_cons_succ] at r0 r1 r2 r3 r4 r5 r6
  clear hw
  have gl := F9.out.ob.lt
  go_region_with (refine (done_at (n + 1) q9 f9 _ (by first | exact F9.out.rb | exact ((((((((((((((F9.out.rb).other (show n + 1 ≠ n by omega) _)).other (show n + 1 ≠ n by omega) _)).other (show n + 1 ≠ n by omega) _)).other (show n + 1 ≠ n by omega) _)).other (show n + 1 ≠ n by omega) _)).other (show n + 1 ≠ n by omega) _)).other (show n + 1 ≠ n by omega) _))).mono ?_; rintro e wd ⟨ok, rfl, hwd, hk⟩; subst wd)
  all_goals
    go_wp2
    exact bodyPost_ret (v := .tuple #[.agg #[.int .i64 vwd, .int .i64 vy, .int .i64 vmo, .int .i64 vd, .int .i64 vh, .int .i64 vm, .int .i64 vs], .bool ok]) (by simp [results, Tryz.results38, go_sem, k0, r0, c0, k1, r1, c1, k2, r2, c2, k3, r3, c3, k4, r4, c4, k5, r5, c5, k6, r6, c6, gl]) rfl ⟨⟨vwd, vy, vmo, vd, vh, vm, vs⟩, ok, rfl, (by rw [hn]; first | exact (((((((F9.out.bel.setCell (p := ⟨n, 0, none⟩) (Nat.le_refl _) _).setCell (p := ⟨n, 1, none⟩) (Nat.le_refl _) _).setCell (p := ⟨n, 2, none⟩) (Nat.le_refl _) _).setCell (p := ⟨n, 3, none⟩) (Nat.le_refl _) _).setCell (p := ⟨n, 4, none⟩) (Nat.le_refl _) _).setCell (p := ⟨n, 5, none⟩) (Nat.le_refl _) _).setCell (p := ⟨n, 6, none⟩) (Nat.le_refl _) _).drew | exact (((((((F9.out.bel.setCell (p := ⟨n, 0, none⟩) (Nat.le_refl _) _).setCell (p := ⟨n, 1, none⟩) (Nat.le_refl _) _).setCell (p := ⟨n, 2, none⟩) (Nat.le_refl _) _).setCell (p := ⟨n, 3, none⟩) (Nat.le_refl _) _).setCell (p := ⟨n, 4, none⟩) (Nat.le_refl _) _).setCell (p := ⟨n, 5, none⟩) (Nat.le_refl _) _).setCell (p := ⟨n, 6, none⟩) (Nat.le_refl _) _)), ⟨HBwd.out, HBy.out, HBmo.out, HBd.out, ⟨HC.out.1, HC.out.2.1⟩, ⟨HC.out.2.2.1, HC.out.2.2.2.1⟩, ⟨HC.out.2.2.2.2.1, HC.out.2.2.2.2.2⟩⟩, done_is H9.out hk⟩
end Go.Proofs.YtodibjpojfipoaaGreatDoor
