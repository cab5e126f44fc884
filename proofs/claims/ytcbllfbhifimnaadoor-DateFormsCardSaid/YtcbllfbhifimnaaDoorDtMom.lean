/- A moment of any numbers; DateOther: the walk. -/
import Derived.Test.YtcbllfbhifimnaaDoorDtSec
import Derived.Test.YtcbllfbhifimnaaDoorDtOth
import Derived.Test.YtcbllfbhifimnaaDoorDtLaws
import Derived.Test.YtcbllfbhifimnaaDoorUrLow
namespace Go.Proofs.YtcbllfbhifimnaaDoor
open Go.RowKit
set_option linter.unusedVariables false
set_option linter.unusedSimpArgs false
set_option maxRecDepth 10000

def MomP (y mo d t : Int) (w : World) (e : Ending) (w' : World) : Prop := ∃ (h mi s : Int) (o : Option Int), e = .returned (.tuple #[.agg #[.int .i64 y, .int .i64 mo, .int .i64 d, .int .i64 h, .int .i64 mi, .int .i64 s], .int .i64 (o.getD 0), .bool o.isSome]) ∧ Below w.heap.size w w' ∧
  (∀ v, o = some v → Valid y mo d ∧ ClkIn h mi s ∧ v = num y mo d * 86400 + h * 3600 + mi * 60 + s)
set_option maxHeartbeats 4000000 in
theorem moment_at (y mo d t : Int) (t0 : -9223372036854775808 ≤ t) (t1 : t ≤ 9223372036854775807) (w : World) :
    Calls Tryd.prog 7 #[.int .i64 y, .int .i64 mo, .int .i64 d, .int .i64 t] w (MomP y mo d t w) := by
  obtain ⟨h, hh⟩ : ∃ h, t.tdiv 3600 = h := ⟨_, rfl⟩
  obtain ⟨q, hq⟩ : ∃ q, t.tdiv 60 = q := ⟨_, rfl⟩
  obtain ⟨mi, hmi⟩ : ∃ mi, q.tmod 60 = mi := ⟨_, rfl⟩
  obtain ⟨s, hs⟩ : ∃ s, t.tmod 60 = s := ⟨_, rfl⟩
  have wh : -9223372036854775808 ≤ h ∧ h ≤ 9223372036854775807 ∧ -9223372036854775808 ≤ q ∧ q ≤ 9223372036854775807 := by
    by_cases h0 : 0 ≤ t
    · rw [Int.tdiv_eq_ediv_of_nonneg h0] at hh hq
      omega
    · obtain ⟨m, rfl⟩ : ∃ m, t = -m := ⟨-t, by omega⟩
      rw [Int.neg_tdiv, Int.tdiv_eq_ediv_of_nonneg (by omega)] at hh hq
      omega
  obtain ⟨h0, h1, q0, q1⟩ := wh
  obtain ⟨g, hg⟩ : ∃ g, w.heap.size = g := ⟨_, rfl⟩
  by_cases hneg : t < 0
  · have d1 : decide (t < 0) = true := decide_eq_true hneg
    go_enter Tryd.func7, Tryd.ntmps7
    go_wp2
    generalize hW : World.alloc (World.alloc w _) _ = W2
    have X : Box W2 g #[.int .i64 y, .int .i64 mo, .int .i64 d, .int .i64 h, .int .i64 mi, .int .i64 s] 24 := by rw [← hW]; exact (dBox_new hg.symm).alloc _
    have B : Below w.heap.size w W2 := by rw [← hW]; exact ((Below.refl _ _).alloc (Nat.le_refl _) _).alloc (by simp) _
    have c := X.cell
    have c0 := c 0
    have c1 := c 1
    have c2 := c 2
    have c3 := c 3
    have c4 := c 4
    have c5 := c 5
    have gl := X.lt
    simp only [List.getElem?_toArray, List.getElem?_cons_zero, List.getElem?_cons_succ] at c0 c1 c2 c3 c4 c5
    exact bodyPost_ret (v := .tuple #[.agg #[.int .i64 y, .int .i64 mo, .int .i64 d, .int .i64 h, .int .i64 mi, .int .i64 s], .int .i64 0, .bool false]) (by simp [results, Tryd.results7, go_sem, c0, c1, c2, c3, c4, c5, gl]) rfl ⟨h, mi, s, none, rfl, B, fun v hv => by cases hv⟩
  · have d1 : decide (t < 0) = false := decide_eq_false hneg
    obtain ⟨o, ho⟩ : ∃ o, rsecI y mo d h mi s = o := ⟨_, rfl⟩
    have HS := Lib.hid (fun W => rsec_at y mo d h mi s o ho W)
    have e1 : t / 3600 = h := by rw [← hh, Int.tdiv_eq_ediv_of_nonneg (by omega)]
    have e2 : t / 60 = q := by rw [← hq, Int.tdiv_eq_ediv_of_nonneg (by omega)]
    have e3 : t % 60 = s := by rw [← hs, Int.tmod_eq_emod_of_nonneg (by omega)]
    have e4 : q % 60 = mi := by rw [← hmi, Int.tmod_eq_emod_of_nonneg (by omega)]
    go_enter Tryd.func7, Tryd.ntmps7
    go_wp2_with fail
    refine calls_forget (fun wx => Hid (Box wx g #[.int .i64 0, .int .i64 0, .int .i64 0, .int .i64 0, .int .i64 0, .int .i64 0] 24) ∧ Hid (Box wx (g + 1) #[.int .i64 y, .int .i64 mo, .int .i64 d, .int .i64 h, .int .i64 mi, .int .i64 s] 24) ∧ Hid (Below w.heap.size w wx)) ⟨Lib.hid ((dBox_new hg.symm).alloc _), Lib.hid (dBox_new (by simp; omega)), Lib.hid (((Below.refl _ _).alloc (Nat.le_refl _) _).alloc (by simp) _)⟩ ?_
    rintro w1 ⟨X1, Y1, B1⟩
    refine (HS.out _).mono ?_
    rintro e w2 ⟨rfl, hb⟩
    have X2 := Lib.hid (X1.out.later hb)
    have Y2 := Lib.hid (Y1.out.later hb)
    have B2 := Lib.hid (B1.out.trans (hb.mono B1.out.size))
    have HO := Lib.hid ho
    obtain ⟨ov, hov⟩ : ∃ x, o.getD 0 = x := ⟨_, rfl⟩
    obtain ⟨ok, hok⟩ : ∃ x, o.isSome = x := ⟨_, rfl⟩
    have HOV := Lib.hid hov
    have HOK := Lib.hid hok
    have HG : Hid (w.heap.size ≤ g) := Lib.hid (by omega)
    rw [hov, hok]
    clear hb X1 Y1 B1 ho hov hok hg
    have c := Y2.out.cell
    have z := X2.out.cell
    have c0 := c 0
    have z0 := z 0
    have f0 := X2.out.free 0
    have c1 := c 1
    have z1 := z 1
    have f1 := X2.out.free 1
    have c2 := c 2
    have z2 := z 2
    have f2 := X2.out.free 2
    have c3 := c 3
    have z3 := z 3
    have f3 := X2.out.free 3
    have c4 := c 4
    have z4 := z 4
    have f4 := X2.out.free 4
    have c5 := c 5
    have z5 := z 5
    have f5 := X2.out.free 5
    have gl := X2.out.lt
    have gl2 := Y2.out.lt
    simp only [List.getElem?_toArray, List.getElem?_cons_zero, List.getElem?_cons_succ] at c0 c1 c2 c3 c4 c5 z0 z1 z2 z3 z4 z5
    clear c z
    go_wp2
    refine bodyPost_ret (v := .tuple #[.agg #[.int .i64 y, .int .i64 mo, .int .i64 d, .int .i64 h, .int .i64 mi, .int .i64 s], .int .i64 ov, .bool ok]) (by simp [results, Tryd.results7, go_sem, z0, z1, z2, z3, z4, z5, f0, f1, f2, f3, f4, f5, gl]) rfl ⟨h, mi, s, o, by rw [HOV.out, HOK.out], ((((((B2.out.setCell (p := ⟨g, 0, none⟩) HG.out _).setCell (p := ⟨g, 1, none⟩) HG.out _).setCell (p := ⟨g, 2, none⟩) HG.out _).setCell (p := ⟨g, 3, none⟩) HG.out _).setCell (p := ⟨g, 4, none⟩) HG.out _).setCell (p := ⟨g, 5, none⟩) HG.out _), fun v hv => ?_⟩
    have := HO.out
    rw [hv] at this
    unfold rsecI at this
    split at this
    · rename_i hh
      injection this with this
      exact ⟨hh.1, hh.2, this.symm⟩
    · cases this
end Go.Proofs.YtcbllfbhifimnaaDoor
