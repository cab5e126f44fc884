/- The document's seconds; a moment of any numbers. -/
import Derived.Test.YtcbllfbhifimnaaDoorDtFirst
namespace Go.Proofs.YtcbllfbhifimnaaDoor
open Go.RowKit
set_option linter.unusedVariables false
set_option linter.unusedSimpArgs false
set_option maxRecDepth 10000

def ClkIn (h mi s : Int) : Prop := (0 ≤ h ∧ h ≤ 23) ∧ (0 ≤ mi ∧ mi ≤ 59) ∧ (0 ≤ s ∧ s ≤ 59)
instance (h mi s : Int) : Decidable (ClkIn h mi s) := by unfold ClkIn; infer_instance
def rsecI (y mo d h mi s : Int) : Option Int := if Valid y mo d ∧ ClkIn h mi s then some (num y mo d * 86400 + h * 3600 + mi * 60 + s) else none
set_option maxHeartbeats 4000000 in
theorem rsec_at (y mo d h mi s : Int) (o : Option Int) (ho : rsecI y mo d h mi s = o) (w : World) :
    Calls Tryd.prog 17 #[.agg #[.int .i64 y, .int .i64 mo, .int .i64 d, .int .i64 h, .int .i64 mi, .int .i64 s]] w (OptP o w) := by
  obtain ⟨g, hg⟩ : ∃ g, w.heap.size = g := ⟨_, rfl⟩
  by_cases hv : Valid y mo d
  · have hr := num_range y mo d hv
    obtain ⟨n, hn⟩ : ∃ n, num y mo d = n := ⟨_, rfl⟩
    have D : Hid (∀ W : World, Calls Tryd.prog 34 #[.int .i64 y, .int .i64 mo, .int .i64 d] W fun e w' => e = .returned (.tuple #[.int .i64 n, .bool true]) ∧ Below W.heap.size W w') := Lib.hid (fun W => by have := rdays_yes y mo d hv W; rw [hn] at this; exact this)
    have HO : Hid (o = if ClkIn h mi s then some (n * 86400 + h * 3600 + mi * 60 + s) else none) := Lib.hid (by
      rw [← ho, ← hn]
      unfold rsecI
      by_cases hc : ClkIn h mi s
      · rw [if_pos ⟨hv, hc⟩, if_pos hc]
      · rw [if_neg (fun x => hc x.2), if_neg hc])
    rw [hn] at hr
    obtain ⟨n0, n1⟩ := hr
    clear hv ho hn
    go_enter Tryd.func17, Tryd.ntmps17
    go_wp2_with fail
    refine calls_forget (fun wx => Hid (Box wx g #[.int .i64 y, .int .i64 mo, .int .i64 d, .int .i64 h, .int .i64 mi, .int .i64 s] 24) ∧ Hid (Below w.heap.size w wx)) ⟨Lib.hid (dBox_new hg.symm), Lib.hid ((Below.refl _ _).alloc (Nat.le_refl _) _)⟩ ?_
    clear hg
    rintro w1 ⟨X1, B1⟩
    refine (D.out _).mono ?_
    rintro e w2 ⟨rfl, hb⟩
    have X2 := Lib.hid (X1.out.later hb)
    have B2 := Lib.hid (B1.out.trans (hb.mono B1.out.size))
    clear hb X1 B1
    have c3 := X2.out.cell 3
    have c4 := X2.out.cell 4
    have c5 := X2.out.cell 5
    have cl := X2.out.lt
    simp only [List.getElem?_toArray, List.getElem?_cons_zero, List.getElem?_cons_succ] at c3 c4 c5
    by_cases t0 : h < 0
    · have d0 : decide (h < 0) = true := decide_eq_true t0
      have HE : Hid (o = none) := Lib.hid (by rw [HO.out, if_neg (by unfold ClkIn; omega)])
      go_wp2
      go_ret2
      exact ⟨by rw [HE.out]; rfl, B2.out⟩
    · have d0 : decide (h < 0) = false := decide_eq_false t0
      by_cases t1 : 23 < h
      · have d1 : decide (23 < h) = true := decide_eq_true t1
        have HE : Hid (o = none) := Lib.hid (by rw [HO.out, if_neg (by unfold ClkIn; omega)])
        go_wp2
        go_ret2
        exact ⟨by rw [HE.out]; rfl, B2.out⟩
      · have d1 : decide (23 < h) = false := decide_eq_false t1
        by_cases t2 : mi < 0
        · have d2 : decide (mi < 0) = true := decide_eq_true t2
          have HE : Hid (o = none) := Lib.hid (by rw [HO.out, if_neg (by unfold ClkIn; omega)])
          go_wp2
          go_ret2
          exact ⟨by rw [HE.out]; rfl, B2.out⟩
        · have d2 : decide (mi < 0) = false := decide_eq_false t2
          by_cases t3 : 59 < mi
          · have d3 : decide (59 < mi) = true := decide_eq_true t3
            have HE : Hid (o = none) := Lib.hid (by rw [HO.out, if_neg (by unfold ClkIn; omega)])
            go_wp2
            go_ret2
            exact ⟨by rw [HE.out]; rfl, B2.out⟩
          · have d3 : decide (59 < mi) = false := decide_eq_false t3
            by_cases t4 : s < 0
            · have d4 : decide (s < 0) = true := decide_eq_true t4
              have HE : Hid (o = none) := Lib.hid (by rw [HO.out, if_neg (by unfold ClkIn; omega)])
              go_wp2
              go_ret2
              exact ⟨by rw [HE.out]; rfl, B2.out⟩
            · have d4 : decide (s < 0) = false := decide_eq_false t4
              by_cases t5 : 59 < s
              · have d5 : decide (59 < s) = true := decide_eq_true t5
                have HE : Hid (o = none) := Lib.hid (by rw [HO.out, if_neg (by unfold ClkIn; omega)])
                go_wp2
                go_ret2
                exact ⟨by rw [HE.out]; rfl, B2.out⟩
              · have d5 : decide (59 < s) = false := decide_eq_false t5
                have HE : Hid (o = some (n * 86400 + h * 3600 + mi * 60 + s)) := Lib.hid (by rw [HO.out, if_pos (by unfold ClkIn; omega)])
                go_wp2
                go_ret2
                exact ⟨by rw [HE.out]; rfl, B2.out⟩
  · have D : Hid (∀ W : World, Calls Tryd.prog 34 #[.int .i64 y, .int .i64 mo, .int .i64 d] W fun e w' => e = .returned (.tuple #[.int .i64 0, .bool false]) ∧ Below W.heap.size W w') := Lib.hid (fun W => (rdays_no y mo d hv W).mono fun e w' hh => ⟨hh.1, by first | exact hh.2 | (rw [← hh.2]; exact Below.refl _ _)⟩)
    have HE : Hid (o = none) := Lib.hid (by rw [← ho]; unfold rsecI; rw [if_neg (fun x => hv x.1)])
    clear hv ho
    go_enter Tryd.func17, Tryd.ntmps17
    go_wp2_with fail
    refine calls_forget (fun wx => Hid (Below w.heap.size w wx)) (Lib.hid ((Below.refl _ _).alloc (Nat.le_refl _) _)) ?_
    intro w1 B1
    refine (D.out _).mono ?_
    rintro e w2 ⟨rfl, hb⟩
    have B2 := Lib.hid (B1.out.trans (hb.mono B1.out.size))
    clear hb
    go_wp2
    go_ret2
    exact ⟨by rw [HE.out]; rfl, B2.out⟩
end Go.Proofs.YtcbllfbhifimnaaDoor
