/- The seconds of a moment; the whole reading. -/
import Derived.Test.YtodibjpojfipoaaGreatDoorDtDash
import Derived.Test.YtodibjpojfipoaaGreatDoorDtSpc
import Derived.BigQuiet
namespace Go.Proofs.YtodibjpojfipoaaGreatDoor
open Go.RowKit
set_option linter.unusedVariables false
set_option linter.unusedSimpArgs false
set_option maxRecDepth 10000

theorem below_drewD {B : Nat} {a w : World} (h : Below B a w) (n : Nat) : Below B a (w.drewN n) := ⟨h.os, h.tape, h.output, h.size, h.block⟩
instance (y m d : Int) : Decidable (Valid y m d) := by unfold Valid; infer_instance
def secN (m : Mo) : Int := num m.y m.mo m.d * 86400 + (m.h * 60 + m.mi) * 60 + m.s
def secI (m : Mo) : Option Int := if Valid m.y m.mo m.d ∧ (num m.y m.mo m.d + 3) % 7 = m.wd then some (secN m) else none
/-- A number, if there is one. -/
def OptP (o : Option Int) (w : World) (e : Ending) (w' : World) : Prop := e = .returned (.tuple #[.int .i64 (o.getD 0), .bool o.isSome]) ∧ Below w.heap.size w w'
set_option maxHeartbeats 2000000 in
theorem seconds_at (m : Mo) (hm : MoB m) (w : World) : Calls Tryz.prog 39 #[moV m] w (OptP (secI m) w) := by
  obtain ⟨wd, y, mo, d, h, mi, s⟩ := m
  obtain ⟨b1, b2, b3, b4, b5, b6, b7⟩ := hm
  dsimp only at b1 b2 b3 b4 b5 b6 b7
  unfold moV
  dsimp only
  obtain ⟨o, ho⟩ : ∃ o, secI ⟨wd, y, mo, d, h, mi, s⟩ = o := ⟨_, rfl⟩
  rw [ho]
  obtain ⟨n, hn⟩ : ∃ n, num y mo d = n := ⟨_, rfl⟩
  have HO : Hid (o = if Valid y mo d ∧ (n + 3) % 7 = wd then some (n * 86400 + (h * 60 + mi) * 60 + s) else none) := Lib.hid (by rw [← ho, ← hn]; rfl)
  clear ho
  by_cases hv : Valid y mo d
  · have hr := num_range y mo d hv
    rw [hn] at hr
    obtain ⟨r0, r1⟩ := hr
    have D : Hid (∀ W : World, Calls Tryz.prog 80 #[.int .i64 y, .int .i64 mo, .int .i64 d] W fun e w' => e = .returned (.tuple #[.int .i64 n, .bool true]) ∧ W = w') := Lib.hid (fun W => by have := days_yes y mo d hv W; rw [hn] at this; exact this)
    obtain ⟨k, hk⟩ : ∃ k, (n + 3) % 7 = k := ⟨_, rfl⟩
    have WK : Hid (∀ W : World, Calls Tryz.prog 81 #[.int .i64 n] W fun e w' => e = .returned (.int .i64 k) ∧ w' = W) := Lib.hid (fun W => (week_any n (by omega) (by omega) W).mono fun _ _ ⟨h1, h2⟩ => ⟨by rw [h1, hk], h2.symm⟩)
    have HO2 : Hid (o = if k = wd then some (n * 86400 + (h * 60 + mi) * 60 + s) else none) := Lib.hid (by
      rw [HO.out, hk]
      by_cases hw : k = wd
      · rw [if_pos ⟨hv, hw⟩, if_pos hw]
      · rw [if_neg (fun x => hw x.2), if_neg hw])
    clear hn hv hk HO
    by_cases hw : k = wd
    · have e1 : (k != wd) = false := by simp [hw]
      have e2 : (k == wd) = true := by simp [hw]
      have HO3 : Hid (o = some (n * 86400 + (h * 60 + mi) * 60 + s)) := Lib.hid (by rw [HO2.out, if_pos hw])
      clear hw HO2
      go_enter Tryz.func39, Tryz.ntmps39
      go_wp2_with fail
      refine (D.out _).mono ?_
      rintro e w1 ⟨rfl, hw1⟩
      subst w1
      go_wp2
      go_quiet ((go_at_call 81; exact Calls.quiet_of_same (WK.out _)))
      go_wp2
      go_ret2
      exact ⟨by rw [HO3.out]; rfl, below_drewD ((Below.refl _ _).alloc (Nat.le_refl _) _) _⟩
    · have e1 : (k != wd) = true := by simp [hw]
      have e2 : (k == wd) = false := by simp [hw]
      have HO3 : Hid (o = none) := Lib.hid (by rw [HO2.out, if_neg hw])
      clear hw HO2
      go_enter Tryz.func39, Tryz.ntmps39
      go_wp2_with fail
      refine (D.out _).mono ?_
      rintro e w1 ⟨rfl, hw1⟩
      subst w1
      go_wp2
      go_quiet ((go_at_call 81; exact Calls.quiet_of_same (WK.out _)))
      go_wp2
      go_ret2
      exact ⟨by rw [HO3.out]; rfl, below_drewD ((Below.refl _ _).alloc (Nat.le_refl _) _) _⟩
  · have D : Hid (∀ W : World, Calls Tryz.prog 80 #[.int .i64 y, .int .i64 mo, .int .i64 d] W fun e w' => e = .returned (.tuple #[.int .i64 0, .bool false]) ∧ W = w') := Lib.hid (fun W => days_no y mo d hv W)
    have HO3 : Hid (o = none) := Lib.hid (by rw [HO.out, if_neg (fun x => hv x.1)])
    clear hn hv HO
    go_enter Tryz.func39, Tryz.ntmps39
    go_wp2_with fail
    refine (D.out _).mono ?_
    rintro e w1 ⟨rfl, hw1⟩
    subst w1
    go_wp2
    go_quiet (fail)
    go_wp2
    go_ret2
    exact ⟨by rw [HO3.out]; rfl, below_drewD ((Below.refl _ _).alloc (Nat.le_refl _) _) _⟩
/-- What is read of a text. -/
def parI (Y : Int) (l : List Int) : Option Int := match fixP l with
  | some m => secI m
  | none => match dashP (fyI Y) l with
    | some m => secI m
    | none => match spcP l with
      | some m => secI m
      | none => none
theorem parI_fix {Y : Int} {l : List Int} {m : Mo} (h : fixP l = some m) : parI Y l = secI m := by unfold parI; rw [h]
theorem parI_dash {Y : Int} {l : List Int} {m : Mo} (h : fixP l = none) (h2 : dashP (fyI Y) l = some m) : parI Y l = secI m := by unfold parI; rw [h]; dsimp only; rw [h2]
theorem parI_spc {Y : Int} {l : List Int} {m : Mo} (h : fixP l = none) (h2 : dashP (fyI Y) l = none) (h3 : spcP l = some m) : parI Y l = secI m := by unfold parI; rw [h]; dsimp only; rw [h2]; dsimp only; rw [h3]
theorem parI_none {Y : Int} {l : List Int} (h : fixP l = none) (h2 : dashP (fyI Y) l = none) (h3 : spcP l = none) : parI Y l = none := by unfold parI; rw [h]; dsimp only; rw [h2]; dsimp only; rw [h3]
set_option maxHeartbeats 4000000 in
theorem parse_at (s : ByteArray) (now Y : Int) (hY : YearIs (nowD now) Y) (n0 : -9223372036854775808 ≤ now) (n1 : now ≤ 9223372036854775807) (w : World) (hT : TabD w) :
    Calls Tryz.prog 20 #[.string s, .int .i64 now] w (OptP (parI Y (btL s)) w) := by
  have HT := Lib.hid hT
  have HY := Lib.hid hY
  clear hT hY
  have N0 := Lib.hid n0
  have N1 := Lib.hid n1
  clear n0 n1
  go_enter Tryz.func20, Tryz.ntmps20
  go_wp2_with fail
  refine (fixed_at s _ HT.out).mono ?_
  rintro e w1 ⟨⟨a1, a2, a3, a4, a5, a6, a7⟩, ok1, rfl, B1, M1, y1, z1⟩
  unfold moV
  dsimp only
  have B1 := Lib.hid B1
  have M1 := Lib.hid M1
  have Y1 := Lib.hid y1
  have Z1 := Lib.hid z1
  clear y1 z1
  obtain ⟨g, hg⟩ : ∃ g, w1.heap.size = g := ⟨_, rfl⟩
  have GE : Hid (w.heap.size ≤ g) := Lib.hid (hg ▸ B1.out.size)
  cases ok1 with
  | true =>
    have HP := Lib.hid (parI_fix (Y := Y) (Y1.out (by simp)))
    go_wp2_with fail
    refine (seconds_at ⟨a1, a2, a3, a4, a5, a6, a7⟩ M1.out _).mono ?_
    rintro e wz ⟨rfl, Bz⟩
    have Bz := Lib.hid ((B1.out.alloc B1.out.size _).trans (Bz.mono (B1.out.alloc B1.out.size _).size))
    go_wp2
    go_ret2
    exact ⟨by rw [HP.out]; rfl, Bz.out⟩
  | false =>
    have HP1 := Lib.hid (Z1.out (by simp))
    clear Y1 Z1
    go_wp2_with fail
    refine calls_forget (fun wx => Hid (Box wx g #[.int .i64 a1, .int .i64 a2, .int .i64 a3, .int .i64 a4, .int .i64 a5, .int .i64 a6, .int .i64 a7] 49) ∧ Hid (Below w.heap.size w wx)) ⟨Lib.hid (dBox_new hg.symm), Lib.hid (B1.out.alloc B1.out.size _)⟩ ?_
    clear hg
    rintro w2 ⟨X2, B2⟩
    refine (dashed_at s now Y HY.out N0.out N1.out _ (HT.out.later B2.out)).mono ?_
    rintro e w3 ⟨⟨b1, b2, b3, b4, b5, b6, b7⟩, ok2, rfl, B3, M2, y2, z2⟩
    unfold moV
    dsimp only
    have X3 := Lib.hid (X2.out.later B3)
    have B3 := Lib.hid (B2.out.trans (B3.mono B2.out.size))
    have M2 := Lib.hid M2
    have Y2 := Lib.hid y2
    have Z2 := Lib.hid z2
    clear y2 z2
    have hw : ∀ i, w3.cell? ⟨g, i, none⟩ = #[.int .i64 a1, .int .i64 a2, .int .i64 a3, .int .i64 a4, .int .i64 a5, .int .i64 a6, .int .i64 a7][i]? := X3.out.cell
    have k0 : w3.cell? ⟨g, 0, none⟩ = some (.int .i64 a1) := hw 0
    have c0 := X3.out.free 0
    have k1 : w3.cell? ⟨g, 1, none⟩ = some (.int .i64 a2) := hw 1
    have c1 := X3.out.free 1
    have k2 : w3.cell? ⟨g, 2, none⟩ = some (.int .i64 a3) := hw 2
    have c2 := X3.out.free 2
    have k3 : w3.cell? ⟨g, 3, none⟩ = some (.int .i64 a4) := hw 3
    have c3 := X3.out.free 3
    have k4 : w3.cell? ⟨g, 4, none⟩ = some (.int .i64 a5) := hw 4
    have c4 := X3.out.free 4
    have k5 : w3.cell? ⟨g, 5, none⟩ = some (.int .i64 a6) := hw 5
    have c5 := X3.out.free 5
    have k6 : w3.cell? ⟨g, 6, none⟩ = some (.int .i64 a7) := hw 6
    have c6 := X3.out.free 6
    have gl := X3.out.lt
    clear hw
    cases ok2 with
    | true =>
      have HP := Lib.hid (parI_dash HP1.out (Y2.out (by simp)))
      go_wp2_with fail
      refine (seconds_at ⟨b1, b2, b3, b4, b5, b6, b7⟩ M2.out _).mono ?_
      rintro e wz ⟨rfl, Bz⟩
      have Bz := Lib.hid (((((((((B3.out.setCell (p := ⟨g, 0, none⟩) GE.out _).setCell (p := ⟨g, 1, none⟩) GE.out _).setCell (p := ⟨g, 2, none⟩) GE.out _).setCell (p := ⟨g, 3, none⟩) GE.out _).setCell (p := ⟨g, 4, none⟩) GE.out _).setCell (p := ⟨g, 5, none⟩) GE.out _).setCell (p := ⟨g, 6, none⟩) GE.out _)).trans (Bz.mono ((((((((B3.out.setCell (p := ⟨g, 0, none⟩) GE.out _).setCell (p := ⟨g, 1, none⟩) GE.out _).setCell (p := ⟨g, 2, none⟩) GE.out _).setCell (p := ⟨g, 3, none⟩) GE.out _).setCell (p := ⟨g, 4, none⟩) GE.out _).setCell (p := ⟨g, 5, none⟩) GE.out _).setCell (p := ⟨g, 6, none⟩) GE.out _)).size))
      go_wp2
      go_ret2
      exact ⟨by rw [HP.out]; rfl, Bz.out⟩
    | false =>
      have HP2 := Lib.hid (Z2.out (by simp))
      clear Y2 Z2
      go_wp2_with fail
      refine calls_forget (fun wx => Hid (Box wx g #[.int .i64 b1, .int .i64 b2, .int .i64 b3, .int .i64 b4, .int .i64 b5, .int .i64 b6, .int .i64 b7] 49) ∧ Hid (Below w.heap.size w wx)) ⟨Lib.hid (((((((X3.out.set 0 (.int .i64 b1)).set 1 (.int .i64 b2)).set 2 (.int .i64 b3)).set 3 (.int .i64 b4)).set 4 (.int .i64 b5)).set 5 (.int .i64 b6)).set 6 (.int .i64 b7)), Lib.hid (((((((B3.out.setCell (p := ⟨g, 0, none⟩) GE.out _).setCell (p := ⟨g, 1, none⟩) GE.out _).setCell (p := ⟨g, 2, none⟩) GE.out _).setCell (p := ⟨g, 3, none⟩) GE.out _).setCell (p := ⟨g, 4, none⟩) GE.out _).setCell (p := ⟨g, 5, none⟩) GE.out _).setCell (p := ⟨g, 6, none⟩) GE.out _)⟩ ?_
      clear k0 k1 k2 k3 k4 k5 k6 c0 c1 c2 c3 c4 c5 c6 gl X3 B3 X2 B2
      rintro w4 ⟨X2, B2⟩
      refine (spaced_form_at s _ (HT.out.later B2.out)).mono ?_
      rintro e w5 ⟨⟨c1, c2, c3, c4, c5, c6, c7⟩, ok3, rfl, B3, M3, y2, z2⟩
      unfold moV
      dsimp only
      have X3 := Lib.hid (X2.out.later B3)
      have B3 := Lib.hid (B2.out.trans (B3.mono B2.out.size))
      have M3 := Lib.hid M3
      have Y2 := Lib.hid y2
      have Z2 := Lib.hid z2
      clear y2 z2
      have hw : ∀ i, w5.cell? ⟨g, i, none⟩ = #[.int .i64 b1, .int .i64 b2, .int .i64 b3, .int .i64 b4, .int .i64 b5, .int .i64 b6, .int .i64 b7][i]? := X3.out.cell
      have k0 : w5.cell? ⟨g, 0, none⟩ = some (.int .i64 b1) := hw 0
      have f0 := X3.out.free 0
      have k1 : w5.cell? ⟨g, 1, none⟩ = some (.int .i64 b2) := hw 1
      have f1 := X3.out.free 1
      have k2 : w5.cell? ⟨g, 2, none⟩ = some (.int .i64 b3) := hw 2
      have f2 := X3.out.free 2
      have k3 : w5.cell? ⟨g, 3, none⟩ = some (.int .i64 b4) := hw 3
      have f3 := X3.out.free 3
      have k4 : w5.cell? ⟨g, 4, none⟩ = some (.int .i64 b5) := hw 4
      have f4 := X3.out.free 4
      have k5 : w5.cell? ⟨g, 5, none⟩ = some (.int .i64 b6) := hw 5
      have f5 := X3.out.free 5
      have k6 : w5.cell? ⟨g, 6, none⟩ = some (.int .i64 b7) := hw 6
      have f6 := X3.out.free 6
      have gl := X3.out.lt
      clear hw
      cases ok3 with
      | true =>
        have HP := Lib.hid (parI_spc HP1.out HP2.out (Y2.out (by simp)))
        go_wp2_with fail
        refine (seconds_at ⟨c1, c2, c3, c4, c5, c6, c7⟩ M3.out _).mono ?_
        rintro e wz ⟨rfl, Bz⟩
        have Bz := Lib.hid (((((((((B3.out.setCell (p := ⟨g, 0, none⟩) GE.out _).setCell (p := ⟨g, 1, none⟩) GE.out _).setCell (p := ⟨g, 2, none⟩) GE.out _).setCell (p := ⟨g, 3, none⟩) GE.out _).setCell (p := ⟨g, 4, none⟩) GE.out _).setCell (p := ⟨g, 5, none⟩) GE.out _).setCell (p := ⟨g, 6, none⟩) GE.out _)).trans (Bz.mono ((((((((B3.out.setCell (p := ⟨g, 0, none⟩) GE.out _).setCell (p := ⟨g, 1, none⟩) GE.out _).setCell (p := ⟨g, 2, none⟩) GE.out _).setCell (p := ⟨g, 3, none⟩) GE.out _).setCell (p := ⟨g, 4, none⟩) GE.out _).setCell (p := ⟨g, 5, none⟩) GE.out _).setCell (p := ⟨g, 6, none⟩) GE.out _)).size))
        go_wp2
        go_ret2
        exact ⟨by rw [HP.out]; rfl, Bz.out⟩
      | false =>
        have HP := Lib.hid (parI_none HP1.out HP2.out (Z2.out (by simp)))
        go_wp2
        go_ret2
        exact ⟨by rw [HP.out]; rfl, (((((((B3.out.setCell (p := ⟨g, 0, none⟩) GE.out _).setCell (p := ⟨g, 1, none⟩) GE.out _).setCell (p := ⟨g, 2, none⟩) GE.out _).setCell (p := ⟨g, 3, none⟩) GE.out _).setCell (p := ⟨g, 4, none⟩) GE.out _).setCell (p := ⟨g, 5, none⟩) GE.out _).setCell (p := ⟨g, 6, none⟩) GE.out _)⟩
end Go.Proofs.YtodibjpojfipoaaGreatDoor
