/- A dot in a name: the program's step; the function that it calls lies in a box. -/
import Derived.Test.YtcdodpkfhkfnkaaDoorUrFind
/- Letters and digits: the program's. -/
namespace Go.Proofs.YtcdodpkfhkfnkaaDoor
open Go.RowKit
set_option linter.unusedVariables false
set_option linter.unusedSimpArgs false
set_option maxRecDepth 10000

set_option maxHeartbeats 1000000 in
theorem adigit_as (c : Int) (b : Bool) (hb : decide (48 ≤ c ∧ c ≤ 57) = b) (w : World) :
    Calls Tryd.prog 113 #[.int .i32 c] w fun e w' => e = .returned (.bool b) ∧ w = w' := by
  have HB := Lib.hid hb
  clear hb
  by_cases h1 : 48 ≤ c
  · have d1 : decide ((48 : Int) ≤ c) = true := decide_eq_true h1
    by_cases h2 : c ≤ 57
    · have d2 : decide (c ≤ (57 : Int)) = true := decide_eq_true h2
      have HE : Hid (true = b) := Lib.hid (by rw [← HB.out, decide_eq_true ⟨h1, h2⟩])
      go_enter Tryd.func113, Tryd.ntmps113
      go_wp2
      go_ret
      rw [← HE.out]
      exact ⟨rfl, rfl⟩
    · have d2 : decide (c ≤ (57 : Int)) = false := decide_eq_false h2
      have HE : Hid (false = b) := Lib.hid (by rw [← HB.out, decide_eq_false (fun h => h2 h.2)])
      go_enter Tryd.func113, Tryd.ntmps113
      go_wp2
      go_ret
      rw [← HE.out]
      exact ⟨rfl, rfl⟩
  · have d1 : decide ((48 : Int) ≤ c) = false := decide_eq_false h1
    have HE : Hid (false = b) := Lib.hid (by rw [← HB.out, decide_eq_false (fun h => h1 h.1)])
    go_enter Tryd.func113, Tryd.ntmps113
    go_wp2
    go_ret
    rw [← HE.out]
    exact ⟨rfl, rfl⟩
set_option maxHeartbeats 1000000 in
theorem aletter_as (c : Int) (b : Bool) (hb : decide ((97 ≤ c ∧ c ≤ 122) ∨ (65 ≤ c ∧ c ≤ 90)) = b) (w : World) :
    Calls Tryd.prog 112 #[.int .i32 c] w fun e w' => e = .returned (.bool b) ∧ w = w' := by
  have HB := Lib.hid hb
  clear hb
  have key : ∀ x : Bool, (decide ((97 ≤ c ∧ c ≤ 122) ∨ (65 ≤ c ∧ c ≤ 90)) = x) → Hid (x = b) := fun x h => Lib.hid (by rw [← HB.out, h])
  by_cases h1 : 97 ≤ c
  · have d1 : decide ((97 : Int) ≤ c) = true := decide_eq_true h1
    have d3 : decide ((65 : Int) ≤ c) = true := decide_eq_true (by omega)
    have d4 : decide (c ≤ (90 : Int)) = false := decide_eq_false (by omega)
    by_cases h2 : c ≤ 122
    · have d2 : decide (c ≤ (122 : Int)) = true := decide_eq_true h2
      have HE := key true (decide_eq_true (by omega))
      clear key
      go_enter Tryd.func112, Tryd.ntmps112
      go_wp2
      go_ret
      rw [← HE.out]
      exact ⟨rfl, rfl⟩
    · have d2 : decide (c ≤ (122 : Int)) = false := decide_eq_false h2
      have HE := key false (decide_eq_false (by omega))
      clear key
      go_enter Tryd.func112, Tryd.ntmps112
      go_wp2
      go_ret
      rw [← HE.out]
      exact ⟨rfl, rfl⟩
  · have d1 : decide ((97 : Int) ≤ c) = false := decide_eq_false h1
    by_cases h3 : 65 ≤ c
    · have d3 : decide ((65 : Int) ≤ c) = true := decide_eq_true h3
      by_cases h4 : c ≤ 90
      · have d4 : decide (c ≤ (90 : Int)) = true := decide_eq_true h4
        have HE := key true (decide_eq_true (by omega))
        clear key
        go_enter Tryd.func112, Tryd.ntmps112
        go_wp2
        go_ret
        rw [← HE.out]
        exact ⟨rfl, rfl⟩
      · have d4 : decide (c ≤ (90 : Int)) = false := decide_eq_false h4
        have HE := key false (decide_eq_false (by omega))
        clear key
        go_enter Tryd.func112, Tryd.ntmps112
        go_wp2
        go_ret
        rw [← HE.out]
        exact ⟨rfl, rfl⟩
    · have d3 : decide ((65 : Int) ≤ c) = false := decide_eq_false h3
      have HE := key false (decide_eq_false (by omega))
      clear key
      go_enter Tryd.func112, Tryd.ntmps112
      go_wp2
      go_ret
      rw [← HE.out]
      exact ⟨rfl, rfl⟩
end Go.Proofs.YtcdodpkfhkfnkaaDoor
/- One digit of a port: the program's step. -/
namespace Go.Proofs.YtcdodpkfhkfnkaaDoor
open Go.RowKit
set_option linter.unusedVariables false
set_option linter.unusedSimpArgs false
set_option maxRecDepth 10000

set_option maxHeartbeats 1000000 in
theorem pstep_none (c v : Int) (g : Nat) (w : World) (hc : ¬ (48 ≤ c ∧ c ≤ 57)) (hb : Box w g #[.int .i64 v] 3) :
    Calls Tryd.prog 114 #[.int .i32 c, .pointer (some ⟨g, 0, none⟩)] w fun e w' => e = .returned (.bool false) ∧ w' = w := by
  go_enter Tryd.func114, Tryd.ntmps114
  go_wp2_with fail
  refine (adigit_as c false (decide_eq_false hc) _).mono ?_
  rintro e w1 ⟨rfl, hw⟩
  subst w1
  clear hc
  go_wp2
  go_ret
  exact ⟨rfl, rfl⟩
set_option maxHeartbeats 1000000 in
theorem pstep_zero (g : Nat) (w : World) (hb : Box w g #[.int .i64 0] 3) :
    Calls Tryd.prog 114 #[.int .i32 48, .pointer (some ⟨g, 0, none⟩)] w fun e w' => e = .returned (.bool false) ∧ w' = w := by
  have c0 : w.cell? ⟨g, 0, none⟩ = some (.int .i64 0) := by rw [hb.cell 0]; rfl
  clear hb
  go_enter Tryd.func114, Tryd.ntmps114
  go_wp2_with fail
  refine (adigit_as 48 true (by decide) _).mono ?_
  rintro e w1 ⟨rfl, hw⟩
  subst w1
  go_wp2
  go_ret
  exact ⟨rfl, rfl⟩
set_option maxHeartbeats 1000000 in
theorem pstep_yes (c v z : Int) (b : Bool) (g : Nat) (w : World) (h1 : 48 ≤ c) (h2 : c ≤ 57) (h0 : ¬ (c = 48 ∧ v = 0)) (v0 : 0 ≤ v) (v1 : v ≤ 65535) (hz : 10 * v + (c - 48) = z) (hbz : decide (z ≤ 65535) = b) (hb : Box w g #[.int .i64 v] 3) :
    Calls Tryd.prog 114 #[.int .i32 c, .pointer (some ⟨g, 0, none⟩)] w fun e w' => e = .returned (.bool b) ∧ w' = w.setCell ⟨g, 0, none⟩ (.int .i64 z) := by
  have c0 : w.cell? ⟨g, 0, none⟩ = some (.int .i64 v) := by rw [hb.cell 0]; rfl
  have lt := hb.lt
  have fr := hb.free 0
  have e1 : IntKind.i64.wrap (10 * v) = 10 * v := IntWalk.i64_in _ (by omega)
  have e2 : IntKind.i32.wrap (c - 48) = c - 48 := by
    have := IntKind.wrap_i32 (c - 48)
    omega
  have e3 : IntKind.i64.wrap (c - 48) = c - 48 := IntWalk.i64_in _ (by omega)
  have e4 : IntKind.i64.wrap (10 * v + (c - 48)) = z := by rw [IntWalk.i64_in _ (by omega)]; exact hz
  have HD : Hid (48 ≤ c ∧ c ≤ 57) := Lib.hid ⟨h1, h2⟩
  by_cases h48 : c = 48
  · have hv : (v == 0) = false := beq_eq_false_iff_ne.2 (fun e => h0 ⟨h48, e⟩)
    have hv2 : ¬ v = 0 := fun e => h0 ⟨h48, e⟩
    have d48 : (c == 48) = true := beq_iff_eq.2 h48
    have HC := Lib.hid h48
    clear h1 h2 h0 hz hb h48 v0 v1
    go_enter Tryd.func114, Tryd.ntmps114
    go_wp2_with fail
    refine (adigit_as c true (decide_eq_true HD.out) _).mono ?_
    rintro e w1 ⟨rfl, hw⟩
    subst w1
    go_wp2
    go_ret
    exact ⟨rfl, rfl⟩
  · have d48 : (c == 48) = false := beq_eq_false_iff_ne.2 h48
    clear h1 h2 h0 hz hb v0 v1
    go_enter Tryd.func114, Tryd.ntmps114
    go_wp2_with fail
    refine (adigit_as c true (decide_eq_true HD.out) _).mono ?_
    rintro e w1 ⟨rfl, hw⟩
    subst w1
    go_wp2
    go_ret
    exact ⟨rfl, rfl⟩
end Go.Proofs.YtcdodpkfhkfnkaaDoor
/- Whether a label is complete: the program's. -/
namespace Go.Proofs.YtcdodpkfhkfnkaaDoor
open Go.RowKit
set_option linter.unusedVariables false
set_option linter.unusedSimpArgs false
set_option maxRecDepth 10000

set_option maxHeartbeats 1000000 in
theorem ended_at (n : Nat) (c : Int) (g g2 : Nat) (b : Bool) (w : World) (hv : (decide (0 < n) && decide (c ≠ 45)) = b) (hb : Box w g #[.int .i64 (n : Int)] 3) (hb2 : Box w g2 #[.int .i32 c] 21) :
    Calls Tryd.prog 109 #[.pointer (some ⟨g, 0, none⟩), .pointer (some ⟨g2, 0, none⟩)] w fun e w' => e = .returned (.bool b) ∧ w' = w := by
  have c0 : w.cell? ⟨g, 0, none⟩ = some (.int .i64 (n : Int)) := by rw [hb.cell 0]; rfl
  have c1 : w.cell? ⟨g2, 0, none⟩ = some (.int .i32 c) := by rw [hb2.cell 0]; rfl
  have HV := Lib.hid hv
  clear hb hb2 hv
  by_cases h : 0 < n
  · have d1 : decide ((0 : Int) < (n : Int)) = true := decide_eq_true (by omega)
    by_cases h2 : c = 45
    · have hq : (c != 45) = false := by rw [bne_eq_false_iff_eq]; exact h2
      have HE : Hid (false = b) := Lib.hid (by rw [← HV.out, decide_eq_false (show ¬ (c ≠ 45) from fun e => e h2), Bool.and_false])
      go_enter Tryd.func109, Tryd.ntmps109
      go_wp2
      go_ret
      rw [← HE.out]
      exact ⟨rfl, rfl⟩
    · have hq : (c != 45) = true := bne_iff_ne.2 h2
      have HE : Hid (true = b) := Lib.hid (by rw [← HV.out, decide_eq_true h, decide_eq_true h2]; rfl)
      go_enter Tryd.func109, Tryd.ntmps109
      go_wp2
      go_ret
      rw [← HE.out]
      exact ⟨rfl, rfl⟩
  · have d1 : decide ((0 : Int) < (n : Int)) = false := decide_eq_false (by omega)
    have HE : Hid (false = b) := Lib.hid (by rw [← HV.out, decide_eq_false h, Bool.false_and])
    go_enter Tryd.func109, Tryd.ntmps109
    go_wp2
    go_ret
    rw [← HE.out]
    exact ⟨rfl, rfl⟩
end Go.Proofs.YtcdodpkfhkfnkaaDoor
/- One letter of a name: the program's step, where it is no dot. -/
namespace Go.Proofs.YtcdodpkfhkfnkaaDoor
open Go.RowKit
set_option linter.unusedVariables false
set_option linter.unusedSimpArgs false
set_option maxRecDepth 10000

theorem aln_split (c : Int) : alnI c = (decide ((97 ≤ c ∧ c ≤ 122) ∨ (65 ≤ c ∧ c ≤ 90)) || decide (48 ≤ c ∧ c ≤ 57)) := by
  unfold alnI
  rw [← Bool.decide_or, decide_eq_decide]
  omega
set_option maxHeartbeats 1000000 in
theorem nstep_bad (c : Int) (f g g2 : Nat) (w : World) (h1 : c ≠ 46) (h2 : c ≠ 45) (h3 : alnI c = false) :
    Calls Tryd.prog 111 #[.int .i32 c, .pointer (some ⟨f, 0, none⟩), .pointer (some ⟨g, 0, none⟩), .pointer (some ⟨g2, 0, none⟩)] w fun e w' => e = .returned (.bool false) ∧ w' = w := by
  rw [aln_split, Bool.or_eq_false_iff] at h3
  have d1 : (c == 46) = false := beq_eq_false_iff_ne.2 h1
  have d2 : (c == 45) = false := beq_eq_false_iff_ne.2 h2
  have HA := Lib.hid h3.1
  have HB := Lib.hid h3.2
  clear h3
  go_enter Tryd.func111, Tryd.ntmps111
  go_wp2_with fail
  refine (aletter_as c false HA.out _).mono ?_
  rintro e w1 ⟨rfl, hw⟩
  subst w1
  go_wp2_with fail
  refine (adigit_as c false HB.out _).mono ?_
  rintro e w1 ⟨rfl, hw⟩
  subst w1
  go_wp2
  go_ret
  exact ⟨rfl, rfl⟩
set_option maxHeartbeats 1000000 in
theorem nstep_first (f g g2 : Nat) (w : World) (hb : Box w g #[.int .i64 0] 3) :
    Calls Tryd.prog 111 #[.int .i32 45, .pointer (some ⟨f, 0, none⟩), .pointer (some ⟨g, 0, none⟩), .pointer (some ⟨g2, 0, none⟩)] w fun e w' => e = .returned (.bool false) ∧ w' = w := by
  have c0 : w.cell? ⟨g, 0, none⟩ = some (.int .i64 0) := by rw [hb.cell 0]; rfl
  clear hb
  go_enter Tryd.func111, Tryd.ntmps111
  go_wp2
  go_ret
  exact ⟨rfl, rfl⟩
end Go.Proofs.YtcdodpkfhkfnkaaDoor
/- One letter of a name that goes on: the program's step. -/
namespace Go.Proofs.YtcdodpkfhkfnkaaDoor
open Go.RowKit
set_option linter.unusedVariables false
set_option linter.unusedSimpArgs false
set_option maxRecDepth 10000

set_option maxHeartbeats 1000000 in
theorem nstep_let (n : Nat) (c c' : Int) (b : Bool) (f g g2 : Nat) (w : World) (h1 : c ≠ 46) (h2 : c ≠ 45) (h3 : decide ((97 ≤ c ∧ c ≤ 122) ∨ (65 ≤ c ∧ c ≤ 90)) = true) (hn : n ≤ 1000) (hne : g ≠ g2) (hv : decide (n + 1 ≤ 63) = b) (hb : Box w g #[.int .i64 (n : Int)] 3) (hb2 : Box w g2 #[.int .i32 c'] 21) :
    Calls Tryd.prog 111 #[.int .i32 c, .pointer (some ⟨f, 0, none⟩), .pointer (some ⟨g, 0, none⟩), .pointer (some ⟨g2, 0, none⟩)] w fun e w' => e = .returned (.bool b) ∧ w' = (w.setCell ⟨g, 0, none⟩ (.int .i64 ((n : Int) + 1))).setCell ⟨g2, 0, none⟩ (.int .i32 c) := by
  have d1 : (c == 46) = false := beq_eq_false_iff_ne.2 h1
  have d2 : (c == 45) = false := beq_eq_false_iff_ne.2 h2
  have c0 : w.cell? ⟨g, 0, none⟩ = some (.int .i64 (n : Int)) := by rw [hb.cell 0]; rfl
  have c1 : w.cell? ⟨g2, 0, none⟩ = some (.int .i32 c') := by rw [hb2.cell 0]; rfl
  have l0 := hb.lt
  have l1 := hb2.lt
  have f0 := hb.free 0
  have f1 := hb2.free 0
  have e1 : IntKind.i64.wrap ((n : Int) + 1) = (n : Int) + 1 := IntWalk.i64_in _ (by omega)
  have HA := Lib.hid h3
  have HV : Hid (decide ((n : Int) + 1 ≤ 63) = b) := Lib.hid (by rw [← hv, decide_eq_decide]; omega)
  clear hb hb2 h3 hv hn
  go_enter Tryd.func111, Tryd.ntmps111
  go_wp2_with fail
  refine (aletter_as c true HA.out _).mono ?_
  rintro e w1 ⟨rfl, hw⟩
  subst w1
  go_wp2
  go_ret
  rw [← HV.out]
  exact ⟨rfl, rfl⟩
set_option maxHeartbeats 1000000 in
theorem nstep_dig (n : Nat) (c c' : Int) (b : Bool) (f g g2 : Nat) (w : World) (h1 : c ≠ 46) (h2 : c ≠ 45) (h4 : 48 ≤ c) (h5 : c ≤ 57) (hn : n ≤ 1000) (hne : g ≠ g2) (hv : decide (n + 1 ≤ 63) = b) (hb : Box w g #[.int .i64 (n : Int)] 3) (hb2 : Box w g2 #[.int .i32 c'] 21) :
    Calls Tryd.prog 111 #[.int .i32 c, .pointer (some ⟨f, 0, none⟩), .pointer (some ⟨g, 0, none⟩), .pointer (some ⟨g2, 0, none⟩)] w fun e w' => e = .returned (.bool b) ∧ w' = (w.setCell ⟨g, 0, none⟩ (.int .i64 ((n : Int) + 1))).setCell ⟨g2, 0, none⟩ (.int .i32 c) := by
  have d1 : (c == 46) = false := beq_eq_false_iff_ne.2 h1
  have d2 : (c == 45) = false := beq_eq_false_iff_ne.2 h2
  have c0 : w.cell? ⟨g, 0, none⟩ = some (.int .i64 (n : Int)) := by rw [hb.cell 0]; rfl
  have c1 : w.cell? ⟨g2, 0, none⟩ = some (.int .i32 c') := by rw [hb2.cell 0]; rfl
  have l0 := hb.lt
  have l1 := hb2.lt
  have f0 := hb.free 0
  have f1 := hb2.free 0
  have e1 : IntKind.i64.wrap ((n : Int) + 1) = (n : Int) + 1 := IntWalk.i64_in _ (by omega)
  have HA : Hid (decide ((97 ≤ c ∧ c ≤ 122) ∨ (65 ≤ c ∧ c ≤ 90)) = false) := Lib.hid (decide_eq_false (by omega))
  have HB : Hid (decide (48 ≤ c ∧ c ≤ 57) = true) := Lib.hid (decide_eq_true ⟨h4, h5⟩)
  have HV : Hid (decide ((n : Int) + 1 ≤ 63) = b) := Lib.hid (by rw [← hv, decide_eq_decide]; omega)
  clear hb hb2 h4 h5 hv hn
  go_enter Tryd.func111, Tryd.ntmps111
  go_wp2_with fail
  refine (aletter_as c false HA.out _).mono ?_
  rintro e w1 ⟨rfl, hw⟩
  subst w1
  go_wp2_with fail
  refine (adigit_as c true HB.out _).mono ?_
  rintro e w1 ⟨rfl, hw⟩
  subst w1
  go_wp2
  go_ret
  rw [← HV.out]
  exact ⟨rfl, rfl⟩
set_option maxHeartbeats 1000000 in
theorem nstep_dash (n : Nat) (c' : Int) (b : Bool) (f g g2 : Nat) (w : World) (h0 : 0 < n) (hn : n ≤ 1000) (hne : g ≠ g2) (hv : decide (n + 1 ≤ 63) = b) (hb : Box w g #[.int .i64 (n : Int)] 3) (hb2 : Box w g2 #[.int .i32 c'] 21) :
    Calls Tryd.prog 111 #[.int .i32 45, .pointer (some ⟨f, 0, none⟩), .pointer (some ⟨g, 0, none⟩), .pointer (some ⟨g2, 0, none⟩)] w fun e w' => e = .returned (.bool b) ∧ w' = (w.setCell ⟨g, 0, none⟩ (.int .i64 ((n : Int) + 1))).setCell ⟨g2, 0, none⟩ (.int .i32 45) := by
  have c0 : w.cell? ⟨g, 0, none⟩ = some (.int .i64 (n : Int)) := by rw [hb.cell 0]; rfl
  have c1 : w.cell? ⟨g2, 0, none⟩ = some (.int .i32 c') := by rw [hb2.cell 0]; rfl
  have l0 := hb.lt
  have l1 := hb2.lt
  have f0 := hb.free 0
  have f1 := hb2.free 0
  have e1 : IntKind.i64.wrap ((n : Int) + 1) = (n : Int) + 1 := IntWalk.i64_in _ (by omega)
  have d0 : ((n : Int) == 0) = false := beq_eq_false_iff_ne.2 (by omega)
  have d3 : ¬ (n : Int) = 0 := by omega
  have d4 : ¬ n = 0 := by omega
  have HV : Hid (decide ((n : Int) + 1 ≤ 63) = b) := Lib.hid (by rw [← hv, decide_eq_decide]; omega)
  clear hb hb2 hv hn h0
  go_enter Tryd.func111, Tryd.ntmps111
  go_wp2
  go_ret
  rw [← HV.out]
  exact ⟨rfl, rfl⟩
end Go.Proofs.YtcdodpkfhkfnkaaDoor
namespace Go.Proofs.YtcdodpkfhkfnkaaDoor
open Go.RowKit
set_option linter.unusedVariables false
set_option linter.unusedSimpArgs false
set_option maxRecDepth 10000

set_option maxHeartbeats 1000000 in
theorem nstep_dot (n : Nat) (c' : Int) (b : Bool) (f g g2 : Nat) (w : World) (hne : g ≠ g2) (hv : (decide (0 < n) && decide (c' ≠ 45)) = b) (hb : Box w g #[.int .i64 (n : Int)] 3) (hb2 : Box w g2 #[.int .i32 c'] 21)
    (hf : Box w f #[.func (.func 109) #[] #[.pointer (some ⟨g, 0, none⟩), .pointer (some ⟨g2, 0, none⟩)]] 27) :
    Calls Tryd.prog 111 #[.int .i32 46, .pointer (some ⟨f, 0, none⟩), .pointer (some ⟨g, 0, none⟩), .pointer (some ⟨g2, 0, none⟩)] w fun e w' => e = .returned (.bool b) ∧ w' = (w.setCell ⟨g, 0, none⟩ (.int .i64 0)).setCell ⟨g2, 0, none⟩ (.int .i32 46) := by
  have cf : w.cell? ⟨f, 0, none⟩ = some (.func (.func 109) #[] #[.pointer (some ⟨g, 0, none⟩), .pointer (some ⟨g2, 0, none⟩)]) := by rw [hf.cell 0]; rfl
  have c0 : w.cell? ⟨g, 0, none⟩ = some (.int .i64 (n : Int)) := by rw [hb.cell 0]; rfl
  have c1 : w.cell? ⟨g2, 0, none⟩ = some (.int .i32 c') := by rw [hb2.cell 0]; rfl
  have l0 := hb.lt
  have l1 := hb2.lt
  have f0 := hb.free 0
  have f1 := hb2.free 0
  have HB := Lib.hid hb
  have HB2 := Lib.hid hb2
  have HV := Lib.hid hv
  clear hb hb2 hf hv
  go_enter Tryd.func111, Tryd.ntmps111
  go_wp2_with fail
  refine (ended_at n c' g g2 b w HV.out HB.out HB2.out).mono ?_
  rintro e w1 ⟨rfl, hw⟩
  subst w1
  go_wp2
  go_ret
  exact ⟨rfl, rfl⟩
end Go.Proofs.YtcdodpkfhkfnkaaDoor
