/- FeedClasses: of any status. -/
import Derived.Test.YtodibjpojfipoaaGreatDoorFeRfm
namespace Go.Proofs.YtodibjpojfipoaaGreatDoor
open Go Go.RowKit
set_option linter.unusedVariables false
set_option linter.unusedSimpArgs false
set_option maxRecDepth 10000

set_option maxHeartbeats 1000000 in
theorem rparse0_at (w : World) : Calls Tryz.prog 61 #[.string ⟨#[]⟩] w fun e w' => ∃ a, e = .returned (.tuple #[.slice a 0 0, .bool true]) ∧ Below w.heap.size w w' := by
  go_enter Tryz.func61, Tryz.ntmps61
  go_wp2
  go_loop [0] (fun v => v = .string ⟨#[]⟩) (fun v => 0)
  case atStart => rfl
  case round =>
    subst hrel
    go_wp2
    go_loop [0] (fun v => v = .string ⟨#[]⟩) (fun v => 0)
    case atStart => rfl
    case round =>
      subst hrel
      go_wp2
      go_ret2
      exact ⟨⟨_, rfl⟩, (Below.refl _ _).alloc (Nat.le_refl _) _⟩
set_option maxHeartbeats 1000000 in
theorem rlimit0_at (w : World) : Calls Tryz.prog 31 #[.slice none 0 0] w fun e w' => e = .returned (.tuple #[.int .i64 0, .bool false]) ∧ Below w.heap.size w w' := by
  have FD := Lib.hid (fun W : World => rfield_at none 0 0 0 [] (by decide) (fun x hx => by cases hx) ⟨#[82, 97, 116, 101, 76, 105, 109, 105, 116]⟩ kRl (by decide) (by decide) W (fun h => absurd rfl h) (fun h => absurd rfl h))
  go_enter Tryz.func31, Tryz.ntmps31
  go_wp2_with fail
  refine (FD.out _).mono ?_
  rintro e w1 ⟨rfl, hb⟩
  have HB1 := Lib.hid hb
  clear hb
  have e1 : valH kRl [] = ⟨#[]⟩ := rfl
  have e2 : hasH kRl [] = false := rfl
  rw [e1, e2]
  clear e1 e2
  go_wp2_with fail
  refine (rparse0_at _).mono ?_
  rintro e w2 ⟨a, rfl, hb⟩
  have HB2 := Lib.hid (HB1.out.trans (hb.mono HB1.out.size))
  clear hb
  go_wp2
  go_ret2
  exact ⟨rfl, HB2.out⟩
theorem rfrom0_at (st : Int) (w : World) : Calls Tryz.prog 9 #[.int .i64 st, .slice none 0 0, .int .i64 0] w fun e w' => e = .returned (.agg #[.int .i64 (classI st), .int .i64 0, .int .i64 0]) ∧ Below w.heap.size w w' := by
  have := rfrom_at st none 0 0 0 [] (by decide) (fun x hx => by cases hx) 0 0 w (fun h => absurd rfl h) (fun h => absurd rfl h)
    (fun W hW => rreset_at none 0 0 0 [] (by decide) (fun x hx => by cases hx) 0 W (fun h => absurd rfl h) (fun h => absurd rfl h) 0 false ⟨by decide, fun h => by cases h⟩ (fun W' hW' => rlimit0_at W'))
    (fun h => absurd h (by decide))
  rw [show retO 0 0 [] = none from rfl, show resO 0 [] = none from rfl] at this
  exact this
set_option maxHeartbeats 1000000 in
theorem feedClasses_walk (st : Int) (w : World) (_w0 : (Lit.int .i64 st).wf = true) (hT : TabD w) :
    Calls Tryz.prog 3 #[.int .i64 st] w fun e w' => e = .returned (.bool true) ∧ Below w.heap.size w w' := by
  have AW := Lib.hid (fawake_at w hT)
  have CL := Lib.hid (fun W : World => fclass_at st W)
  have RF := Lib.hid (fun W : World => rfrom0_at st W)
  obtain ⟨C, hC⟩ : ∃ C, classI st = C := ⟨_, rfl⟩
  rw [hC] at CL RF
  clear hC hT
  have hcc : (C == C) = true := by simp
  go_enter Tryz.func3, Tryz.ntmps3
  go_wp2_with fail
  refine AW.out.mono ?_
  rintro e w1 ⟨rfl, hb⟩
  have HB1 := Lib.hid hb
  clear hb
  go_wp2_with fail
  refine (CL.out _).mono ?_
  rintro e w2 ⟨rfl, hw⟩
  subst w2
  go_wp2_with fail
  refine (RF.out _).mono ?_
  rintro e w3 ⟨rfl, hb⟩
  have HB2 := Lib.hid (HB1.out.trans (hb.mono HB1.out.size))
  clear hb
  have FL : (Instr.field 25 (.agg #[.int .i64 C, .int .i64 0, .int .i64 0]) 0).run Tryz.prog w3 = .ok (.int .i64 C) w3 := by
    first
    | rfl
    | kernel_rfl
    | simp [Instr.field, run_underlying]
  go_wp2
  go_ret
  exact ⟨rfl, HB2.out⟩
end Go.Proofs.YtodibjpojfipoaaGreatDoor
