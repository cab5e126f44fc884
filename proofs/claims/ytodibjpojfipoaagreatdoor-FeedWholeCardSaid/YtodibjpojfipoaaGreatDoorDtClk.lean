/- The reader: a time of day; a day with a space. -/
import Derived.Test.YtodibjpojfipoaaGreatDoorDtNum
namespace Go.Proofs.YtodibjpojfipoaaGreatDoor
open Go.RowKit
set_option linter.unusedVariables false
set_option linter.unusedSimpArgs false
set_option maxRecDepth 10000

/-- What a method that reads a value leaves. -/
def StepP (b : Nat) (s : ByteArray) (f : Bool) (w : World) (step : Option (Int × List Int)) (top : Int) (e : Ending) (w' : World) : Prop := ∃ (v : Int) (q : ByteArray) (f' : Bool), e = .returned (.int .i64 v) ∧ RdP b s f w w' q f' ∧ 0 ≤ v ∧ v < top ∧ (f = false → StepIs step v (btL q) f')
theorem num1_at (b : Nat) (s : ByteArray) (f : Bool) (w : World) (hb : Box w b #[.string s, .bool f] 87) :
    Calls Tryz.prog 73 #[.pointer (some ⟨b, 0, none⟩), .int .i64 1] w (StepP b s f w (numS 1 (btL s)) 10) := number_at b 1 s f w (by decide) hb
theorem num2_at (b : Nat) (s : ByteArray) (f : Bool) (w : World) (hb : Box w b #[.string s, .bool f] 87) :
    Calls Tryz.prog 73 #[.pointer (some ⟨b, 0, none⟩), .int .i64 2] w (StepP b s f w (numS 2 (btL s)) 100) := number_at b 2 s f w (by decide) hb
theorem num4_at (b : Nat) (s : ByteArray) (f : Bool) (w : World) (hb : Box w b #[.string s, .bool f] 87) :
    Calls Tryz.prog 73 #[.pointer (some ⟨b, 0, none⟩), .int .i64 4] w (StepP b s f w (numS 4 (btL s)) 10000) := number_at b 4 s f w (by decide) hb
theorem step_of {α : Type} {o : Option (α × List Int)} {f f' : Bool} {v : α} {l' : List Int} (h : (if f then none else o) = if f' then none else some (v, l')) : f = false → StepIs o v l' f' := by
  intro hf
  subst hf
  cases f' with
  | true => exact StepIs.of_none h
  | false => exact StepIs.of_some h
def ClkP (b : Nat) (s : ByteArray) (f : Bool) (w : World) (e : Ending) (w' : World) : Prop := ∃ (h m c : Int) (q : ByteArray) (f' : Bool), e = .returned (.tuple #[.int .i64 h, .int .i64 m, .int .i64 c]) ∧ RdP b s f w w' q f' ∧ (0 ≤ h ∧ h < 100 ∧ 0 ≤ m ∧ m < 100 ∧ 0 ≤ c ∧ c < 100) ∧ (f = false → StepIs (clkS (btL s)) (h, m, c) (btL q) f')
theorem clk_start (l : List Int) (f : Bool) : (if f then none else clkS l) = if f then none else (numS 2 l).bind fun a => (markS [58] a.2).bind fun b => (numS 2 b.2).bind fun c => (markS [58] c.2).bind fun d => (numS 2 d.2).bind fun e =>
    if 23 < a.1 ∨ 59 < c.1 ∨ 59 < e.1 then none else some ((a.1, c.1, e.1), e.2) := rfl
set_option maxHeartbeats 2000000 in
theorem clock_at (b : Nat) (s : ByteArray) (f : Bool) (w : World) (hb : Box w b #[.string s, .bool f] 87) :
    Calls Tryz.prog 75 #[.pointer (some ⟨b, 0, none⟩)] w (ClkP b s f w) := by
  have HB := Lib.hid hb
  clear hb
  go_enter Tryz.func75, Tryz.ntmps75
  go_wp2_with fail
  refine (num2_at b s f _ HB.out).mono ?_
  rintro e w1 ⟨h, q1, f1, rfl, R1, h0, h1, st⟩
  have H := Lib.hid (cont_step (clk_start (btL s) f) R1.fail st)
  have R1 := Lib.hid R1
  clear st
  go_wp2_with fail
  refine (mark_at b q1 ⟨#[58]⟩ f1 _ R1.out.box).mono ?_
  rintro e w2 ⟨q2, f2, rfl, R2, st⟩
  have H := Lib.hid (cont_step H.out R2.fail st)
  have R2 := Lib.hid (R1.out.trans R2)
  clear st
  go_wp2_with fail
  refine (num2_at b q2 f2 _ R2.out.box).mono ?_
  rintro e w3 ⟨m, q3, f3, rfl, R3, m0, m1, st⟩
  have H := Lib.hid (cont_step H.out R3.fail st)
  have R3 := Lib.hid (R2.out.trans R3)
  clear st
  go_wp2_with fail
  refine (mark_at b q3 ⟨#[58]⟩ f3 _ R3.out.box).mono ?_
  rintro e w4 ⟨q4, f4, rfl, R4, st⟩
  have H := Lib.hid (cont_step H.out R4.fail st)
  have R4 := Lib.hid (R3.out.trans R4)
  clear st
  go_wp2_with fail
  refine (num2_at b q4 f4 _ R4.out.box).mono ?_
  rintro e w5 ⟨c, q5, f5, rfl, R5, c0, c1, st⟩
  have H := Lib.hid (cont_step H.out R5.fail st)
  have R5 := Lib.hid (R4.out.trans R5)
  clear st
  by_cases a1 : 23 < h
  · have e1 : decide (23 < h) = true := decide_eq_true a1
    have hbad : 23 < h ∨ 59 < m ∨ 59 < c := Or.inl a1
    have HN : Hid ((if f then none else clkS (btL s)) = none) := Lib.hid (by rw [H.out, if_pos hbad]; split <;> rfl)
    clear hbad
    go_wp2_with fail
    refine (fail_at b q5 f5 _ R5.out.box).mono ?_
    rintro e w6 ⟨rfl, R6⟩
    have R6 := Lib.hid R6
    go_wp2
    go_ret3
    exact ⟨h, m, c, q5, true, rfl, R5.out.trans R6.out, ⟨h0, h1, m0, m1, c0, c1⟩, fun hf => StepIs.of_none (by have := HN.out; rw [hf] at this; exact this)⟩
  · have e1 : decide (23 < h) = false := decide_eq_false a1
    by_cases a2 : 59 < m
    · have e2 : decide (59 < m) = true := decide_eq_true a2
      have hbad : 23 < h ∨ 59 < m ∨ 59 < c := Or.inr (Or.inl a2)
      have HN : Hid ((if f then none else clkS (btL s)) = none) := Lib.hid (by rw [H.out, if_pos hbad]; split <;> rfl)
      clear hbad
      go_wp2_with fail
      refine (fail_at b q5 f5 _ R5.out.box).mono ?_
      rintro e w6 ⟨rfl, R6⟩
      have R6 := Lib.hid R6
      go_wp2
      go_ret3
      exact ⟨h, m, c, q5, true, rfl, R5.out.trans R6.out, ⟨h0, h1, m0, m1, c0, c1⟩, fun hf => StepIs.of_none (by have := HN.out; rw [hf] at this; exact this)⟩
    · have e2 : decide (59 < m) = false := decide_eq_false a2
      by_cases a3 : 59 < c
      · have e3 : decide (59 < c) = true := decide_eq_true a3
        have hbad : 23 < h ∨ 59 < m ∨ 59 < c := Or.inr (Or.inr a3)
        have HN : Hid ((if f then none else clkS (btL s)) = none) := Lib.hid (by rw [H.out, if_pos hbad]; split <;> rfl)
        clear hbad
        go_wp2_with fail
        refine (fail_at b q5 f5 _ R5.out.box).mono ?_
        rintro e w6 ⟨rfl, R6⟩
        have R6 := Lib.hid R6
        go_wp2
        go_ret3
        exact ⟨h, m, c, q5, true, rfl, R5.out.trans R6.out, ⟨h0, h1, m0, m1, c0, c1⟩, fun hf => StepIs.of_none (by have := HN.out; rw [hf] at this; exact this)⟩
      · have e3 : decide (59 < c) = false := decide_eq_false a3
        have HN : Hid ((if f then none else clkS (btL s)) = if f5 then none else some ((h, m, c), btL q5)) := Lib.hid (by rw [H.out, if_neg (show ¬ (23 < h ∨ 59 < m ∨ 59 < c) by omega)])
        go_wp2
        go_ret3
        exact ⟨h, m, c, q5, f5, rfl, R5.out, ⟨h0, h1, m0, m1, c0, c1⟩, step_of HN.out⟩
set_option maxHeartbeats 2000000 in
theorem spaced_at (b : Nat) (s : ByteArray) (f : Bool) (w : World) (hb : Box w b #[.string s, .bool f] 87) :
    Calls Tryz.prog 79 #[.pointer (some ⟨b, 0, none⟩)] w (StepP b s f w (spcS (btL s)) 100) := by
  have HB := Lib.hid hb
  clear hb
  go_enter Tryz.func79, Tryz.ntmps79
  go_wp2_with fail
  refine (skip_at b s ⟨#[32]⟩ f _ HB.out).mono ?_
  rintro e w1 ⟨q1, x, rfl, R1, c1, c2⟩
  have C1 := Lib.hid c1
  have C2 := Lib.hid c2
  have R1 := Lib.hid R1
  clear c1 c2
  cases x with
  | true =>
    have HS : Hid (spcS (btL s) = numS 1 (btL q1)) := Lib.hid (spcS_one (C1.out (by simp)))
    go_wp2_with fail
    refine (num1_at b q1 f _ R1.out.box).mono ?_
    rintro e w2 ⟨v, q2, f2, rfl, R2, v0, v1, st⟩
    have R2 := Lib.hid (R1.out.trans R2)
    have ST := Lib.hid st
    clear st
    go_wp2
    go_ret
    exact ⟨v, q2, f2, rfl, R2.out, v0, by omega, by rw [HS.out]; exact ST.out⟩
  | false =>
    have HS : Hid ((if f then none else spcS (btL s)) = if f then none else (numS 2 (btL q1)).bind fun r => if r.1 < 10 then none else some r) := Lib.hid (by rw [spcS_two (C2.out (by simp)).1, (C2.out (by simp)).2])
    go_wp2_with fail
    refine (num2_at b q1 f _ R1.out.box).mono ?_
    rintro e w2 ⟨v, q2, f2, rfl, R2, v0, v1, st⟩
    have H := Lib.hid (cont_step HS.out R2.fail st)
    have R2 := Lib.hid (R1.out.trans R2)
    clear st HS
    by_cases a1 : v < 10
    · have e1 : decide (v < 10) = true := decide_eq_true a1
      have HN : Hid ((if f then none else spcS (btL s)) = none) := Lib.hid (by rw [H.out, if_pos a1]; split <;> rfl)
      go_wp2_with fail
      refine (fail_at b q2 f2 _ R2.out.box).mono ?_
      rintro e w6 ⟨rfl, R6⟩
      have R6 := Lib.hid R6
      go_wp2
      go_ret
      exact ⟨0, q2, true, rfl, R2.out.trans R6.out, by omega, by omega, fun hf => StepIs.of_none (by have := HN.out; rw [hf] at this; exact this)⟩
    · have e1 : decide (v < 10) = false := decide_eq_false a1
      have HN : Hid ((if f then none else spcS (btL s)) = if f2 then none else some (v, btL q2)) := Lib.hid (by rw [H.out, if_neg a1])
      go_wp2
      go_ret
      exact ⟨v, q2, f2, rfl, R2.out, v0, v1, step_of HN.out⟩
end Go.Proofs.YtodibjpojfipoaaGreatDoor
