/- Awake; no text; DateWrites, DateThree: the walks. -/
import Derived.Test.YtcbllfbhifimnaaDoorDtAwk
namespace Go.Proofs.YtcbllfbhifimnaaDoor
open Go.RowKit
set_option linter.unusedVariables false
set_option linter.unusedSimpArgs false
set_option maxRecDepth 10000

set_option maxHeartbeats 2000000 in
theorem d_awake (w : World) (hT : TabT w) : Calls Tryd.prog 8 #[] w fun e w' => e = .returned (.bool true) ∧ Below w.heap.size w w' := by
  have HT := Lib.hid hT
  clear hT
  have P1 : Hid (∀ W : World, TabT W → Calls Tryd.prog 9 #[.string ⟨#[83, 117, 110, 44, 32, 48, 54, 32, 78, 111, 118, 32, 49, 57, 57, 52, 32, 48, 56, 58, 52, 57, 58, 51, 55, 32, 71, 77, 84]⟩, .int .i64 0] W fun e w' => e = .returned (.tuple #[.int .i64 784111777, .bool true]) ∧ Below W.heap.size W w') := Lib.hid (fun W hW => parse_as _ 0 (some 784111777) (by omega) (by omega) (fun Y _ => aw_a Y) W hW)
  have P2 : Hid (∀ W : World, TabT W → Calls Tryd.prog 9 #[.string ⟨#[83, 117, 110, 100, 97, 121, 44, 32, 48, 54, 45, 78, 111, 118, 45, 57, 52, 32, 48, 56, 58, 52, 57, 58, 51, 55, 32, 71, 77, 84]⟩, .int .i64 800000000] W fun e w' => e = .returned (.tuple #[.int .i64 784111777, .bool true]) ∧ Below W.heap.size W w') := Lib.hid (fun W hW => parse_as _ 800000000 (some 784111777) (by omega) (by omega) (fun Y hY => by rw [hY.uniq y_95]; exact aw_b) W hW)
  have P3 : Hid (∀ W : World, TabT W → Calls Tryd.prog 9 #[.string ⟨#[83, 117, 110, 32, 78, 111, 118, 32, 32, 54, 32, 48, 56, 58, 52, 57, 58, 51, 55, 32, 49, 57, 57, 52]⟩, .int .i64 0] W fun e w' => e = .returned (.tuple #[.int .i64 784111777, .bool true]) ∧ Below W.heap.size W w') := Lib.hid (fun W hW => parse_as _ 0 (some 784111777) (by omega) (by omega) (fun Y _ => aw_c Y) W hW)
  have P4 : Hid (∀ W : World, TabT W → Calls Tryd.prog 12 #[.int .i64 784111777] W fun e w' => e = .returned (.tuple #[.string ⟨#[83, 117, 110, 44, 32, 48, 54, 32, 78, 111, 118, 32, 49, 57, 57, 52, 32, 48, 56, 58, 52, 57, 58, 51, 55, 32, 71, 77, 84]⟩, .bool true]) ∧ Below W.heap.size W w') := Lib.hid (fun W hW => format_yes 784111777 1994 11 6 _ v_94 n_94 aw_f W hW)
  have L4 : Hid (∀ W : World, Calls Tryd.prog 18 #[.int .i64 4] W fun e w' => e = .returned (.bool true) ∧ W = w') := Lib.hid (fun W => rleap_as 4 true (by decide) W)
  go_enter Tryd.func8, Tryd.ntmps8
  go_wp2_with fail
  refine (P1.out _ HT.out).mono ?_
  rintro e w1 ⟨rfl, B1⟩
  have T1 := Lib.hid (HT.out.later B1)
  have B1 := Lib.hid B1
  go_wp2_with fail
  refine (P2.out _ T1.out).mono ?_
  rintro e w2 ⟨rfl, B2⟩
  have T2 := Lib.hid (T1.out.later B2)
  have B2 := Lib.hid (B1.out.trans (B2.mono B1.out.size))
  go_wp2_with fail
  refine (P3.out _ T2.out).mono ?_
  rintro e w3 ⟨rfl, B3⟩
  have T3 := Lib.hid (T2.out.later B3)
  have B3 := Lib.hid (B2.out.trans (B3.mono B2.out.size))
  go_wp2_with fail
  refine (P4.out _ T3.out).mono ?_
  rintro e w4 ⟨rfl, B4⟩
  have B4 := Lib.hid (B3.out.trans (B4.mono B3.out.size))
  go_wp2_with fail
  refine (L4.out _).mono ?_
  rintro e w5 ⟨rfl, hw5⟩
  subst w5
  go_wp2
  go_ret
  exact ⟨rfl, B4.out⟩
set_option maxHeartbeats 2000000 in
theorem format_no (sec : Int) (h : sec / 86400 < -719528 ∨ 2932896 < sec / 86400) (l1 : -9223372036854775808 ≤ sec) (l2 : sec ≤ 9223372036854775807) (w : World) :
    Calls Tryd.prog 12 #[.int .i64 sec] w fun e w' => e = .returned (.tuple #[.string ⟨#[]⟩, .bool false]) ∧ Below w.heap.size w w' := by
  obtain ⟨n, hnn⟩ : ∃ n, sec / 86400 = n := ⟨_, rfl⟩
  obtain ⟨r, hrr⟩ : ∃ r, sec % 86400 = r := ⟨_, rfl⟩
  have r0 : 0 ≤ r := by omega
  have r1 : r < 86400 := by omega
  have n0 : -106751991167301 ≤ n := by omega
  have n1 : n ≤ 106751991167301 := by omega
  rw [hnn] at h
  have DA := Lib.hid (fun W : World => date_no n h W)
  have HNN := Lib.hid hnn
  have HRR := Lib.hid hrr
  clear hnn hrr h
  go_enter Tryd.func12, Tryd.ntmps12
  go_upto_if 17 with fail
  go_cut [4, 5] (fun a b wx => a = .int .i64 n ∧ b = .int .i64 r ∧ wx = w)
  case first =>
    by_cases p0 : 0 ≤ sec
    · have e1 : sec.tdiv 86400 = n := by rw [Int.tdiv_eq_ediv_of_nonneg p0, HNN.out]
      have e2 : sec.tmod 86400 = r := by rw [Int.tmod_eq_emod_of_nonneg p0, HRR.out]
      have e3 : decide (r < 0) = false := decide_eq_false (by omega)
      go_wp2
      go_meet
      exact ⟨by first | rfl | rw [e1], by first | rfl | rw [e2], rfl⟩
    · have hx := tdm_neg sec (by omega)
      obtain ⟨qq, e1⟩ : ∃ z, sec.tdiv 86400 = z := ⟨_, rfl⟩
      obtain ⟨rr, e2⟩ : ∃ z, sec.tmod 86400 = z := ⟨_, rfl⟩
      have hx1 := hx.1
      have hx2 := hx.2
      have f1 := HNN.out
      have f2 := HRR.out
      rw [e1] at hx1
      rw [e2] at hx2
      by_cases p1 : rr < 0
      · have e3 : decide (rr < 0) = true := decide_eq_true p1
        have e4 : qq - 1 = n := by omega
        have e5 : rr + 86400 = r := by omega
        have u1 : -9223372036854775807 ≤ qq := by omega
        have u2 : qq ≤ 9223372036854775807 := by omega
        have u3 : -86400 ≤ rr := by omega
        clear hx hx1 hx2 f1 f2
        go_wp2
        go_meet
        exact ⟨rfl, rfl, rfl⟩
      · have e3 : decide (rr < 0) = false := decide_eq_false p1
        have e4 : qq = n := by omega
        have e5 : rr = r := by omega
        clear hx hx1 hx2 f1 f2
        subst e4 e5
        go_wp2
        go_meet
        exact ⟨rfl, rfl, rfl⟩
  case rest =>
    obtain ⟨rfl, rfl, hw0⟩ := hcut
    rw [hw0]
    clear hw0
    go_wp2_with fail
    refine (DA.out _).mono ?_
    rintro e w1 ⟨rfl, hw1⟩
    subst w1
    go_wp2
    go_ret2
    exact ⟨rfl, Below.refl _ _⟩
/-- The day of some seconds, if it lies in the calendar. -/
theorem sec_day (sec : Int) (h : ¬ (sec / 86400 < -719528 ∨ 2932896 < sec / 86400)) : ∃ y mo d, Valid y mo d ∧ num y mo d = sec / 86400 := by
  obtain ⟨y, m, d, hv, hn⟩ := day_exists (sec / 86400 + 719528).toNat (by omega)
  exact ⟨y, m, d, hv, by omega⟩
set_option maxHeartbeats 2000000 in
theorem dateWrites_walk (n now : Int) (w : World) (w0 : (Lit.int .i64 n).wf = true) (w1 : (Lit.int .i64 now).wf = true) (hT : TabT w) :
    Calls Tryd.prog 4 #[.int .i64 n, .int .i64 now] w fun e w' => e = .returned (.bool true) ∧ Below w.heap.size w w' := by
  have l1 : -9223372036854775808 ≤ n ∧ n ≤ 9223372036854775807 := by simp [Lit.wf, IntKind.min, IntKind.max, IntKind.signed, IntKind.bits] at w0; omega
  have l2 : -9223372036854775808 ≤ now ∧ now ≤ 9223372036854775807 := by simp [Lit.wf, IntKind.min, IntKind.max, IntKind.signed, IntKind.bits] at w1; omega
  obtain ⟨l1, l1'⟩ := l1
  obtain ⟨l2, l2'⟩ := l2
  clear w0 w1
  have HT := Lib.hid hT
  have AW := Lib.hid (fun (W : World) (hW : TabT W) => d_awake W hW)
  clear hT
  by_cases hr : n / 86400 < -719528 ∨ 2932896 < n / 86400
  · have F := Lib.hid (fun W : World => format_no n hr l1 l1' W)
    have R : n < -62167219200 ∨ 253402300799 < n := by omega
    clear hr
    go_enter Tryd.func4, Tryd.ntmps4
    go_wp2_with fail
    refine (F.out _).mono ?_
    rintro e wa ⟨rfl, B1⟩
    have T1 := Lib.hid (HT.out.later B1)
    have B1 := Lib.hid B1
    go_wp2_with fail
    refine (AW.out _ T1.out).mono ?_
    rintro e wb ⟨rfl, B2⟩
    have B2 := Lib.hid (B1.out.trans (B2.mono B1.out.size))
    by_cases r1 : n < -62167219200
    · have e1 : decide (n < -62167219200) = true := decide_eq_true r1
      go_wp2
      go_ret
      exact ⟨rfl, B2.out⟩
    · have e1 : decide (n < -62167219200) = false := decide_eq_false r1
      have e2 : decide (253402300799 < n) = true := decide_eq_true (by omega)
      go_wp2
      go_ret
      exact ⟨rfl, B2.out⟩
  · obtain ⟨y, mo, d, hv, hn⟩ := sec_day n hr
    obtain ⟨t, ht⟩ : ∃ t, strL (firstL (moS n y mo d)) = t := ⟨_, rfl⟩
    have F := Lib.hid (fun (W : World) (hW : TabT W) => format_yes n y mo d t hv hn ht W hW)
    have zt := (par_first (Y := 0) hv hn ht).2
    have P : Hid (∀ W : World, TabT W → Calls Tryd.prog 9 #[.string t, .int .i64 now] W fun e w' => e = .returned (.tuple #[.int .i64 n, .bool true]) ∧ Below W.heap.size W w') := Lib.hid (fun W hW => parse_as _ now (some n) l2 l2' (fun Y _ => (par_first hv hn ht).1) W hW)
    clear hv hn ht hr
    go_enter Tryd.func4, Tryd.ntmps4
    go_wp2_with fail
    refine (F.out _ HT.out).mono ?_
    rintro e wa ⟨rfl, B1⟩
    have T1 := Lib.hid (HT.out.later B1)
    have B1 := Lib.hid B1
    go_wp2_with fail
    refine (P.out _ T1.out).mono ?_
    rintro e wb ⟨rfl, B2⟩
    have T2 := Lib.hid (T1.out.later B2)
    have B2 := Lib.hid (B1.out.trans (B2.mono B1.out.size))
    go_wp2_with fail
    refine (AW.out _ T2.out).mono ?_
    rintro e wc ⟨rfl, B3⟩
    have B3 := Lib.hid (B2.out.trans (B3.mono B2.out.size))
    go_wp2
    go_ret
    exact ⟨rfl, B3.out⟩
end Go.Proofs.YtcbllfbhifimnaaDoor
