/- The document's numbers: num, moment, on, digits. -/
import Derived.Test.YtodibjpojfipoaaGreatDoorFeRef
import Derived.Test.YtodibjpojfipoaaGreatDoorTickMul
namespace Go.Proofs.YtodibjpojfipoaaGreatDoor
open Go Go.RowKit
set_option linter.unusedVariables false
set_option linter.unusedSimpArgs false
set_option maxRecDepth 10000

set_option maxHeartbeats 1000000 in
theorem rnumc_at (c : Int) (b : Bool) (hb : fNum c = b) (w : World) : Calls Tryz.prog 43 #[.int .u8 c] w fun e w' => e = .returned (.bool b) ∧ w' = w := by
  obtain ⟨p, hp⟩ : ∃ p, decide (48 ≤ c) = p := ⟨_, rfl⟩
  obtain ⟨q, hq⟩ : ∃ p, decide (c ≤ 57) = p := ⟨_, rfl⟩
  have HB : Hid ((p && q) = b) := Lib.hid (by rw [← hb, ← hp, ← hq]; rfl)
  clear hb
  go_enter Tryz.func43, Tryz.ntmps43
  cases p with
  | true =>
    cases q with
    | true =>
      go_wp2
      go_ret
      exact ⟨by rw [← HB.out]; rfl, rfl⟩
    | false =>
      go_wp2
      go_ret
      exact ⟨by rw [← HB.out]; rfl, rfl⟩
  | false =>
    go_wp2
    go_ret
    exact ⟨by rw [← HB.out]; rfl, rfl⟩
set_option maxHeartbeats 1000000 in
theorem rmoment7_at (t : Int) (w : World) : Calls Tryz.prog 23 #[.int .i64 t] w fun e w' => e = .returned (.int .i64 (capI t)) ∧ w' = w := by
  obtain ⟨C, hC⟩ : ∃ C, capI t = C := ⟨_, rfl⟩
  have HC := Lib.hid hC
  rw [hC]
  clear hC
  go_enter Tryz.func23, Tryz.ntmps23
  by_cases h0 : t < 0
  · have d0 : decide (t < 0) = true := decide_eq_true h0
    have e : C = 0 := by rw [← HC.out]; unfold capI; omega
    subst e
    go_wp2
    go_ret
    exact ⟨rfl, rfl⟩
  · have d0 : decide (t < 0) = false := decide_eq_false h0
    by_cases h1 : 1099511627776 < t
    · have d1 : decide (1099511627776 < t) = true := decide_eq_true h1
      have e : C = 1099511627776 := by rw [← HC.out]; unfold capI; omega
      subst e
      go_wp2
      go_ret
      exact ⟨rfl, rfl⟩
    · have d1 : decide (1099511627776 < t) = false := decide_eq_false h1
      have e : C = t := by rw [← HC.out]; unfold capI; omega
      subst e
      go_wp2
      go_ret
      exact ⟨rfl, rfl⟩
theorem mulI_comm (a b : Int) : mulI a b = mulI b a := by unfold mulI; rw [Int.mul_comm]
set_option maxHeartbeats 1000000 in
theorem ron_at (now s : Int) (w : World) : Calls Tryz.prog 26 #[.int .i64 (capI now), .int .i64 s] w fun e w' => e = .returned (.int .i64 (afterI now s)) ∧ w' = w := by
  obtain ⟨C, hC⟩ : ∃ C, capI now = C := ⟨_, rfl⟩
  obtain ⟨M, hM⟩ : ∃ M, mulI s 1000 = M := ⟨_, rfl⟩
  obtain ⟨A, hA⟩ : ∃ A, addI C M = A := ⟨_, rfl⟩
  obtain ⟨R, hR⟩ : ∃ R, capI A = R := ⟨_, rfl⟩
  have e : afterI now s = R := by unfold afterI; rw [mulI_comm, hC, hM, hA, hR]
  have HM := Lib.hid hM
  have HA := Lib.hid hA
  have HR := Lib.hid hR
  rw [hC, e]
  clear hC hM hA hR e
  go_enter Tryz.func26, Tryz.ntmps26
  go_wp2_with fail
  refine (rmul_any s 1000 _).mono ?_
  rintro e w1 ⟨rfl, hw⟩
  subst hw
  rw [HM.out]
  go_wp2_with fail
  refine (radd_any C M _).mono ?_
  rintro e w1 ⟨rfl, hw⟩
  subst hw
  rw [HA.out]
  go_wp2_with fail
  refine (rmoment7_at A _).mono ?_
  rintro e w1 ⟨rfl, hw⟩
  subst hw
  rw [HR.out]
  go_wp2
  go_ret
  exact ⟨rfl, rfl⟩
theorem dgN_none {l : List Int} {v : Int} {k : Nat} {c : Int} (hc : l[k]? = some c) (hf : fNum c = false) : dgN v l = none := by
  induction l generalizing v k with
  | nil => simp at hc
  | cons x t ih =>
    rw [dgN_cons]
    cases k with
    | zero =>
      have e : x = c := by simpa using hc
      subst e
      rw [hf]
      rfl
    | succ k =>
      split
      · exact ih (by simpa using hc)
      · rfl
set_option maxHeartbeats 4000000 in
theorem rdigits_at (x : ByteArray) (hx : x.size ≤ 1000000000000000) (w : World) : Calls Tryz.prog 25 #[.string x] w fun e w' => e = .returned (.tuple #[.int .i64 (digP (btL x)).1, .bool (digP (btL x)).2]) ∧ Below w.heap.size w w' := by
  obtain ⟨p, hp⟩ : ∃ p, digP (btL x) = p := ⟨_, rfl⟩
  have HP := Lib.hid hp
  have mixed : Tryz.prog.follows .mixedOrders = true := by kernel_rfl
  rw [hp]
  clear hp
  go_enter Tryz.func25, Tryz.ntmps25
  go_wp2_with fail
  go_loopw [4, 5] (fun n j wr => ∃ (i : Nat) (v : Int), n = .int .i64 v ∧ j = .int .i64 (i : Int) ∧ i ≤ x.size ∧ Hid (dgN 0 (btL x) = dgN v ((btL x).drop i)) ∧ Hid (Below w.heap.size w wr)) (fun _ j _ => x.size - (intOf j).toNat)
  case atStart => exact ⟨0, 0, rfl, rfl, by omega, Lib.hid (by rw [List.drop_zero]), Lib.hid (Below.refl _ _)⟩
  case round =>
    obtain ⟨i, v, rfl, rfl, hi, HV, HB⟩ := hrel
    by_cases hlt : i < x.size
    · have kd : decide ((i : Int) < (x.size : Int)) = true := decide_eq_true (by omega)
      have kd2 : decide (i < x.size) = true := decide_eq_true hlt
      obtain ⟨c, hc⟩ : ∃ c : Int, (x[i].toNat : Int) = c := ⟨_, rfl⟩
      have hcb : 0 ≤ c ∧ c < 256 := by rw [← hc]; exact ⟨by omega, by have := x[i].toNat_lt; omega⟩
      have hdr : (btL x).drop i = c :: (btL x).drop (i + 1) := by rw [← hc]; exact ln_cons x i hlt
      have HDR := Lib.hid hdr
      have ix0 : (0 : Int) ≤ (i : Int) := by omega
      have ix1 : (i : Int) < (x.size : Int) := by omega
      clear hdr
      cases hf : fNum c with
      | false =>
        have HN : Hid (p = (0, false)) := Lib.hid (by
          rw [← HP.out]
          unfold digP
          rw [HV.out, HDR.out, dgN_cons, hf]
          rfl)
        have NC := Lib.hid (fun W : World => rnumc_at c false hf W)
        clear hf HV HDR
        go_wp2_with fail
        refine (NC.out _).mono ?_
        rintro e w1 ⟨rfl, hw⟩
        subst w1
        go_wp2
        go_ret2
        exact ⟨by rw [HN.out]; rfl, HB.out⟩
      | true =>
        have NC := Lib.hid (fun W : World => rnumc_at c true hf W)
        have hdg := fNum_is hf
        have w1 : IntKind.u8.wrap (c - 48) = c - 48 := by rw [IntKind.wrap_u8]; omega
        have w2 : IntKind.i64.wrap (c - 48) = c - 48 := by rw [IntKind.wrap_i64]; omega
        obtain ⟨m, hm⟩ : ∃ m, mulI v 10 = m := ⟨_, rfl⟩
        obtain ⟨z, hz⟩ : ∃ z, addI m (c - 48) = z := ⟨_, rfl⟩
        have HV2 : Hid (dgN 0 (btL x) = dgN z ((btL x).drop (i + 1))) := Lib.hid (by rw [HV.out, HDR.out, dgN_cons, if_pos hf, hm, hz])
        have HM := Lib.hid (fun W : World => by have := rmul_any v 10 W; rw [hm] at this; exact this)
        have HZ := Lib.hid (fun W : World => by have := radd_any m (c - 48) W; rw [hz] at this; exact this)
        clear hf HV HDR hm hz
        go_wp2_with fail
        refine (NC.out _).mono ?_
        rintro e wn ⟨rfl, hw⟩
        subst wn
        go_upto_region 7 with fail
        refine wp_region_last 8 (fun w' => Below w.heap.size w w') (by kernel_rfl) (HB.out.drew) (fun hHeld hClosed => ?_)
        refine wpAnyL_take (i := 0) (v := ?_) rfl (by kernel_rfl) (by kernel_rfl) (by kernel_rfl) (by kernel_rfl) (fun _ _ _ h => h) (by kernel_rfl) hClosed (Or.inl ⟨by rfl, ?_⟩) hHeld (fun hClosed => ?_)
        rotate_left
        · intro wv hSw; go_simp; all_goals (with_reducible rfl)
        (try simp only [List.getElem_toArray, List.getElem_cons_zero, put_at, List.set])
        refine wpAnyL_take (i := 2) (v := ?_) rfl (by kernel_rfl) (by kernel_rfl) (by kernel_rfl) (by kernel_rfl) (fun _ _ _ h => h) (by kernel_rfl) hClosed (Or.inl ⟨by rfl, ?_⟩) hHeld (fun hClosed => ?_)
        rotate_left
        · intro wv hSw; go_simp; all_goals (with_reducible rfl)
        (try simp only [List.getElem_toArray, List.getElem_cons_succ, List.getElem_cons_zero, put_at, List.set])
        refine wpAnyL_take (i := 3) (v := ?_) rfl (by kernel_rfl) (by kernel_rfl) (by kernel_rfl) (by kernel_rfl) (fun _ _ _ h => h) (by kernel_rfl) hClosed (Or.inl ⟨by rfl, ?_⟩) hHeld (fun hClosed => ?_)
        rotate_left
        · intro wv hSw; go_simp; all_goals (with_reducible rfl)
        (try simp only [List.getElem_toArray, List.getElem_cons_succ, List.getElem_cons_zero, put_at, List.set])
        refine wpAnyL_take (i := 4) (v := ?_) rfl (by kernel_rfl) (by kernel_rfl) (by kernel_rfl) (by kernel_rfl) (fun _ _ _ h => h) (by kernel_rfl) hClosed (Or.inl ⟨by rfl, ?_⟩) hHeld (fun hClosed => ?_)
        rotate_left
        · intro wv hSw; go_simp; all_goals (with_reducible rfl)
        (try simp only [List.getElem_toArray, List.getElem_cons_succ, List.getElem_cons_zero, put_at, List.set])
        refine wpAnyL_take (i := 5) (v := ?_) rfl (by kernel_rfl) (by kernel_rfl) (by kernel_rfl) (by kernel_rfl) (fun _ _ _ h => h) (by kernel_rfl) hClosed (Or.inl ⟨by rfl, ?_⟩) hHeld (fun hClosed => ?_)
        rotate_left
        · intro wv hSw; go_simp; all_goals (with_reducible rfl)
        (try simp only [List.getElem_toArray, List.getElem_cons_succ, List.getElem_cons_zero, put_at, List.set])
        refine wpAnyL_take (i := 6) (v := .int .i64 (c - 48)) rfl (by kernel_rfl) (by kernel_rfl) (by kernel_rfl) (by kernel_rfl) (fun _ _ _ h => h) (by kernel_rfl) hClosed (Or.inl ⟨by rfl, ?_⟩) hHeld (fun hClosed => ?_)
        · intro wv hSw; unfold execOp; simp only [List.getElem_toArray, List.getElem_cons_succ, List.getElem_cons_zero]; simp [go_sem, w2, Tryz.underlying3, Tryz.underlying5, Act.eval]
        (try simp only [List.getElem_toArray, List.getElem_cons_succ, List.getElem_cons_zero, put_at, List.set])
        refine wpAnyL_one (i := 1) rfl (by kernel_rfl) (by kernel_rfl) hClosed (fun KK hK => ?_)
        go_simp
        refine (HM.out _).mono ?_
        rintro e wq ⟨rfl, hwq⟩
        subst hwq
        go_wp2_with fail
        refine hK.out _ _ ?_ (fun hClosed hHeld => ?_)
        · exact hHeld
        clear hK KK
        (first | simp only [List.getElem_toArray, List.getElem_cons_succ, List.getElem_cons_zero, put_at, List.set] | (try simp only [put_at, List.set]))
        refine wpAnyL_one (i := 7) rfl (by kernel_rfl) (by kernel_rfl) hClosed (fun KK hK => ?_)
        go_simp
        refine (HZ.out _).mono ?_
        rintro e wq ⟨rfl, hwq⟩
        subst hwq
        go_wp2_with fail
        refine hK.out _ _ ?_ (fun hClosed hHeld => ?_)
        · exact hHeld
        clear hK KK
        (first | simp only [List.getElem_toArray, List.getElem_cons_succ, List.getElem_cons_zero, put_at, List.set] | (try simp only [put_at, List.set]))
        refine wpAnyL_last rfl (by kernel_rfl) (by kernel_rfl) (fun KK hK => ?_)
        go_simp
        refine hK.out _ _ ?_
        (try simp only [put_at, List.set])
        have HE := Lib.hid hHeld
        clear hHeld
        go_wp2
        go_roundw
        case rel => exact ⟨i + 1, z, rfl, by go_num, by omega, HV2, HE⟩
        case measure => simp [intOf]; omega
    · have kd : decide ((i : Int) < (x.size : Int)) = false := decide_eq_false (by omega)
      have kd2 : decide (i < x.size) = false := decide_eq_false hlt
      have HN : Hid (p = (v, !x.toList.isEmpty)) := Lib.hid (by
        rw [← HP.out]
        unfold digP
        rw [HV.out, List.drop_eq_nil_of_le (by rw [btL_length]; omega)]
        show (v, decide (btL x ≠ [])) = _
        rw [emp_size x]
        congr 1
        by_cases h : btL x = []
        · have : x.size = 0 := by rw [← btL_length, h]; rfl
          simp [h, this]
        · have : x.size ≠ 0 := fun h2 => h (by rw [← List.length_eq_zero_iff, btL_length, h2])
          simp [h, this])
      go_wp2
      go_ret2
      exact ⟨by rw [HN.out]; rfl, HB.out⟩
end Go.Proofs.YtodibjpojfipoaaGreatDoor
