/- FeedRetries: until when any value says that one should wait. -/
import Derived.Test.YtodibjpojfipoaaGreatDoorFeRfm
import Derived.Test.YtodibjpojfipoaaGreatDoorDtAnyW
namespace Go.Proofs.YtodibjpojfipoaaGreatDoor
open Go Go.RowKit
set_option linter.unusedVariables false
set_option linter.unusedSimpArgs false
set_option maxRecDepth 10000

theorem sec_bd {m : Mo} (hc : ClkOk m) {n : Int} (h : secI m = some n) : -100000000000000 ≤ n ∧ n ≤ 1000000000000000 := by
  unfold secI at h
  split at h
  · rename_i hh
    have r := num_range _ _ _ hh.1
    injection h with h
    rw [← h]
    unfold secN
    have h1 := hc.h
    have h2 := hc.mi
    have h3 := hc.s
    omega
  · cases h
theorem par_bd {Y n : Int} {l : List Int} (h : parI Y l = some n) : -100000000000000 ≤ n ∧ n ≤ 1000000000000000 := by
  unfold parI at h
  split at h
  · rename_i m hf
    exact sec_bd (first_fixP hf).1.clk h
  · split at h
    · rename_i m hd
      obtain ⟨k, hk, _, e⟩ := second_dashP hd
      rw [e] at h
      exact sec_bd (m := ⟨k.wd, fyI Y (k.y % 100), k.mo, k.d, k.h, k.mi, k.s⟩) ⟨hk.clk.h, hk.clk.mi, hk.clk.s⟩ h
    · split at h
      · rename_i m hs
        exact sec_bd (third_spcP hs).1.clk h
      · cases h
def retM : Option Int → Option Int
  | some s => if s < 0 then none else some (capI (mulI s 1000))
  | none => none
theorem retF_m (Y now : Int) (t : List Int) : retF Y now t = if (digP t).2 = true then some (afterI now (digP t).1) else retM (parI Y t) := by
  unfold retF
  split
  · rfl
  · unfold retM
    rfl
set_option maxHeartbeats 4000000 in
theorem rretry_at (s : ByteArray) (hs : s.size ≤ 1000000) (now Y : Int) (hY : YearIs (nowD (capI now / 1000)) Y) (w : World) :
    Calls Tryz.prog 11 #[.string s, .int .i64 now] w (OptP (retF Y now (btL (strL (trL (btL s))))) w) := by
  obtain ⟨L, hL⟩ : ∃ L, trL (btL s) = L := ⟨_, rfl⟩
  have HTR := Lib.hid (fun W : World => rtrim_at s L hL (by omega) W)
  have htl := trL_le (btL s)
  rw [btL_length] at htl
  rw [hL] at htl ⊢
  obtain ⟨t, ht⟩ : ∃ t, strL L = t := ⟨_, rfl⟩
  have htz : t.size ≤ 1000000 := by rw [← ht, strL_size]; omega
  rw [ht] at HTR ⊢
  clear ht hL htl hs
  have HY := Lib.hid hY
  have hc := capI_in now
  have MO := Lib.hid (fun W : World => rmoment7_at now W)
  have ON := Lib.hid (fun (n : Int) (W : World) => ron_at now n W)
  have HD := Lib.hid (fun W : World => rdigits_at t (by omega) W)
  obtain ⟨n, hn⟩ : ∃ n, (digP (btL t)).1 = n := ⟨_, rfl⟩
  obtain ⟨g, hg⟩ : ∃ g, (digP (btL t)).2 = g := ⟨_, rfl⟩
  rw [hn, hg] at HD
  have HP := Lib.hid (fun W : World => rparse_any t htz (capI now / 1000) Y hY (by omega) (by omega) W)
  obtain ⟨o, ho⟩ : ∃ o, parI Y (btL t) = o := ⟨_, rfl⟩
  have HO := Lib.hid ho
  rw [ho] at HP
  obtain ⟨R, hR⟩ : ∃ R, retF Y now (btL t) = R := ⟨_, rfl⟩
  have HR : Hid ((if g = true then some (afterI now n) else retM o) = R) := Lib.hid (by rw [← hR, retF_m, hn, hg, ho])
  rw [hR]
  obtain ⟨c, hcc⟩ : ∃ c, capI now = c := ⟨_, rfl⟩
  rw [hcc] at hc MO ON HP
  clear hY hn hg ho hR htz hcc
  have q1 : c.tdiv 1000 = c / 1000 := Int.tdiv_eq_ediv_of_nonneg hc.1
  have q2 : IntKind.i64.wrap (c / 1000) = c / 1000 := by rw [IntKind.wrap_i64]; omega
  obtain ⟨q, hq⟩ : ∃ q, c / 1000 = q := ⟨_, rfl⟩
  rw [hq] at HP q1 q2
  have hq3 : c / 1000 = q := hq
  go_enter Tryz.func11, Tryz.ntmps11
  go_wp2_with fail
  refine (MO.out _).mono ?_
  rintro e wx ⟨rfl, hw⟩
  subst wx
  go_wp2_with fail
  refine (HTR.out _).mono ?_
  rintro e wx ⟨rfl, hw⟩
  subst wx
  go_wp2_with fail
  refine (HD.out _).mono ?_
  rintro e w1 ⟨rfl, hb⟩
  have HB1 := Lib.hid hb
  clear hb HD
  cases g with
  | true =>
    have HE : Hid (R = some (afterI now n)) := Lib.hid (by rw [← HR.out]; rfl)
    clear HR
    go_wp2_with fail
    refine (ON.out n _).mono ?_
    rintro e wx ⟨rfl, hw⟩
    subst wx
    go_wp2
    go_ret2
    exact ⟨by rw [HE.out]; rfl, HB1.out⟩
  | false =>
    go_wp2_with fail
    refine (HP.out _).mono ?_
    rintro e w2 ⟨rfl, hb⟩
    have HB2 := Lib.hid (HB1.out.trans (hb.mono HB1.out.size))
    clear hb HB1 HP
    cases o with
    | none =>
      have HE : Hid (R = none) := Lib.hid (by rw [← HR.out]; rfl)
      clear HR
      go_wp2
      go_ret2
      exact ⟨by rw [HE.out]; rfl, HB2.out⟩
    | some z =>
      have zb := par_bd HO.out
      have HR2 : Hid ((if z < 0 then none else some (capI (mulI z 1000))) = R) := Lib.hid (by rw [← HR.out]; rfl)
      clear HR
      by_cases hz : z < 0
      · have d1 : decide (z < 0) = true := decide_eq_true hz
        have HE : Hid (R = none) := Lib.hid (by rw [← HR2.out, if_pos hz])
        clear HR2
        go_wp2
        go_ret2
        exact ⟨by rw [HE.out]; rfl, HB2.out⟩
      · have d1 : decide (z < 0) = false := decide_eq_false hz
        have hm : mulI z 1000 = z * 1000 := by
          unfold mulI
          rw [clampI_id (a := z) (by omega) (by omega), clampI_id (a := 1000) (by omega) (by omega), clampI_id (by omega) (by omega)]
        have HE : Hid (R = some (capI (z * 1000))) := Lib.hid (by rw [← HR2.out, if_neg hz, hm])
        have w1 : IntKind.i64.wrap (z * 1000) = z * 1000 := by rw [IntKind.wrap_i64]; omega
        obtain ⟨u, hu⟩ : ∃ u, z * 1000 = u := ⟨_, rfl⟩
        rw [hu] at HE w1
        have MU := Lib.hid (fun W : World => rmoment7_at u W)
        clear HR2 hm hz zb
        have w1 : IntKind.i64.wrap (z * 1000) = u := by rw [hu]; exact w1
        clear hu
        go_wp2_with fail
        refine (MU.out _).mono ?_
        rintro e wx ⟨rfl, hw⟩
        subst wx
        go_wp2
        go_ret2
        exact ⟨by rw [HE.out]; rfl, HB2.out⟩
set_option maxHeartbeats 4000000 in
theorem feedRetries_walk (s0 : ByteArray) (now : Int) (w : World) (_w0 : s0.size ≤ maxLen) (_w1 : (Lit.int .i64 now).wf = true) (hT : TabD w) :
    Calls Tryz.prog 4 #[.string s0, .int .i64 now] w fun e w' => e = .returned (.bool true) ∧ Below w.heap.size w w' := by
  have HT := Lib.hid hT
  obtain ⟨Y, hY⟩ := YearIs.some_ (nowD (capI now / 1000)) (nowD_bd _).1 (nowD_bd _).2
  have HY := Lib.hid hY
  clear hY hT
  go_enter Tryz.func4, Tryz.ntmps4
  go_upto_if 11 with fail
  go_cut [0] from 9 (fun v wx => ∃ x, v = .string x ∧ x.size ≤ 300 ∧ wx = w)
  case first =>
    by_cases h : 300 < s0.size
    · have d1 : decide ((300 : Int) < (s0.size : Int)) = true := decide_eq_true (by omega)
      have d2 : decide (300 < s0.size) = true := decide_eq_true h
      have hz : (s0.extract 0 300).size = 300 := by simp; omega
      go_wp2
      go_meet
      exact ⟨_, rfl, by omega, rfl⟩
    · have d1 : decide ((300 : Int) < (s0.size : Int)) = false := decide_eq_false (by omega)
      have d2 : decide (300 < s0.size) = false := decide_eq_false h
      go_wp2
      go_meet
      exact ⟨_, rfl, by omega, rfl⟩
  case rest =>
  obtain ⟨x, rfl, hx, he⟩ := hcut
  have he := he.symm
  subst he
  have P := Lib.hid (fretry_at x (by omega) now Y HY.out w HT.out)
  have Q := Lib.hid (fun W : World => rretry_at x (by omega) now Y HY.out W)
  have AW := Lib.hid (fun (W : World) (hW : Below w.heap.size w W) => fawake_at W (HT.out.later hW))
  obtain ⟨R, hR⟩ : ∃ R, retF Y now (btL (strL (trL (btL x)))) = R := ⟨_, rfl⟩
  rw [hR] at P Q
  obtain ⟨a, ha⟩ : ∃ a, R.getD 0 = a := ⟨_, rfl⟩
  obtain ⟨b, hb⟩ : ∃ a, R.isSome = a := ⟨_, rfl⟩
  have P2 : Hid (Calls Tryz.prog 10 #[.string x, .int .i64 now] w fun e w' => e = .returned (.tuple #[.int .i64 a, .bool b]) ∧ Below w.heap.size w w') := Lib.hid (by rw [← ha, ← hb]; exact P.out)
  have Q2 : Hid (∀ W : World, Calls Tryz.prog 11 #[.string x, .int .i64 now] W fun e w' => e = .returned (.tuple #[.int .i64 a, .bool b]) ∧ Below W.heap.size W w') := Lib.hid (fun W => by rw [← ha, ← hb]; exact Q.out W)
  clear hR ha hb P Q
  have k1 : (a == a) = true := by simp
  have k2 : (b == b) = true := by simp
  go_wp2_with fail
  refine P2.out.mono ?_
  rintro e w1 ⟨rfl, hb⟩
  have HB1 := Lib.hid hb
  clear hb P2
  go_wp2_with fail
  refine (Q2.out _).mono ?_
  rintro e w2 ⟨rfl, hb⟩
  have HB2 := Lib.hid (HB1.out.trans (hb.mono HB1.out.size))
  clear hb HB1 Q2
  go_wp2_with fail
  refine (AW.out _ HB2.out).mono ?_
  rintro e w3 ⟨rfl, hb⟩
  have HB3 := Lib.hid (HB2.out.trans (hb.mono HB2.out.size))
  clear hb HB2
  go_wp2
  go_ret
  exact ⟨rfl, HB3.out⟩
end Go.Proofs.YtodibjpojfipoaaGreatDoor
