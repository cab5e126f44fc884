/- Package pct: the layer's laws. -/
import Derived.Test.YtcedckkmdpecmaaDoorPcRef
namespace Go.Proofs.YtcedckkmdpecmaaDoor
open Go.RowKit
set_option linter.unusedVariables false
set_option linter.unusedSimpArgs false

theorem norm_as (s t : ByteArray) (b : Bool) (r : Option (List Int)) (hr : nrmI (btL s) = r) (ht : strL (r.getD []) = t) (hb : r.isSome = b) (w : World) (hs : s.size ≤ 10000) (hT : Tabs w) :
    Calls Tryd.prog 14 #[.string s] w fun e w' => e = .returned (.tuple #[.string t, .bool b]) ∧ Below w.heap.size w w' := by
  subst ht
  subst hb
  exact norm_at s r hr hs w hT
theorem dec_as (s t : ByteArray) (b : Bool) (r : Option (List Int)) (hr : decI (btL s) = r) (ht : strL (r.getD []) = t) (hb : r.isSome = b) (w : World) (hs : s.size ≤ 10000) (hT : Tabs w) :
    Calls Tryd.prog 17 #[.string s] w fun e w' => e = .returned (.tuple #[.string t, .bool b]) ∧ Below w.heap.size w w' := by
  subst ht
  subst hb
  exact dec_at s r hr hs w hT
theorem rnorm_as (s t : ByteArray) (b : Bool) (r : Option (List Int)) (hr : nrmI (btL s) = r) (ht : strL (r.getD []) = t) (hb : r.isSome = b) (w : World) (hs : s.size ≤ 10000) :
    Calls Tryd.prog 15 #[.string s] w fun e w' => e = .returned (.tuple #[.string t, .bool b]) ∧ Below w.heap.size w w' := by
  subst ht
  subst hb
  exact rnorm_at s r hr hs w
theorem rdec_as (s t : ByteArray) (b : Bool) (r : Option (List Int)) (hr : decI (btL s) = r) (ht : strL (r.getD []) = t) (hb : r.isSome = b) (w : World) (hs : s.size ≤ 10000) :
    Calls Tryd.prog 18 #[.string s] w fun e w' => e = .returned (.tuple #[.string t, .bool b]) ∧ Below w.heap.size w w' := by
  subst ht
  subst hb
  exact rdec_at s r hr hs w
set_option maxHeartbeats 1000000 in
theorem awake4_at (w : World) (hT : Tabs w) :
    Calls Tryd.prog 16 #[] w fun e w' => e = .returned (.bool true) ∧ Below w.heap.size w w' := by
  have HT := Lib.hid hT
  clear hT
  go_enter Tryd.func16, Tryd.ntmps16
  go_wp2_with fail
  refine (norm_as _ ⟨#[47, 126, 97, 37, 50, 48, 98, 37, 50, 70, 37, 70, 70]⟩ true _ rfl (by decide +kernel) (by decide +kernel) _ (by decide) HT.out).mono ?_
  rintro e w1 ⟨rfl, hb1⟩
  have T1 := Lib.hid (HT.out.later hb1)
  have B1 := Lib.hid hb1
  clear hb1
  go_wp2_with fail
  refine (norm_as _ ⟨#[]⟩ false _ rfl (by decide +kernel) (by decide +kernel) _ (by decide) T1.out).mono ?_
  rintro e w2 ⟨rfl, hb2⟩
  have T2 := Lib.hid (T1.out.later hb2)
  have B2 := Lib.hid (B1.out.trans (hb2.mono B1.out.size))
  clear hb2
  go_wp2_with fail
  refine (dec_as _ ⟨#[65, 37]⟩ true _ rfl (by decide +kernel) (by decide +kernel) _ (by decide) T2.out).mono ?_
  rintro e w3 ⟨rfl, hb3⟩
  have B3 := Lib.hid (B2.out.trans (hb3.mono B2.out.size))
  clear hb3
  go_wp2
  go_ret
  exact ⟨rfl, B3.out⟩
set_option maxHeartbeats 2000000 in
theorem pctNorms_any (s0 s : ByteArray) (hs : s.size ≤ 1000) (hc : 1000 < s0.size ∧ s0.extract 0 1000 = s ∨ s0.size ≤ 1000 ∧ s = s0) (w : World) (hT : Tabs w) :
    Calls Tryd.prog 3 #[.string s0] w fun e w' => e = .returned (.bool true) ∧ Below w.heap.size w w' := by
  have HT := Lib.hid hT
  clear hT
  obtain ⟨r, hr⟩ : ∃ r, nrmI (btL s) = r := ⟨_, rfl⟩
  obtain ⟨t, ht⟩ : ∃ t, strL (r.getD []) = t := ⟨_, rfl⟩
  obtain ⟨b, hb⟩ : ∃ b, r.isSome = b := ⟨_, rfl⟩
  have HR := Lib.hid hr
  have HN := Lib.hid ht
  have HB := Lib.hid hb
  clear hr ht hb
  rcases hc with ⟨hc, he⟩ | ⟨hc, rfl⟩
  · have HE := Lib.hid he
    clear he
    go_enter Tryd.func3, Tryd.ntmps3
    go_wp2_with fail
    rw [HE.out]
    refine (norm_as s t b r HR.out HN.out HB.out _ (by omega) HT.out).mono ?_
    rintro e w1 ⟨rfl, hb1⟩
    have T1 := Lib.hid (HT.out.later hb1)
    have B1 := Lib.hid hb1
    clear hb1
    go_wp2_with fail
    refine (rnorm_as s t b r HR.out HN.out HB.out _ (by omega)).mono ?_
    rintro e w2 ⟨rfl, hb2⟩
    have T2 := Lib.hid (T1.out.later hb2)
    have B2 := Lib.hid (B1.out.trans (hb2.mono B1.out.size))
    clear hb2
    go_wp2_with fail
    refine (awake4_at _ T2.out).mono ?_
    rintro e w3 ⟨rfl, hb3⟩
    have T3 := Lib.hid (T2.out.later hb3)
    have B3 := Lib.hid (B2.out.trans (hb3.mono B2.out.size))
    clear hb3
    go_wp2
    go_ret
    exact ⟨rfl, B3.out⟩
  · clear hc
    go_enter Tryd.func3, Tryd.ntmps3
    go_wp2_with fail
    refine (norm_as s t b r HR.out HN.out HB.out _ (by omega) HT.out).mono ?_
    rintro e w1 ⟨rfl, hb1⟩
    have T1 := Lib.hid (HT.out.later hb1)
    have B1 := Lib.hid hb1
    clear hb1
    go_wp2_with fail
    refine (rnorm_as s t b r HR.out HN.out HB.out _ (by omega)).mono ?_
    rintro e w2 ⟨rfl, hb2⟩
    have T2 := Lib.hid (T1.out.later hb2)
    have B2 := Lib.hid (B1.out.trans (hb2.mono B1.out.size))
    clear hb2
    go_wp2_with fail
    refine (awake4_at _ T2.out).mono ?_
    rintro e w3 ⟨rfl, hb3⟩
    have T3 := Lib.hid (T2.out.later hb3)
    have B3 := Lib.hid (B2.out.trans (hb3.mono B2.out.size))
    clear hb3
    go_wp2
    go_ret
    exact ⟨rfl, B3.out⟩
theorem pctNorms_walk (s0 : ByteArray) (w : World) (hw : s0.size ≤ maxLen) (hT : Tabs w) :
    Calls Tryd.prog 3 #[.string s0] w fun e w' => e = .returned (.bool true) ∧ Below w.heap.size w w' := by
  by_cases h : 1000 < s0.size
  · exact pctNorms_any s0 (s0.extract 0 1000) (by simp [ByteArray.size_extract]; omega) (Or.inl ⟨h, rfl⟩) w hT
  · exact pctNorms_any s0 s0 (by omega) (Or.inr ⟨by omega, rfl⟩) w hT
set_option maxHeartbeats 2000000 in
theorem pctDecodes_any (s0 s : ByteArray) (hs : s.size ≤ 1000) (hc : 1000 < s0.size ∧ s0.extract 0 1000 = s ∨ s0.size ≤ 1000 ∧ s = s0) (w : World) (hT : Tabs w) :
    Calls Tryd.prog 4 #[.string s0] w fun e w' => e = .returned (.bool true) ∧ Below w.heap.size w w' := by
  have HT := Lib.hid hT
  clear hT
  obtain ⟨r, hr⟩ : ∃ r, decI (btL s) = r := ⟨_, rfl⟩
  obtain ⟨t, ht⟩ : ∃ t, strL (r.getD []) = t := ⟨_, rfl⟩
  obtain ⟨b, hb⟩ : ∃ b, r.isSome = b := ⟨_, rfl⟩
  have HR := Lib.hid hr
  have HN := Lib.hid ht
  have HB := Lib.hid hb
  clear hr ht hb
  rcases hc with ⟨hc, he⟩ | ⟨hc, rfl⟩
  · have HE := Lib.hid he
    clear he
    go_enter Tryd.func4, Tryd.ntmps4
    go_wp2_with fail
    rw [HE.out]
    refine (dec_as s t b r HR.out HN.out HB.out _ (by omega) HT.out).mono ?_
    rintro e w1 ⟨rfl, hb1⟩
    have T1 := Lib.hid (HT.out.later hb1)
    have B1 := Lib.hid hb1
    clear hb1
    go_wp2_with fail
    refine (rdec_as s t b r HR.out HN.out HB.out _ (by omega)).mono ?_
    rintro e w2 ⟨rfl, hb2⟩
    have T2 := Lib.hid (T1.out.later hb2)
    have B2 := Lib.hid (B1.out.trans (hb2.mono B1.out.size))
    clear hb2
    go_wp2_with fail
    refine (awake4_at _ T2.out).mono ?_
    rintro e w3 ⟨rfl, hb3⟩
    have T3 := Lib.hid (T2.out.later hb3)
    have B3 := Lib.hid (B2.out.trans (hb3.mono B2.out.size))
    clear hb3
    go_wp2
    go_ret
    exact ⟨rfl, B3.out⟩
  · clear hc
    go_enter Tryd.func4, Tryd.ntmps4
    go_wp2_with fail
    refine (dec_as s t b r HR.out HN.out HB.out _ (by omega) HT.out).mono ?_
    rintro e w1 ⟨rfl, hb1⟩
    have T1 := Lib.hid (HT.out.later hb1)
    have B1 := Lib.hid hb1
    clear hb1
    go_wp2_with fail
    refine (rdec_as s t b r HR.out HN.out HB.out _ (by omega)).mono ?_
    rintro e w2 ⟨rfl, hb2⟩
    have T2 := Lib.hid (T1.out.later hb2)
    have B2 := Lib.hid (B1.out.trans (hb2.mono B1.out.size))
    clear hb2
    go_wp2_with fail
    refine (awake4_at _ T2.out).mono ?_
    rintro e w3 ⟨rfl, hb3⟩
    have T3 := Lib.hid (T2.out.later hb3)
    have B3 := Lib.hid (B2.out.trans (hb3.mono B2.out.size))
    clear hb3
    go_wp2
    go_ret
    exact ⟨rfl, B3.out⟩
theorem pctDecodes_walk (s0 : ByteArray) (w : World) (hw : s0.size ≤ maxLen) (hT : Tabs w) :
    Calls Tryd.prog 4 #[.string s0] w fun e w' => e = .returned (.bool true) ∧ Below w.heap.size w w' := by
  by_cases h : 1000 < s0.size
  · exact pctDecodes_any s0 (s0.extract 0 1000) (by simp [ByteArray.size_extract]; omega) (Or.inl ⟨h, rfl⟩) w hT
  · exact pctDecodes_any s0 s0 (by omega) (Or.inr ⟨by omega, rfl⟩) w hT
set_option maxHeartbeats 2000000 in
theorem pctAgain_any (s0 s : ByteArray) (hs : s.size ≤ 1000) (hc : 1000 < s0.size ∧ s0.extract 0 1000 = s ∨ s0.size ≤ 1000 ∧ s = s0) (w : World) (hT : Tabs w) :
    Calls Tryd.prog 5 #[.string s0] w fun e w' => e = .returned (.bool true) ∧ Below w.heap.size w w' := by
  have HT := Lib.hid hT
  clear hT
  obtain ⟨r, hr⟩ : ∃ r, nrmI (btL s) = r := ⟨_, rfl⟩
  rcases hc with ⟨hc, he⟩ | ⟨hc, rfl⟩
  · have HE := Lib.hid he
    clear he
    cases r with
    | none =>
      have HR := Lib.hid hr
      have HD : Hid (decI (btL s) = none) := Lib.hid (rwI_none _ _ (Nat.le_refl _) hr)
      clear hr
      go_enter Tryd.func5, Tryd.ntmps5
      go_wp2_with fail
      rw [HE.out]
      refine (norm_as s ⟨#[]⟩ false none HR.out rfl rfl _ (by omega) HT.out).mono ?_
      rintro e w1 ⟨rfl, hb1⟩
      have T1 := Lib.hid (HT.out.later hb1)
      have B1 := Lib.hid hb1
      clear hb1
      go_wp2_with fail
      refine (dec_as s ⟨#[]⟩ false none HD.out rfl rfl _ (by omega) T1.out).mono ?_
      rintro e w2 ⟨rfl, hb2⟩
      have T2 := Lib.hid (T1.out.later hb2)
      have B2 := Lib.hid (B1.out.trans (hb2.mono B1.out.size))
      clear hb2
      go_wp2_with fail
      refine (awake4_at _ T2.out).mono ?_
      rintro e w3 ⟨rfl, hb3⟩
      have T3 := Lib.hid (T2.out.later hb3)
      have B3 := Lib.hid (B2.out.trans (hb3.mono B2.out.size))
      clear hb3
      go_wp2
      go_ret
      exact ⟨rfl, B3.out⟩
    | some x =>
      obtain ⟨g1, g2, d, g3, g4⟩ := again_of (btL_byts s) hr
      have g5 := (plain_nrm (btL_byts s) hr).len
      obtain ⟨t, ht⟩ : ∃ t, strL x = t := ⟨_, rfl⟩
      obtain ⟨v, hv⟩ : ∃ v, strL d = v := ⟨_, rfl⟩
      have e1 : btL t = x := by rw [← ht]; exact btL_strL g1
      have hts : t.size ≤ 3000 := by
        rw [← ht, strL_size]
        rw [btL_length] at g5
        omega
      have HR := Lib.hid hr
      have HX : Hid (strL ((some x).getD []) = t) := Lib.hid ht
      have HV : Hid (strL ((some d).getD []) = v) := Lib.hid hv
      have HR2 : Hid (nrmI (btL t) = some x) := Lib.hid (by rw [e1]; exact g2)
      have HD := Lib.hid g3
      have HD2 : Hid (decI (btL t) = some d) := Lib.hid (by rw [e1]; exact g4)
      clear hr ht hv g1 g2 g3 g4 g5 e1
      go_enter Tryd.func5, Tryd.ntmps5
      go_wp2_with fail
      rw [HE.out]
      refine (norm_as s t true (some x) HR.out HX.out rfl _ (by omega) HT.out).mono ?_
      rintro e w1 ⟨rfl, hb1⟩
      have T1 := Lib.hid (HT.out.later hb1)
      have B1 := Lib.hid hb1
      clear hb1
      go_wp2_with fail
      refine (norm_as t t true (some x) HR2.out HX.out rfl _ (by omega) T1.out).mono ?_
      rintro e w2 ⟨rfl, hb2⟩
      have T2 := Lib.hid (T1.out.later hb2)
      have B2 := Lib.hid (B1.out.trans (hb2.mono B1.out.size))
      clear hb2
      go_wp2_with fail
      refine (dec_as s v true (some d) HD.out HV.out rfl _ (by omega) T2.out).mono ?_
      rintro e w3 ⟨rfl, hb3⟩
      have T3 := Lib.hid (T2.out.later hb3)
      have B3 := Lib.hid (B2.out.trans (hb3.mono B2.out.size))
      clear hb3
      go_wp2_with fail
      refine (dec_as t v true (some d) HD2.out HV.out rfl _ (by omega) T3.out).mono ?_
      rintro e w4 ⟨rfl, hb4⟩
      have T4 := Lib.hid (T3.out.later hb4)
      have B4 := Lib.hid (B3.out.trans (hb4.mono B3.out.size))
      clear hb4
      go_wp2_with fail
      refine (awake4_at _ T4.out).mono ?_
      rintro e w5 ⟨rfl, hb5⟩
      have T5 := Lib.hid (T4.out.later hb5)
      have B5 := Lib.hid (B4.out.trans (hb5.mono B4.out.size))
      clear hb5
      go_wp2
      go_ret
      exact ⟨rfl, B5.out⟩
  · clear hc
    cases r with
    | none =>
      have HR := Lib.hid hr
      have HD : Hid (decI (btL s) = none) := Lib.hid (rwI_none _ _ (Nat.le_refl _) hr)
      clear hr
      go_enter Tryd.func5, Tryd.ntmps5
      go_wp2_with fail
      refine (norm_as s ⟨#[]⟩ false none HR.out rfl rfl _ (by omega) HT.out).mono ?_
      rintro e w1 ⟨rfl, hb1⟩
      have T1 := Lib.hid (HT.out.later hb1)
      have B1 := Lib.hid hb1
      clear hb1
      go_wp2_with fail
      refine (dec_as s ⟨#[]⟩ false none HD.out rfl rfl _ (by omega) T1.out).mono ?_
      rintro e w2 ⟨rfl, hb2⟩
      have T2 := Lib.hid (T1.out.later hb2)
      have B2 := Lib.hid (B1.out.trans (hb2.mono B1.out.size))
      clear hb2
      go_wp2_with fail
      refine (awake4_at _ T2.out).mono ?_
      rintro e w3 ⟨rfl, hb3⟩
      have T3 := Lib.hid (T2.out.later hb3)
      have B3 := Lib.hid (B2.out.trans (hb3.mono B2.out.size))
      clear hb3
      go_wp2
      go_ret
      exact ⟨rfl, B3.out⟩
    | some x =>
      obtain ⟨g1, g2, d, g3, g4⟩ := again_of (btL_byts s) hr
      have g5 := (plain_nrm (btL_byts s) hr).len
      obtain ⟨t, ht⟩ : ∃ t, strL x = t := ⟨_, rfl⟩
      obtain ⟨v, hv⟩ : ∃ v, strL d = v := ⟨_, rfl⟩
      have e1 : btL t = x := by rw [← ht]; exact btL_strL g1
      have hts : t.size ≤ 3000 := by
        rw [← ht, strL_size]
        rw [btL_length] at g5
        omega
      have HR := Lib.hid hr
      have HX : Hid (strL ((some x).getD []) = t) := Lib.hid ht
      have HV : Hid (strL ((some d).getD []) = v) := Lib.hid hv
      have HR2 : Hid (nrmI (btL t) = some x) := Lib.hid (by rw [e1]; exact g2)
      have HD := Lib.hid g3
      have HD2 : Hid (decI (btL t) = some d) := Lib.hid (by rw [e1]; exact g4)
      clear hr ht hv g1 g2 g3 g4 g5 e1
      go_enter Tryd.func5, Tryd.ntmps5
      go_wp2_with fail
      refine (norm_as s t true (some x) HR.out HX.out rfl _ (by omega) HT.out).mono ?_
      rintro e w1 ⟨rfl, hb1⟩
      have T1 := Lib.hid (HT.out.later hb1)
      have B1 := Lib.hid hb1
      clear hb1
      go_wp2_with fail
      refine (norm_as t t true (some x) HR2.out HX.out rfl _ (by omega) T1.out).mono ?_
      rintro e w2 ⟨rfl, hb2⟩
      have T2 := Lib.hid (T1.out.later hb2)
      have B2 := Lib.hid (B1.out.trans (hb2.mono B1.out.size))
      clear hb2
      go_wp2_with fail
      refine (dec_as s v true (some d) HD.out HV.out rfl _ (by omega) T2.out).mono ?_
      rintro e w3 ⟨rfl, hb3⟩
      have T3 := Lib.hid (T2.out.later hb3)
      have B3 := Lib.hid (B2.out.trans (hb3.mono B2.out.size))
      clear hb3
      go_wp2_with fail
      refine (dec_as t v true (some d) HD2.out HV.out rfl _ (by omega) T3.out).mono ?_
      rintro e w4 ⟨rfl, hb4⟩
      have T4 := Lib.hid (T3.out.later hb4)
      have B4 := Lib.hid (B3.out.trans (hb4.mono B3.out.size))
      clear hb4
      go_wp2_with fail
      refine (awake4_at _ T4.out).mono ?_
      rintro e w5 ⟨rfl, hb5⟩
      have T5 := Lib.hid (T4.out.later hb5)
      have B5 := Lib.hid (B4.out.trans (hb5.mono B4.out.size))
      clear hb5
      go_wp2
      go_ret
      exact ⟨rfl, B5.out⟩
theorem pctAgain_walk (s0 : ByteArray) (w : World) (hw : s0.size ≤ maxLen) (hT : Tabs w) :
    Calls Tryd.prog 5 #[.string s0] w fun e w' => e = .returned (.bool true) ∧ Below w.heap.size w w' := by
  by_cases h : 1000 < s0.size
  · exact pctAgain_any s0 (s0.extract 0 1000) (by simp [ByteArray.size_extract]; omega) (Or.inl ⟨h, rfl⟩) w hT
  · exact pctAgain_any s0 s0 (by omega) (Or.inr ⟨by omega, rfl⟩) w hT
theorem btL_append (a b : ByteArray) : btL (a ++ b) = btL a ++ btL b := by
  simp [btL, ByteArray.data_append]
theorem strL_append (a b : List Int) : strL (a ++ b) = strL a ++ strL b := by
  apply ByteArray.ext
  simp [strL, ByteArray.data_append]
set_option maxHeartbeats 2000000 in
theorem pctParts_walk (a b : ByteArray) (w : World) (wa : a.size ≤ maxLen) (wb : b.size ≤ maxLen) (hT : Tabs w) :
    Calls Tryd.prog 6 #[.string a, .string b] w fun e w' => e = .returned (.bool true) ∧ Below w.heap.size w w' := by
  have HT := Lib.hid hT
  clear hT
  by_cases ha : 300 < a.size
  · have ha' : decide (300 < (a.size : Int)) = true := by simp; omega
    go_enter Tryd.func6, Tryd.ntmps6
    go_wp2_with fail
    refine (awake4_at _ HT.out).mono ?_
    rintro e w1 ⟨rfl, hb1⟩
    have T1 := Lib.hid (HT.out.later hb1)
    have B1 := Lib.hid hb1
    clear hb1
    go_wp2
    go_ret
    exact ⟨rfl, B1.out⟩
  · have ha' : decide (300 < (a.size : Int)) = false := by simp; omega
    by_cases hb : 300 < b.size
    · have hb' : decide (300 < (b.size : Int)) = true := by simp; omega
      go_enter Tryd.func6, Tryd.ntmps6
      go_wp2_with fail
      refine (awake4_at _ HT.out).mono ?_
      rintro e w1 ⟨rfl, hb1⟩
      have T1 := Lib.hid (HT.out.later hb1)
      have B1 := Lib.hid hb1
      clear hb1
      go_wp2
      go_ret
      exact ⟨rfl, B1.out⟩
    · have hb' : decide (300 < (b.size : Int)) = false := by simp; omega
      have sa : a.size ≤ 300 := by omega
      have sb : b.size ≤ 300 := by omega
      clear ha hb wa wb
      obtain ⟨ra, hra⟩ : ∃ r, nrmI (btL a) = r := ⟨_, rfl⟩
      obtain ⟨rb, hrb⟩ : ∃ r, nrmI (btL b) = r := ⟨_, rfl⟩
      cases ra with
      | none =>
        obtain ⟨tb, htb⟩ : ∃ t, strL (rb.getD []) = t := ⟨_, rfl⟩
        obtain ⟨bb, hbb⟩ : ∃ t, rb.isSome = t := ⟨_, rfl⟩
        have HA := Lib.hid hra
        have HB := Lib.hid hrb
        have HTB := Lib.hid htb
        have HBB := Lib.hid hbb
        clear hra hrb htb hbb
        go_enter Tryd.func6, Tryd.ntmps6
        go_wp2_with fail
        refine (norm_as a ⟨#[]⟩ false none HA.out rfl rfl _ (by omega) HT.out).mono ?_
        rintro e w1 ⟨rfl, hb1⟩
        have T1 := Lib.hid (HT.out.later hb1)
        have B1 := Lib.hid hb1
        clear hb1
        go_wp2_with fail
        refine (norm_as b tb bb rb HB.out HTB.out HBB.out _ (by omega) T1.out).mono ?_
        rintro e w2 ⟨rfl, hb2⟩
        have T2 := Lib.hid (T1.out.later hb2)
        have B2 := Lib.hid (B1.out.trans (hb2.mono B1.out.size))
        clear hb2
        go_wp2_with fail
        refine (awake4_at _ T2.out).mono ?_
        rintro e w3 ⟨rfl, hb3⟩
        have T3 := Lib.hid (T2.out.later hb3)
        have B3 := Lib.hid (B2.out.trans (hb3.mono B2.out.size))
        clear hb3
        go_wp2
        go_ret
        exact ⟨rfl, B3.out⟩
      | some xa =>
        obtain ⟨x, hx⟩ : ∃ t, strL xa = t := ⟨_, rfl⟩
        have px := (plain_nrm (btL_byts a) hra).len
        cases rb with
        | none =>
          have HA := Lib.hid hra
          have HB := Lib.hid hrb
          have HXA : Hid (strL ((some xa).getD []) = x) := Lib.hid hx
          clear hra hrb hx px
          go_enter Tryd.func6, Tryd.ntmps6
          go_wp2_with fail
          refine (norm_as a x true (some xa) HA.out HXA.out rfl _ (by omega) HT.out).mono ?_
          rintro e w1 ⟨rfl, hb1⟩
          have T1 := Lib.hid (HT.out.later hb1)
          have B1 := Lib.hid hb1
          clear hb1
          go_wp2_with fail
          refine (norm_as b ⟨#[]⟩ false none HB.out rfl rfl _ (by omega) T1.out).mono ?_
          rintro e w2 ⟨rfl, hb2⟩
          have T2 := Lib.hid (T1.out.later hb2)
          have B2 := Lib.hid (B1.out.trans (hb2.mono B1.out.size))
          clear hb2
          go_wp2_with fail
          refine (awake4_at _ T2.out).mono ?_
          rintro e w3 ⟨rfl, hb3⟩
          have T3 := Lib.hid (T2.out.later hb3)
          have B3 := Lib.hid (B2.out.trans (hb3.mono B2.out.size))
          clear hb3
          go_wp2
          go_ret
          exact ⟨rfl, B3.out⟩
        | some xb =>
          obtain ⟨y, hy⟩ : ∃ t, strL xb = t := ⟨_, rfl⟩
          have py := (plain_nrm (btL_byts b) hrb).len
          have xs : x.size ≤ 1000 := by rw [← hx, strL_size]; rw [btL_length] at px; omega
          have ys : y.size ≤ 1000 := by rw [← hy, strL_size]; rw [btL_length] at py; omega
          have HAB : Hid (nrmI (btL (a ++ b)) = some (xa ++ xb)) := Lib.hid (by
            rw [btL_append]
            exact rwI_append (btL_byts a) hra hrb)
          have HXY : Hid (strL ((some (xa ++ xb)).getD []) = x ++ y) := Lib.hid (by
            rw [← hx, ← hy]
            exact strL_append xa xb)
          have HA := Lib.hid hra
          have HB := Lib.hid hrb
          have HXA : Hid (strL ((some xa).getD []) = x) := Lib.hid hx
          have HXB : Hid (strL ((some xb).getD []) = y) := Lib.hid hy
          clear hra hrb hx hy px py
          go_enter Tryd.func6, Tryd.ntmps6
          go_wp2_with fail
          refine (norm_as a x true (some xa) HA.out HXA.out rfl _ (by omega) HT.out).mono ?_
          rintro e w1 ⟨rfl, hb1⟩
          have T1 := Lib.hid (HT.out.later hb1)
          have B1 := Lib.hid hb1
          clear hb1
          go_wp2_with fail
          refine (norm_as b y true (some xb) HB.out HXB.out rfl _ (by omega) T1.out).mono ?_
          rintro e w2 ⟨rfl, hb2⟩
          have T2 := Lib.hid (T1.out.later hb2)
          have B2 := Lib.hid (B1.out.trans (hb2.mono B1.out.size))
          clear hb2
          go_wp2_with fail
          refine (norm_as (a ++ b) (x ++ y) true (some (xa ++ xb)) HAB.out HXY.out rfl _ (by rw [ByteArray.size_append]; omega) T2.out).mono ?_
          rintro e w3 ⟨rfl, hb3⟩
          have T3 := Lib.hid (T2.out.later hb3)
          have B3 := Lib.hid (B2.out.trans (hb3.mono B2.out.size))
          clear hb3
          go_wp2_with fail
          refine (awake4_at _ T3.out).mono ?_
          rintro e w4 ⟨rfl, hb4⟩
          have T4 := Lib.hid (T3.out.later hb4)
          have B4 := Lib.hid (B3.out.trans (hb4.mono B3.out.size))
          clear hb4
          go_wp2
          go_ret
          exact ⟨rfl, B4.out⟩
theorem okc_ne {c : Int} (h : okc c) : 32 < c ∧ c < 127 ∧ (c ≠ 34 ∧ c ≠ 60 ∧ c ≠ 62 ∧ c ≠ 92 ∧ c ≠ 94 ∧ c ≠ 123 ∧ c ≠ 125 ∧ c ≠ 124 ∧ c ≠ 35 ∧ c ≠ 96) := h
set_option maxHeartbeats 2000000 in
theorem pctPlain_any (s0 s : ByteArray) (hs : s.size ≤ 1000) (hc : 1000 < s0.size ∧ s0.extract 0 1000 = s ∨ s0.size ≤ 1000 ∧ s = s0) (w : World) (hT : Tabs w) :
    Calls Tryd.prog 7 #[.string s0] w fun e w' => e = .returned (.bool true) ∧ Below w.heap.size w w' := by
  have HT := Lib.hid hT
  clear hT
  obtain ⟨r, hr⟩ : ∃ r, nrmI (btL s) = r := ⟨_, rfl⟩
  obtain ⟨t, ht⟩ : ∃ t, strL (r.getD []) = t := ⟨_, rfl⟩
  obtain ⟨b, hb⟩ : ∃ b, r.isSome = b := ⟨_, rfl⟩
  have hp : (∀ c ∈ btL t, okc c) ∧ t.size ≤ 3 * s.size := by
    cases r with
    | none => subst ht; exact ⟨by simp [btL, strL], by simp⟩
    | some x =>
      have h1 := plain_nrm (btL_byts s) hr
      have h2 := (again_of (btL_byts s) hr).byts
      subst ht
      refine ⟨?_, ?_⟩
      · show ∀ c ∈ btL (strL x), okc c
        rw [btL_strL h2]
        exact h1.ok
      · have := h1.len
        rw [btL_length] at this
        show (strL x).size ≤ _
        rw [strL_size]
        exact this
  obtain ⟨ho, hts⟩ := hp
  have HO := Lib.hid ho
  have hd3 : decide ((t.size : Int) ≤ 3 * (s.size : Int)) = true := by simp; omega
  have htm : t.size ≤ 3000 := by omega
  have HR := Lib.hid hr
  have HN := Lib.hid ht
  have HB := Lib.hid hb
  clear hr ht hb ho
  rcases hc with ⟨hc, he⟩ | ⟨hc, rfl⟩
  · have HE := Lib.hid he
    clear he
    go_enter Tryd.func7, Tryd.ntmps7
    go_wp2_with fail
    rw [HE.out]
    refine (norm_as s t b r HR.out HN.out HB.out _ (by omega) HT.out).mono ?_
    rintro e w1 ⟨rfl, hb1⟩
    have T1 := Lib.hid (HT.out.later hb1)
    have B1 := Lib.hid hb1
    clear hb1
    go_wp2_with fail
    go_loop [5, 6] (fun i _ => ∃ k : Nat, k ≤ t.size ∧ i = .int .i64 k) (fun i _ => t.size - (intOf i).toNat)
    case atStart => exact ⟨0, Nat.zero_le _, rfl⟩
    case round =>
      obtain ⟨k, hk, rfl⟩ := hrel
      by_cases hlt : k < t.size
      · obtain ⟨u, hu⟩ : ∃ u : Int, (t[k].toNat : Int) = u := ⟨_, rfl⟩
        have ho := HO.out u ((mem_bt t u).2 ⟨k, hlt, hu⟩)
        obtain ⟨o1, o2, o3⟩ := ho
        have d1 : decide (u ≤ 32) = false := by simp; omega
        have d2 : decide (127 ≤ u) = false := by simp; omega
        have n34 : (u == 34) = false := beq_eq_false_iff_ne.2 (by omega)
        have n60 : (u == 60) = false := beq_eq_false_iff_ne.2 (by omega)
        have n62 : (u == 62) = false := beq_eq_false_iff_ne.2 (by omega)
        have n92 : (u == 92) = false := beq_eq_false_iff_ne.2 (by omega)
        have n94 : (u == 94) = false := beq_eq_false_iff_ne.2 (by omega)
        have n123 : (u == 123) = false := beq_eq_false_iff_ne.2 (by omega)
        have n125 : (u == 125) = false := beq_eq_false_iff_ne.2 (by omega)
        have n124 : (u == 124) = false := beq_eq_false_iff_ne.2 (by omega)
        have n35 : (u == 35) = false := beq_eq_false_iff_ne.2 (by omega)
        have n96 : (u == 96) = false := beq_eq_false_iff_ne.2 (by omega)
        clear o1 o2 o3
        go_wp2
        go_round
        case rel => exact ⟨k + 1, by omega, by go_num⟩
        case measure => simp [intOf]; omega
      · go_wp2_with fail
        refine (awake4_at _ T1.out).mono ?_
        rintro e w2 ⟨rfl, hb2⟩
        have B2 := Lib.hid (B1.out.trans (hb2.mono B1.out.size))
        clear hb2
        go_wp2
        go_ret
        exact ⟨rfl, B2.out⟩
  · clear hc
    go_enter Tryd.func7, Tryd.ntmps7
    go_wp2_with fail
    refine (norm_as s t b r HR.out HN.out HB.out _ (by omega) HT.out).mono ?_
    rintro e w1 ⟨rfl, hb1⟩
    have T1 := Lib.hid (HT.out.later hb1)
    have B1 := Lib.hid hb1
    clear hb1
    go_wp2_with fail
    go_loop [5, 6] (fun i _ => ∃ k : Nat, k ≤ t.size ∧ i = .int .i64 k) (fun i _ => t.size - (intOf i).toNat)
    case atStart => exact ⟨0, Nat.zero_le _, rfl⟩
    case round =>
      obtain ⟨k, hk, rfl⟩ := hrel
      by_cases hlt : k < t.size
      · obtain ⟨u, hu⟩ : ∃ u : Int, (t[k].toNat : Int) = u := ⟨_, rfl⟩
        have ho := HO.out u ((mem_bt t u).2 ⟨k, hlt, hu⟩)
        obtain ⟨o1, o2, o3⟩ := ho
        have d1 : decide (u ≤ 32) = false := by simp; omega
        have d2 : decide (127 ≤ u) = false := by simp; omega
        have n34 : (u == 34) = false := beq_eq_false_iff_ne.2 (by omega)
        have n60 : (u == 60) = false := beq_eq_false_iff_ne.2 (by omega)
        have n62 : (u == 62) = false := beq_eq_false_iff_ne.2 (by omega)
        have n92 : (u == 92) = false := beq_eq_false_iff_ne.2 (by omega)
        have n94 : (u == 94) = false := beq_eq_false_iff_ne.2 (by omega)
        have n123 : (u == 123) = false := beq_eq_false_iff_ne.2 (by omega)
        have n125 : (u == 125) = false := beq_eq_false_iff_ne.2 (by omega)
        have n124 : (u == 124) = false := beq_eq_false_iff_ne.2 (by omega)
        have n35 : (u == 35) = false := beq_eq_false_iff_ne.2 (by omega)
        have n96 : (u == 96) = false := beq_eq_false_iff_ne.2 (by omega)
        clear o1 o2 o3
        go_wp2
        go_round
        case rel => exact ⟨k + 1, by omega, by go_num⟩
        case measure => simp [intOf]; omega
      · go_wp2_with fail
        refine (awake4_at _ T1.out).mono ?_
        rintro e w2 ⟨rfl, hb2⟩
        have B2 := Lib.hid (B1.out.trans (hb2.mono B1.out.size))
        clear hb2
        go_wp2
        go_ret
        exact ⟨rfl, B2.out⟩
theorem pctPlain_walk (s0 : ByteArray) (w : World) (hw : s0.size ≤ maxLen) (hT : Tabs w) :
    Calls Tryd.prog 7 #[.string s0] w fun e w' => e = .returned (.bool true) ∧ Below w.heap.size w w' := by
  by_cases h : 1000 < s0.size
  · exact pctPlain_any s0 (s0.extract 0 1000) (by simp [ByteArray.size_extract]; omega) (Or.inl ⟨h, rfl⟩) w hT
  · exact pctPlain_any s0 s0 (by omega) (Or.inr ⟨by omega, rfl⟩) w hT
theorem low_at (n : Int) (h0 : 0 ≤ n) (h1 : n < 16) (h : n.toNat < ({ data := #[48, 49, 50, 51, 52, 53, 54, 55, 56, 57, 97, 98, 99, 100, 101, 102] } : ByteArray).size) : ((({ data := #[48, 49, 50, 51, 52, 53, 54, 55, 56, 57, 97, 98, 99, 100, 101, 102] } : ByteArray)[n.toNat]'h).toNat : Int) = lowI n := by
  have := low_get n.toNat (by omega)
  rw [this, show ((n.toNat : Nat) : Int) = n from by omega]
set_option maxHeartbeats 2000000 in
theorem pctDecoded_any (s0 s : ByteArray) (hs : s.size ≤ 500) (hc : 500 < s0.size ∧ s0.extract 0 500 = s ∨ s0.size ≤ 500 ∧ s = s0) (w : World) (hT : Tabs w) :
    Calls Tryd.prog 8 #[.string s0] w fun e w' => e = .returned (.bool true) ∧ Below w.heap.size w w' := by
  have HT := Lib.hid hT
  clear hT
  obtain ⟨r, hr⟩ : ∃ r, decI (btL s) = r := ⟨_, rfl⟩
  rcases hc with ⟨hc, he⟩ | ⟨hc, rfl⟩
  · have HE := Lib.hid he
    clear he
    cases r with
    | none =>
      have HR := Lib.hid hr
      clear hr
      go_enter Tryd.func8, Tryd.ntmps8
      go_wp2_with fail
      rw [HE.out]
      refine (dec_as s ⟨#[]⟩ false none HR.out rfl rfl _ (by omega) HT.out).mono ?_
      rintro e w1 ⟨rfl, hb1⟩
      have T1 := Lib.hid (HT.out.later hb1)
      have B1 := Lib.hid hb1
      clear hb1
      go_wp2_with fail
      refine (awake4_at _ T1.out).mono ?_
      rintro e w2 ⟨rfl, hb2⟩
      have T2 := Lib.hid (T1.out.later hb2)
      have B2 := Lib.hid (B1.out.trans (hb2.mono B1.out.size))
      clear hb2
      go_wp2
      go_ret
      exact ⟨rfl, B2.out⟩
    | some dl =>
      obtain ⟨db, dlen⟩ := dec_byts (btL_byts s) hr
      rw [btL_length] at dlen
      obtain ⟨d, hd⟩ : ∃ d, strL dl = d := ⟨_, rfl⟩
      have hds : d.size = dl.length := by rw [← hd, strL_size]
      have hdb : btL d = dl := by rw [← hd]; exact btL_strL db
      obtain ⟨x, g1, g2, g3⟩ := cd_nrm db
      obtain ⟨t, ht⟩ : ∃ t, strL x = t := ⟨_, rfl⟩
      have cb := cdI_byts db
      have g4 := (plain_nrm cb g1).len
      rw [cdI_length] at g4
      have HR := Lib.hid hr
      have HD : Hid (strL ((some dl).getD []) = d) := Lib.hid hd
      have HNX : Hid (nrmI (btL (strL (cdI dl))) = some x) := Lib.hid (by rw [btL_strL cb]; exact g1)
      have HTX : Hid (strL ((some x).getD []) = t) := Lib.hid ht
      have HDX : Hid (decI (btL t) = some dl) := Lib.hid (by rw [← ht, btL_strL g3]; exact g2)
      have HTS : Hid (t.size ≤ 10000) := Lib.hid (by rw [← ht, strL_size]; omega)
      have HDS := Lib.hid hds
      have HDB := Lib.hid hdb
      have HBY := Lib.hid db
      have hdm : d.size ≤ 500 := by omega
      clear hr hd hds hdb g1 g2 g3 g4 cb ht db
      go_enter Tryd.func8, Tryd.ntmps8
      go_wp2_with fail
      rw [HE.out]
      refine (dec_as s d true (some dl) HR.out HD.out rfl _ (by omega) HT.out).mono ?_
      rintro e w1 ⟨rfl, hb1⟩
      have T1 := Lib.hid (HT.out.later hb1)
      have B1 := Lib.hid hb1
      clear hb1
      go_wp2_with fail
      go_loopw [5, 6] (fun cs i wr => ∃ k : Nat, k ≤ d.size ∧ i = .int .i64 k ∧ cs = .string (strL (cdI (dl.take k))) ∧ Hid (Below w.heap.size w wr)) (fun _ i _ => d.size - (intOf i).toNat)
      case atStart => exact ⟨0, Nat.zero_le _, rfl, rfl, B1⟩
      case round =>
        obtain ⟨k, hk, rfl, rfl, BR⟩ := hrel
        by_cases hlt : k < d.size
        · obtain ⟨u, hu⟩ : ∃ u : Int, (d[k].toNat : Int) = u := ⟨_, rfl⟩
          have hu0 : 0 ≤ u := by omega
          have hu1 : u < 256 := by have := d[k].toNat_lt; omega
          have a1 : 0 ≤ u / 16 := by omega
          have a2 : u / 16 < 16 := by omega
          have b1 : 0 ≤ u % 16 := by omega
          have b2 : u % 16 < 16 := by omega
          have e1 := low_at (u / 16) a1 a2 (by show (u / 16).toNat < 16; omega)
          have e2 := dig_at (u % 16) b1 b2 (by show (u % 16).toNat < 16; omega)
          have hcv := conv_at (RdB.new wr [37, lowI (u / 16), digI (u % 16)] 5 (0, 0)).drew 3 3 rfl
          simp only [List.map_cons, List.map_nil] at hcv
          obtain ⟨cs, hcs⟩ : ∃ cs, strL (cdI (dl.take k)) = cs := ⟨_, rfl⟩
          have hcl : cs.size ≤ 1500 := by
            rw [← hcs, strL_size, cdI_length]
            have := List.length_take_le k dl
            have := HDS.out
            omega
          have hnew : Hid (cs ++ strL [37, lowI (u / 16), digI (u % 16)] = strL (cdI (dl.take (k + 1)))) := Lib.hid (by
            have h1 := btL_get d k hlt
            rw [HDB.out, hu] at h1
            rw [h1, cdI_snoc, strL_append, hcs])
          obtain ⟨pc, hpc⟩ : ∃ pc, strL [37, lowI (u / 16), digI (u % 16)] = pc := ⟨_, rfl⟩
          have hps : pc.size = 3 := by rw [← hpc]; simp
          rw [hpc] at hnew hcv
          have hps2 : pc.size ≤ 3 := by omega
          have hadd : ∀ wx : World, (Op.stringOp .add (strL (cdI (dl.take k))) pc).run Tryd.prog wx = .ok (.string (strL (cdI (dl.take (k + 1))))) wx := fun wx => by
            rw [hcs, run_string_add_sum wx cs pc (by omega), hnew.out]
          clear hps hpc hcs hcl hps2
          go_wp2
          go_region
          clear hadd hcv
          go_wp2
          go_roundw
          case rel => exact ⟨k + 1, by omega, by go_num, rfl, Lib.hid ((BR.out.alloc BR.out.size _).drew)⟩
          case measure => simp [intOf]; omega
        · have HK : Hid (dl.take k = dl) := Lib.hid (List.take_of_length_le (by have := HDS.out; omega))
          have TR := Lib.hid (HT.out.later BR.out)
          go_wp2_with fail
          rw [HK.out]
          refine (norm_as (strL (cdI dl)) t true (some x) HNX.out HTX.out rfl _ (by rw [strL_size, cdI_length]; omega) TR.out).mono ?_
          rintro e w11 ⟨rfl, hb11⟩
          have T11 := Lib.hid (TR.out.later hb11)
          have B11 := Lib.hid (BR.out.trans (hb11.mono BR.out.size))
          clear hb11
          go_wp2_with fail
          refine (dec_as t d true (some dl) HDX.out HD.out rfl _ HTS.out T11.out).mono ?_
          rintro e w12 ⟨rfl, hb12⟩
          have T12 := Lib.hid (T11.out.later hb12)
          have B12 := Lib.hid (B11.out.trans (hb12.mono B11.out.size))
          clear hb12
          go_wp2_with fail
          refine (awake4_at _ T12.out).mono ?_
          rintro e w13 ⟨rfl, hb13⟩
          have T13 := Lib.hid (T12.out.later hb13)
          have B13 := Lib.hid (B12.out.trans (hb13.mono B12.out.size))
          clear hb13
          go_wp2
          go_ret
          exact ⟨rfl, B13.out⟩
  · clear hc
    cases r with
    | none =>
      have HR := Lib.hid hr
      clear hr
      go_enter Tryd.func8, Tryd.ntmps8
      go_wp2_with fail
      refine (dec_as s ⟨#[]⟩ false none HR.out rfl rfl _ (by omega) HT.out).mono ?_
      rintro e w1 ⟨rfl, hb1⟩
      have T1 := Lib.hid (HT.out.later hb1)
      have B1 := Lib.hid hb1
      clear hb1
      go_wp2_with fail
      refine (awake4_at _ T1.out).mono ?_
      rintro e w2 ⟨rfl, hb2⟩
      have T2 := Lib.hid (T1.out.later hb2)
      have B2 := Lib.hid (B1.out.trans (hb2.mono B1.out.size))
      clear hb2
      go_wp2
      go_ret
      exact ⟨rfl, B2.out⟩
    | some dl =>
      obtain ⟨db, dlen⟩ := dec_byts (btL_byts s) hr
      rw [btL_length] at dlen
      obtain ⟨d, hd⟩ : ∃ d, strL dl = d := ⟨_, rfl⟩
      have hds : d.size = dl.length := by rw [← hd, strL_size]
      have hdb : btL d = dl := by rw [← hd]; exact btL_strL db
      obtain ⟨x, g1, g2, g3⟩ := cd_nrm db
      obtain ⟨t, ht⟩ : ∃ t, strL x = t := ⟨_, rfl⟩
      have cb := cdI_byts db
      have g4 := (plain_nrm cb g1).len
      rw [cdI_length] at g4
      have HR := Lib.hid hr
      have HD : Hid (strL ((some dl).getD []) = d) := Lib.hid hd
      have HNX : Hid (nrmI (btL (strL (cdI dl))) = some x) := Lib.hid (by rw [btL_strL cb]; exact g1)
      have HTX : Hid (strL ((some x).getD []) = t) := Lib.hid ht
      have HDX : Hid (decI (btL t) = some dl) := Lib.hid (by rw [← ht, btL_strL g3]; exact g2)
      have HTS : Hid (t.size ≤ 10000) := Lib.hid (by rw [← ht, strL_size]; omega)
      have HDS := Lib.hid hds
      have HDB := Lib.hid hdb
      have HBY := Lib.hid db
      have hdm : d.size ≤ 500 := by omega
      clear hr hd hds hdb g1 g2 g3 g4 cb ht db
      go_enter Tryd.func8, Tryd.ntmps8
      go_wp2_with fail
      refine (dec_as s d true (some dl) HR.out HD.out rfl _ (by omega) HT.out).mono ?_
      rintro e w1 ⟨rfl, hb1⟩
      have T1 := Lib.hid (HT.out.later hb1)
      have B1 := Lib.hid hb1
      clear hb1
      go_wp2_with fail
      go_loopw [5, 6] (fun cs i wr => ∃ k : Nat, k ≤ d.size ∧ i = .int .i64 k ∧ cs = .string (strL (cdI (dl.take k))) ∧ Hid (Below w.heap.size w wr)) (fun _ i _ => d.size - (intOf i).toNat)
      case atStart => exact ⟨0, Nat.zero_le _, rfl, rfl, B1⟩
      case round =>
        obtain ⟨k, hk, rfl, rfl, BR⟩ := hrel
        by_cases hlt : k < d.size
        · obtain ⟨u, hu⟩ : ∃ u : Int, (d[k].toNat : Int) = u := ⟨_, rfl⟩
          have hu0 : 0 ≤ u := by omega
          have hu1 : u < 256 := by have := d[k].toNat_lt; omega
          have a1 : 0 ≤ u / 16 := by omega
          have a2 : u / 16 < 16 := by omega
          have b1 : 0 ≤ u % 16 := by omega
          have b2 : u % 16 < 16 := by omega
          have e1 := low_at (u / 16) a1 a2 (by show (u / 16).toNat < 16; omega)
          have e2 := dig_at (u % 16) b1 b2 (by show (u % 16).toNat < 16; omega)
          have hcv := conv_at (RdB.new wr [37, lowI (u / 16), digI (u % 16)] 5 (0, 0)).drew 3 3 rfl
          simp only [List.map_cons, List.map_nil] at hcv
          obtain ⟨cs, hcs⟩ : ∃ cs, strL (cdI (dl.take k)) = cs := ⟨_, rfl⟩
          have hcl : cs.size ≤ 1500 := by
            rw [← hcs, strL_size, cdI_length]
            have := List.length_take_le k dl
            have := HDS.out
            omega
          have hnew : Hid (cs ++ strL [37, lowI (u / 16), digI (u % 16)] = strL (cdI (dl.take (k + 1)))) := Lib.hid (by
            have h1 := btL_get d k hlt
            rw [HDB.out, hu] at h1
            rw [h1, cdI_snoc, strL_append, hcs])
          obtain ⟨pc, hpc⟩ : ∃ pc, strL [37, lowI (u / 16), digI (u % 16)] = pc := ⟨_, rfl⟩
          have hps : pc.size = 3 := by rw [← hpc]; simp
          rw [hpc] at hnew hcv
          have hps2 : pc.size ≤ 3 := by omega
          have hadd : ∀ wx : World, (Op.stringOp .add (strL (cdI (dl.take k))) pc).run Tryd.prog wx = .ok (.string (strL (cdI (dl.take (k + 1))))) wx := fun wx => by
            rw [hcs, run_string_add_sum wx cs pc (by omega), hnew.out]
          clear hps hpc hcs hcl hps2
          go_wp2
          go_region
          clear hadd hcv
          go_wp2
          go_roundw
          case rel => exact ⟨k + 1, by omega, by go_num, rfl, Lib.hid ((BR.out.alloc BR.out.size _).drew)⟩
          case measure => simp [intOf]; omega
        · have HK : Hid (dl.take k = dl) := Lib.hid (List.take_of_length_le (by have := HDS.out; omega))
          have TR := Lib.hid (HT.out.later BR.out)
          go_wp2_with fail
          rw [HK.out]
          refine (norm_as (strL (cdI dl)) t true (some x) HNX.out HTX.out rfl _ (by rw [strL_size, cdI_length]; omega) TR.out).mono ?_
          rintro e w11 ⟨rfl, hb11⟩
          have T11 := Lib.hid (TR.out.later hb11)
          have B11 := Lib.hid (BR.out.trans (hb11.mono BR.out.size))
          clear hb11
          go_wp2_with fail
          refine (dec_as t d true (some dl) HDX.out HD.out rfl _ HTS.out T11.out).mono ?_
          rintro e w12 ⟨rfl, hb12⟩
          have T12 := Lib.hid (T11.out.later hb12)
          have B12 := Lib.hid (B11.out.trans (hb12.mono B11.out.size))
          clear hb12
          go_wp2_with fail
          refine (awake4_at _ T12.out).mono ?_
          rintro e w13 ⟨rfl, hb13⟩
          have T13 := Lib.hid (T12.out.later hb13)
          have B13 := Lib.hid (B12.out.trans (hb13.mono B12.out.size))
          clear hb13
          go_wp2
          go_ret
          exact ⟨rfl, B13.out⟩
theorem pctDecoded_walk (s0 : ByteArray) (w : World) (hw : s0.size ≤ maxLen) (hT : Tabs w) :
    Calls Tryd.prog 8 #[.string s0] w fun e w' => e = .returned (.bool true) ∧ Below w.heap.size w w' := by
  by_cases h : 500 < s0.size
  · exact pctDecoded_any s0 (s0.extract 0 500) (by simp [ByteArray.size_extract]; omega) (Or.inl ⟨h, rfl⟩) w hT
  · exact pctDecoded_any s0 s0 (by omega) (Or.inr ⟨by omega, rfl⟩) w hT
end Go.Proofs.YtcedckkmdpecmaaDoor
