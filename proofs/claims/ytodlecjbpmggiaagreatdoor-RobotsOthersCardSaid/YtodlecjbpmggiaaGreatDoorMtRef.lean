/- The document's own form and match. -/
import Derived.Test.YtodlecjbpmggiaaGreatDoorMtGlobW
namespace Go.Proofs.YtodlecjbpmggiaaGreatDoor
open Go.RowKit
set_option linter.unusedVariables false
set_option linter.unusedSimpArgs false

theorem form_at (s t : ByteArray) (ht : nfB s = t) (hs : s.size ≤ 10000) (w : World) :
    Calls Tryz.prog 40 #[.string s] w fun e w' => e = .returned (.string t) ∧ Below w.heap.size w w' := by
  unfold nfB at ht
  cases hr : nrmI (btL s) with
  | none =>
    rw [hr] at ht
    subst ht
    have HR := Lib.hid hr
    clear hr
    go_enter Tryz.func40, Tryz.ntmps40
    go_wp2_with fail
    refine (rnorm_at s none HR.out hs _).mono ?_
    rintro e w1 ⟨rfl, hb⟩
    have HB := Lib.hid hb
    clear hb
    go_wp2
    go_ret
    exact ⟨rfl, HB.out⟩
  | some x =>
    rw [hr] at ht
    have HR := Lib.hid hr
    have HX : Hid (strL ((some x).getD []) = t) := Lib.hid ht
    clear hr ht
    go_enter Tryz.func40, Tryz.ntmps40
    go_wp2_with fail
    refine (rnorm_at s (some x) HR.out hs _).mono ?_
    rw [HX.out]
    rintro e w1 ⟨rfl, hb⟩
    have HB := Lib.hid hb
    clear hb
    go_wp2
    go_ret
    exact ⟨rfl, HB.out⟩
theorem dl_last (p : ByteArray) (h : 0 < p.size) : (dl p).getLast? = some (p[p.size - 1]'(by omega)) := by
  rw [List.getLast?_eq_getElem?, dl_len, dl_get p _ (by omega)]
theorem dl_init (p : ByteArray) : dl (p.extract 0 (p.size - 1)) = (dl p).dropLast := by
  unfold dl
  rw [Lib.extract_data, List.drop_zero, Nat.sub_zero, List.dropLast_eq_take, Lib.size_eq]
set_option maxHeartbeats 1000000 in
theorem rmatch_at (p s p' s' : ByteArray) (b : Bool) (hp' : nfB p = p') (hs' : nfB s = s') (hb : MM (dl p') (dl s') = b) (hp : p.size ≤ 10000) (hs : s.size ≤ 10000) (w : World) :
    Calls Tryz.prog 39 #[.string p, .string s] w fun e w' => e = .returned (.bool b) ∧ Below w.heap.size w w' := by
  have sp : p'.size ≤ 100000 := by have := nfB_size p; rw [hp'] at this; omega
  have ss : s'.size ≤ 100000 := by have := nfB_size s; rw [hs'] at this; omega
  have HP := Lib.hid hp'
  have HS := Lib.hid hs'
  have HB := Lib.hid hb
  clear hp' hs' hb
  go_enter Tryz.func39, Tryz.ntmps39
  go_wp2_with fail
  refine (form_at p p' HP.out hp _).mono ?_
  rintro e w1 ⟨rfl, hb1⟩
  have B1 := Lib.hid hb1
  clear hb1
  go_wp2_with fail
  refine (form_at s s' HS.out hs _).mono ?_
  rintro e w2 ⟨rfl, hb2⟩
  have B2 := Lib.hid (B1.out.trans (hb2.mono B1.out.size))
  clear hb2
  by_cases h0 : p'.size = 0
  · have hd0 : decide (0 < p'.size) = false := decide_eq_false (by omega)
    have hm : Hid ((if false then mb (dl p') (dl s') else mb (dl p' ++ [42]) (dl s')) = b) := Lib.hid (by
      rw [← HB.out]
      unfold MM
      have : dl p' = [] := List.eq_nil_of_length_eq_zero (by rw [dl_len]; exact h0)
      rw [this]
      rfl)
    have h0' : ¬ 0 < p'.size := by omega
    clear h0
    go_wp2_with fail
    refine (glob_at p' s' false b hm.out sp ss _).mono ?_
    rintro e w3 ⟨rfl, hb3⟩
    have B3 := Lib.hid (B2.out.trans (hb3.mono B2.out.size))
    clear hb3
    go_wp2
    go_ret
    exact ⟨rfl, B3.out⟩
  · have hp0 : 0 < p'.size := by omega
    have hd0 : decide (0 < p'.size) = true := decide_eq_true hp0
    have e1 : ((p'.size : Int) - 1).toNat = p'.size - 1 := by omega
    have e2 : (0 : Int) ≤ (p'.size : Int) - 1 := by omega
    have e3 : (p'.size : Int) - 1 < (p'.size : Int) := by omega
    have e5 : p'.size - 1 < p'.size := by omega
    obtain ⟨c, hc⟩ : ∃ c : Int, ((p'[p'.size - 1]'e5).toNat : Int) = c := ⟨_, rfl⟩
    have hl := dl_last p' hp0
    by_cases h36 : c = 36
    · have hq : (c == 36) = true := beq_iff_eq.2 h36
      have hm : Hid ((if true then mb (dl (p'.extract 0 (p'.size - 1))) (dl s') else mb (dl (p'.extract 0 (p'.size - 1)) ++ [42]) (dl s')) = b) := Lib.hid (by
        have e : MM (dl p') (dl s') = mb (dl p').dropLast (dl s') := if_pos (by rw [hl]; congr 1; apply UInt8.toNat_inj.1; show _ = 36; omega)
        rw [← HB.out, e, dl_init]
        rfl)
      have hsz : (p'.extract 0 (p'.size - 1)).size ≤ 100000 := by rw [ByteArray.size_extract]; omega
      clear h36 hl h0
      go_wp2_with fail
      refine (glob_at _ s' true b hm.out hsz ss _).mono ?_
      rintro e w3 ⟨rfl, hb3⟩
      have B3 := Lib.hid (B2.out.trans (hb3.mono B2.out.size))
      clear hb3
      go_wp2
      go_ret
      exact ⟨rfl, B3.out⟩
    · have hq : (c == 36) = false := beq_eq_false_iff_ne.2 h36
      have hm : Hid ((if false then mb (dl p') (dl s') else mb (dl p' ++ [42]) (dl s')) = b) := Lib.hid (by
        have e : MM (dl p') (dl s') = mb (dl p' ++ [42]) (dl s') := if_neg (fun h => by
          rw [hl] at h
          injection h with h
          apply h36
          rw [← hc, h]
          rfl)
        rw [← HB.out, e]
        rfl)
      clear h36 hl h0
      go_wp2_with fail
      refine (glob_at p' s' false b hm.out sp ss _).mono ?_
      rintro e w3 ⟨rfl, hb3⟩
      have B3 := Lib.hid (B2.out.trans (hb3.mono B2.out.size))
      clear hb3
      go_wp2
      go_ret
      exact ⟨rfl, B3.out⟩
end Go.Proofs.YtodlecjbpmggiaaGreatDoor
