/- The document's months of a name. -/
import Derived.Test.YtcbllfbhifimnaaDoorDtFirst
namespace Go.Proofs.YtcbllfbhifimnaaDoor
open Go.RowKit
set_option linter.unusedVariables false
set_option linter.unusedSimpArgs false
set_option maxRecDepth 10000

theorem monN_inj : ∀ i : Fin 12, ∀ j : Fin 12, monN.getD i.val [] = monN.getD j.val [] → i = j := by decide
theorem byt_eq {x s : ByteArray} : (x.toList == s.toList) = true ↔ btL x = btL s := by
  rw [beq_iff_eq, Lib.toList_data, Lib.toList_data]
  constructor
  · intro h
    unfold btL
    rw [h]
  · intro h
    have := btL_inj h
    rw [this]
def MonP (s : ByteArray) (w : World) (e : Ending) (w' : World) : Prop := ∃ v : Int, e = .returned (.int .i64 v) ∧ 0 ≤ v ∧ v ≤ 12 ∧ Below w.heap.size w w' ∧ (∀ k : Nat, k < 12 → btL s = monN.getD k [] → v = (k : Int) + 1)
set_option maxHeartbeats 2000000 in
theorem rmonth_at (s : ByteArray) (w : World) : Calls Tryd.prog 33 #[.string s] w (MonP s w) := by
  go_enter Tryd.func33, Tryd.ntmps33
  go_wp2_with fail
  refine (rmonths_at _).mono ?_
  rintro e w1 ⟨b, rfl, X, B⟩
  rw [show monR.size = 13 from rfl]
  have X := Lib.hid X
  have B := Lib.hid B
  go_wp2
  go_loop [4] (fun i => ∃ k : Nat, 1 ≤ k ∧ k ≤ 13 ∧ i = .int .i64 (k : Int) ∧ Hid (∀ j : Nat, j + 1 < k → btL s ≠ monN.getD j [])) (fun i => 13 - (intOf i).toNat)
  case atStart => exact ⟨1, by omega, by omega, rfl, Lib.hid (fun j hj => by omega)⟩
  case round =>
    obtain ⟨k, k0, k1, rfl, HN⟩ := hrel
    by_cases hlt : k < 13
    · have e1 : decide ((k : Int) ≤ 12) = true := decide_eq_true (by omega)
      have e2 : decide (k ≤ 12) = true := decide_eq_true (by omega)
      obtain ⟨x, g1, g2, g3⟩ := monR_get k k0 hlt
      have cx : w1.cell? ⟨b, k, none⟩ = some (.string x) := by rw [X.out.cell, g1]
      have HG := Lib.hid g2
      have kk0 : (0 : Int) ≤ (k : Int) := by omega
      have kk1 : (k : Int) < 13 := by omega
      obtain ⟨z, hz⟩ : ∃ z, (x.toList == s.toList) = z := ⟨_, rfl⟩
      have HZ := Lib.hid hz
      clear g1 g2 g3
      cases z with
      | true =>
        go_wp2
        go_ret
        refine ⟨(k : Int), rfl, by omega, by omega, B.out, fun j hj he => ?_⟩
        have h1 := byt_eq.1 HZ.out
        rw [he, ← HG.out] at h1
        have := monN_inj ⟨k - 1, by omega⟩ ⟨j, hj⟩ h1
        injection this with this
        omega
      | false =>
        have HN2 : Hid (∀ j : Nat, j + 1 < k + 1 → btL s ≠ monN.getD j []) := Lib.hid (fun j hj he => by
          by_cases hjk : j + 1 < k
          · exact HN.out j hjk he
          · have hj1 : j = k - 1 := by omega
            subst hj1
            have h1 : btL x = btL s := by rw [he, ← HG.out]
            have := byt_eq.2 h1
            rw [HZ.out] at this
            cases this)
        go_wp2
        go_round
        case rel => exact ⟨k + 1, by omega, by omega, by simp, HN2⟩
        case measure => simp [intOf]; omega
    · have e1 : decide ((k : Int) ≤ 12) = false := decide_eq_false (by omega)
      have e2 : decide (k ≤ 12) = false := decide_eq_false (by omega)
      go_wp2
      go_ret
      exact ⟨0, rfl, by omega, by omega, B.out, fun j hj he => absurd he (HN.out j (by omega))⟩
end Go.Proofs.YtcbllfbhifimnaaDoor
