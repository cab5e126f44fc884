/- Part of a chain: CmpI. -/
import Derived.Test.YtimkgaokcldgkaaGreatDoorFq00
import Derived.Test.YtimkgaokcldgkaaGreatDoorFq01
import Derived.Test.YtimkgaokcldgkaaGreatDoorFq07
import Derived.Test.YtimkgaokcldgkaaGreatDoorChecked
import Derived.WalkKit
import Derived.BigQuiet
import Derived.OpenShut
import Derived.Shelf.Abstract
import Derived.IntWalk
import Derived.Deep.Cut
import Derived.Deep.CutRange
import Derived.Deep.DeepCutAuto
import Derived.Deep.CutBlock
/- The library's Compare and Or of numbers. -/
namespace Go.Proofs.YtimkgaokcldgkaaGreatDoor
open Go Go.RowKit
set_option linter.unusedVariables false
set_option linter.unusedSimpArgs false
set_option maxRecDepth 100000

theorem isNaN_at (x : Int) (w : World) : Calls Tryz.prog 112 #[.int .i64 x] w fun e w' => e = .returned (.bool false) ∧ w' = w := by
  have hx : (x != x) = false := by simp
  go_enter Tryz.func112, Tryz.ntmps112
  go_wp2
  go_ret
  exact ⟨rfl, rfl⟩
theorem compare_at (x y : Int) (w : World) : Calls Tryz.prog 93 #[.int .i64 x, .int .i64 y] w fun e w' => e = .returned (.int .i64 (cmpI x y)) ∧ w' = w := by
  have HN := Lib.hid (fun z W => isNaN_at z W)
  obtain ⟨v, hv⟩ : ∃ v, cmpI x y = v := ⟨_, rfl⟩
  have HV : Hid (v = if x < y then -1 else if y < x then 1 else 0) := Lib.hid (by rw [← hv]; rfl)
  rw [hv]
  clear hv
  go_enter Tryz.func93, Tryz.ntmps93
  go_wp2_with fail
  refine (HN.out _ _).mono ?_
  rintro e w1 ⟨rfl, rfl⟩
  go_wp2_with fail
  refine (HN.out _ _).mono ?_
  rintro e w2 ⟨rfl, rfl⟩
  by_cases h1 : x < y
  · have d1 : decide (x < y) = true := decide_eq_true h1
    obtain rfl : v = -1 := by rw [HV.out, if_pos h1]
    go_wp2
    go_ret
    exact ⟨rfl, rfl⟩
  · have d1 : decide (x < y) = false := decide_eq_false h1
    by_cases h2 : y < x
    · have d2 : decide (y < x) = true := decide_eq_true h2
      obtain rfl : v = 1 := by rw [HV.out, if_neg h1, if_pos h2]
      go_wp2
      go_ret
      exact ⟨rfl, rfl⟩
    · have d2 : decide (y < x) = false := decide_eq_false h2
      obtain rfl : v = 0 := by rw [HV.out, if_neg h1, if_neg h2]
      go_wp2
      go_ret
      exact ⟨rfl, rfl⟩
theorem or_at (x y : Int) (g : Nat) (w : World) (h0 : w.cell? ⟨g, 0, none⟩ = some (.int .i64 x)) (h1 : w.cell? ⟨g, 1, none⟩ = some (.int .i64 y)) :
    Calls Tryz.prog 92 #[.slice (some ⟨g, 0, none⟩) 2 2] w fun e w' => e = .returned (.int .i64 (orI x y)) ∧ w' = w := by
  have H0 := Lib.hid h0
  have H1 := Lib.hid h1
  obtain ⟨v, hv⟩ : ∃ v, orI x y = v := ⟨_, rfl⟩
  have HV : Hid (v = if x = 0 then y else x) := Lib.hid (by rw [← hv]; rfl)
  rw [hv]
  clear hv h0 h1
  go_enter Tryz.func92, Tryz.ntmps92
  go_wp2_with fail
  go_loopw [5, 8] (fun _ j wr => ∃ k : Nat, k ≤ 2 ∧ j = .int .i64 (k : Int) ∧ wr = w ∧ Hid (1 ≤ k → x = 0) ∧ Hid (2 ≤ k → y = 0)) (fun _ j _ => 2 - (intOf j).toNat)
  case atStart => exact ⟨0, by omega, rfl, rfl, Lib.hid (fun h => by omega), Lib.hid (fun h => by omega)⟩
  case round =>
    obtain ⟨k, hk, rfl, rfl, K1, K2⟩ := hrel
    by_cases hlt : k < 2
    · have hkd : decide ((k : Int) < 2) = true := decide_eq_true (by omega)
      have hx0 : (0 : Int) ≤ (k : Int) := by omega
      obtain ⟨z, hz, hzz⟩ : ∃ z, wr.cell? ⟨g, k, none⟩ = some (.int .i64 z) ∧ ((k = 0 ∧ z = x) ∨ (k = 1 ∧ z = y)) := by
        rcases (by omega : k = 0 ∨ k = 1) with rfl | rfl
        · exact ⟨x, H0.out, Or.inl ⟨rfl, rfl⟩⟩
        · exact ⟨y, H1.out, Or.inr ⟨rfl, rfl⟩⟩
      have HZ := Lib.hid hzz
      clear hzz
      by_cases h0 : z = 0
      · have d0 : (z != 0) = false := by simp; exact h0
        have N1 : Hid (1 ≤ k + 1 → x = 0) := Lib.hid (fun _ => by
          rcases HZ.out with ⟨_, h⟩ | ⟨hk, _⟩
          · rw [← h]; exact h0
          · exact K1.out (by omega))
        have N2 : Hid (2 ≤ k + 1 → y = 0) := Lib.hid (fun h2 => by
          rcases HZ.out with ⟨hk, _⟩ | ⟨_, h⟩
          · omega
          · rw [← h]; exact h0)
        clear h0
        go_wp2
        go_roundw
        case rel => exact ⟨k + 1, by omega, by go_num, trivial, N1, N2⟩
        case measure =>
          simp only [intOf]
          omega
      · have d0 : (z != 0) = true := by simp; exact h0
        obtain rfl : v = z := by
          rw [HV.out]
          rcases HZ.out with ⟨_, h⟩ | ⟨hk, h⟩
          · subst h; rw [if_neg h0]
          · rw [if_pos (K1.out (by omega)), h]
        clear h0
        go_wp2
        go_ret
        exact ⟨rfl, rfl⟩
    · have hkd : decide ((k : Int) < 2) = false := decide_eq_false (by omega)
      obtain rfl : v = 0 := by rw [HV.out, if_pos (K1.out (by omega))]; exact K2.out (by omega)
      go_wp2
      go_ret
      exact ⟨rfl, rfl⟩
end Go.Proofs.YtimkgaokcldgkaaGreatDoor
