/- Days and dates, and the laws of layer 2, walked. -/
import Derived.Test.YtodibjpojfipoaaDoorCivil
import Derived.Test.YtodibjpojfipoaaDoorFrame
namespace Go.Proofs.YtodibjpojfipoaaDoor
open Go.RowKit

theorem ret_pair {a b : Int} {v : Bool} (h : a = b) : Ending.returned (.tuple #[.int .i64 a, .bool v]) = .returned (.tuple #[.int .i64 b, .bool v]) := by rw [h]

set_option maxHeartbeats 1000000 in
theorem days_yes (y m d : Int) (h : Valid y m d) (w : World) :
    Calls Tryd.prog 52 #[.int .i64 y, .int .i64 m, .int .i64 d] w fun e w' => e = .returned (.tuple #[.int .i64 (num y m d), .bool true]) ∧ w = w' := by
  have hn := num_range y m d h
  obtain ⟨y0, y1, m1, m2, d1, d2⟩ := h
  obtain ⟨l, hl⟩ : ∃ l, lenI y m = l := ⟨_, rfl⟩
  rw [hl] at d2
  have hl31 := (lenI_bd y m).2
  rw [hl] at hl31
  obtain ⟨b, hb⟩ : ∃ b, bef y = b := ⟨_, rfl⟩
  have b1 := bef_bd y y0 (by omega)
  rw [hb] at b1
  obtain ⟨b0, b2⟩ := b1
  have e : num y m d = b - 719528 + cumI y m + d - 1 := by rw [← hb]; rfl
  have E := Lib.hid e
  have HL := Lib.hid hl
  have HB := Lib.hid hb
  have c1 := Lib.hid (cumI_one y)
  clear hl hb e hn
  have g1 : decide (y < 0) = false := decide_eq_false (by omega)
  have g2 : decide (9999 < y) = false := decide_eq_false (by omega)
  have g3 : decide (d < 1) = false := decide_eq_false (by omega)
  have g4 : decide (l < d) = false := decide_eq_false (by omega)
  go_enter Tryd.func52, Tryd.ntmps52
  go_wp2_with (first
    | (go_at_call 70; refine (len_as _ _ _ HL.out _).mono ?_; rintro e w' ⟨rfl, rfl⟩)
    | (go_at_call 71; refine (bef_as _ _ y0 (by omega) HB.out _).mono ?_; rintro e w' ⟨rfl, rfl⟩))
  clear g1 g2 g3 g4
  go_loop [8, 9] (fun x i => ∃ k : Int, 1 ≤ k ∧ k ≤ m ∧ i = .int .i64 k ∧ ∃ c : Int, 0 ≤ c ∧ c ≤ 366 ∧ Hid (c = cumI y k) ∧ x = .int .i64 (b - 719528 + c)) (fun _ i => (m - intOf i).toNat)
  case atStart => exact ⟨1, by omega, m1, rfl, 0, by omega, by omega, Lib.hid c1.out.symm, by rw [Int.add_zero]⟩
  case round =>
    obtain ⟨k, k1, k2, rfl, c, c0, c366, HC, rfl⟩ := hrel
    by_cases hlt : k < m
    · obtain ⟨x, hx⟩ : ∃ x, lenI y k = x := ⟨_, rfl⟩
      have hx31 := lenI_bd y k
      rw [hx] at hx31
      obtain ⟨x0, x31⟩ := hx31
      have hs := cumI_succ y k k1 (by omega)
      have hb2 := cumI_bd y (k + 1) (by omega) (by omega)
      rw [hs, hx, ← HC.out] at hb2
      obtain ⟨_, hb3⟩ := hb2
      have HS : Hid (c + x = cumI y (k + 1)) := Lib.hid (by rw [hs, hx, HC.out])
      have HX := Lib.hid hx
      clear hx hs
      go_wp2_with (go_at_call 70; refine (len_as _ _ _ HX.out _).mono ?_; rintro e w' ⟨rfl, rfl⟩)
      go_round
      case rel => exact ⟨k + 1, by omega, by omega, rfl, c + x, by omega, by omega, HS, by rw [Int.add_assoc]⟩
      case measure => simp [intOf]; omega
    · have HK := Lib.hid (show k = m by omega)
      go_wp2
      go_ret2
      exact ⟨ret_pair (by rw [E.out, HC.out, HK.out]), rfl⟩

set_option maxHeartbeats 1000000 in
theorem days_no (y m d : Int) (h : ¬ Valid y m d) (w : World) :
    Calls Tryd.prog 52 #[.int .i64 y, .int .i64 m, .int .i64 d] w fun e w' => e = .returned (.tuple #[.int .i64 0, .bool false]) ∧ w = w' := by
  by_cases h1 : y < 0
  · have g1 : decide (y < 0) = true := decide_eq_true h1
    go_enter Tryd.func52, Tryd.ntmps52
    go_wp2
    go_ret2
    exact ⟨rfl, rfl⟩
  · have g1 : decide (y < 0) = false := decide_eq_false h1
    by_cases h2 : 9999 < y
    · have g2 : decide (9999 < y) = true := decide_eq_true h2
      go_enter Tryd.func52, Tryd.ntmps52
      go_wp2
      go_ret2
      exact ⟨rfl, rfl⟩
    · have g2 : decide (9999 < y) = false := decide_eq_false h2
      by_cases h3 : d < 1
      · have g3 : decide (d < 1) = true := decide_eq_true h3
        go_enter Tryd.func52, Tryd.ntmps52
        go_wp2
        go_ret2
        exact ⟨rfl, rfl⟩
      · have g3 : decide (d < 1) = false := decide_eq_false h3
        have h4 : lenI y m < d := by
          by_cases hm : m < 1 ∨ 12 < m
          · rw [lenI_out y m hm]; omega
          · by_cases g : lenI y m < d
            · exact g
            · exact absurd ⟨by omega, by omega, by omega, by omega, by omega, by omega⟩ h
        obtain ⟨l, hl⟩ : ∃ l, lenI y m = l := ⟨_, rfl⟩
        rw [hl] at h4
        have HL := Lib.hid hl
        clear hl h
        have g4 : decide (l < d) = true := decide_eq_true h4
        go_enter Tryd.func52, Tryd.ntmps52
        go_wp2_with (go_at_call 70; refine (len_as _ _ _ HL.out _).mono ?_; rintro e w' ⟨rfl, rfl⟩)
        go_ret2
        exact ⟨rfl, rfl⟩

end Go.Proofs.YtodibjpojfipoaaDoor
