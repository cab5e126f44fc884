/- Days and dates, and the laws of layer 2, walked. -/
import Derived.Test.YtodibjpojfipoaaGreatDoorCivil
import Derived.Test.YtodibjpojfipoaaGreatDoorFrame
namespace Go.Proofs.YtodibjpojfipoaaGreatDoor
open Go.RowKit

theorem ret_pair {a b : Int} {v : Bool} (h : a = b) : Ending.returned (.tuple #[.int .i64 a, .bool v]) = .returned (.tuple #[.int .i64 b, .bool v]) := by rw [h]

set_option maxHeartbeats 1000000 in
theorem days_yes (y m d : Int) (h : Valid y m d) (w : World) :
    Calls Tryz.prog 80 #[.int .i64 y, .int .i64 m, .int .i64 d] w fun e w' => e = .returned (.tuple #[.int .i64 (num y m d), .bool true]) ∧ w = w' := by
  have hn := num_range y m d h
  obtain ⟨y0, y1, m1, m2, d1, d2⟩ := h
  obtain ⟨l, hl⟩ : ∃ l, lenI y m = l := ⟨_, rfl⟩
  rw [hl] at d2
  have hl31 := (lenI_bd y m).2
  rw [hl] at hl31
  obtain ⟨b, hb⟩ : ∃ b, bef y = b := ⟨_, rfl⟩
  have b1 := bef_bd y y0 (by omega)
  rw [hb] at b1
  obtain ⟨b0, b2⟩ := b1
  have e : num y m d = b - 719528 + cumI y m + d - 1 := by rw [← hb]; rfl
  have E := Lib.hid e
  have HL := Lib.hid hl
  have HB := Lib.hid hb
  have c1 := Lib.hid (cumI_one y)
  clear hl hb e hn
  have g1 : decide (y < 0) = false := decide_eq_false (by omega)
  have g2 : decide (9999 < y) = false := decide_eq_false (by omega)
  have g3 : decide (d < 1) = false := decide_eq_false (by omega)
  have g4 : decide (l < d) = false := decide_eq_false (by omega)
  go_enter Tryz.func80, Tryz.ntmps80
  go_wp2_with (first
    | (go_at_call 108; refine (len_as _ _ _ HL.out _).mono ?_; rintro e w' ⟨rfl, rfl⟩)
    | (go_at_call 109; refine (bef_as _ _ y0 (by omega) HB.out _).mono ?_; rintro e w' ⟨rfl, rfl⟩))
  clear g1 g2 g3 g4
  go_loop [8, 9] (fun x i => ∃ k : Int, 1 ≤ k ∧ k ≤ m ∧ i = .int .i64 k ∧ ∃ c : Int, 0 ≤ c ∧ c ≤ 366 ∧ Hid (c = cumI y k) ∧ x = .int .i64 (b - 719528 + c)) (fun _ i => (m - intOf i).toNat)
  case atStart => exact ⟨1, by omega, m1, rfl, 0, by omega, by omega, Lib.hid c1.out.symm, by rw [Int.add_zero]⟩
  case round =>
    obtain ⟨k, k1, k2, rfl, c, c0, c366, HC, rfl⟩ := hrel
    by_cases hlt : k < m
    · obtain ⟨x, hx⟩ : ∃ x, lenI y k = x := ⟨_, rfl⟩
      have hx31 := lenI_bd y k
      rw [hx] at hx31
      obtain ⟨x0, x31⟩ := hx31
      have hs := cumI_succ y k k1 (by omega)
      have hb2 := cumI_bd y (k + 1) (by omega) (by omega)
      rw [hs, hx, ← HC.out] at hb2
      obtain ⟨_, hb3⟩ := hb2
      have HS : Hid (c + x = cumI y (k + 1)) := Lib.hid (by rw [hs, hx, HC.out])
      have HX := Lib.hid hx
      clear hx hs
      go_wp2_with (go_at_call 108; refine (len_as _ _ _ HX.out _).mono ?_; rintro e w' ⟨rfl, rfl⟩)
      go_round
      case rel => exact ⟨k + 1, by omega, by omega, rfl, c + x, by omega, by omega, HS, by rw [Int.add_assoc]⟩
      case measure => simp [intOf]; omega
    · have HK := Lib.hid (show k = m by omega)
      go_wp2
      go_ret2
      exact ⟨ret_pair (by rw [E.out, HC.out, HK.out]), rfl⟩

set_option maxHeartbeats 1000000 in
theorem days_no (y m d : Int) (h : ¬ Valid y m d) (w : World) :
    Calls Tryz.prog 80 #[.int .i64 y, .int .i64 m, .int .i64 d] w fun e w' => e = .returned (.tuple #[.int .i64 0, .bool false]) ∧ w = w' := by
  by_cases h1 : y < 0
  · have g1 : decide (y < 0) = true := decide_eq_true h1
    go_enter Tryz.func80, Tryz.ntmps80
    go_wp2
    go_ret2
    exact ⟨rfl, rfl⟩
  · have g1 : decide (y < 0) = false := decide_eq_false h1
    by_cases h2 : 9999 < y
    · have g2 : decide (9999 < y) = true := decide_eq_true h2
      go_enter Tryz.func80, Tryz.ntmps80
      go_wp2
      go_ret2
      exact ⟨rfl, rfl⟩
    · have g2 : decide (9999 < y) = false := decide_eq_false h2
      by_cases h3 : d < 1
      · have g3 : decide (d < 1) = true := decide_eq_true h3
        go_enter Tryz.func80, Tryz.ntmps80
        go_wp2
        go_ret2
        exact ⟨rfl, rfl⟩
      · have g3 : decide (d < 1) = false := decide_eq_false h3
        have h4 : lenI y m < d := by
          by_cases hm : m < 1 ∨ 12 < m
          · rw [lenI_out y m hm]; omega
          · by_cases g : lenI y m < d
            · exact g
            · exact absurd ⟨by omega, by omega, by omega, by omega, by omega, by omega⟩ h
        obtain ⟨l, hl⟩ : ∃ l, lenI y m = l := ⟨_, rfl⟩
        rw [hl] at h4
        have HL := Lib.hid hl
        clear hl h
        have g4 : decide (l < d) = true := decide_eq_true h4
        go_enter Tryz.func80, Tryz.ntmps80
        go_wp2_with (go_at_call 108; refine (len_as _ _ _ HL.out _).mono ?_; rintro e w' ⟨rfl, rfl⟩)
        go_ret2
        exact ⟨rfl, rfl⟩

set_option maxHeartbeats 1000000 in
theorem rdays_no (y m d : Int) (h : ¬ Valid y m d) (w : World) :
    Calls Tryz.prog 84 #[.int .i64 y, .int .i64 m, .int .i64 d] w fun e w' => e = .returned (.tuple #[.int .i64 0, .bool false]) ∧ Below w.heap.size w w' := by
  by_cases h1 : y < 0
  · have g1 : decide (y < 0) = true := decide_eq_true h1
    go_enter Tryz.func84, Tryz.ntmps84
    go_wp2
    go_ret2
    exact ⟨rfl, Below.refl _ _⟩
  · have g1 : decide (y < 0) = false := decide_eq_false h1
    by_cases h2 : 9999 < y
    · have g2 : decide (9999 < y) = true := decide_eq_true h2
      go_enter Tryz.func84, Tryz.ntmps84
      go_wp2
      go_ret2
      exact ⟨rfl, Below.refl _ _⟩
    · have g2 : decide (9999 < y) = false := decide_eq_false h2
      by_cases h3 : d < 1
      · have g3 : decide (d < 1) = true := decide_eq_true h3
        go_enter Tryz.func84, Tryz.ntmps84
        go_wp2
        go_ret2
        exact ⟨rfl, Below.refl _ _⟩
      · have g3 : decide (d < 1) = false := decide_eq_false h3
        have h4 : lenI y m < d := by
          by_cases hm : m < 1 ∨ 12 < m
          · rw [lenI_out y m hm]; omega
          · by_cases g : lenI y m < d
            · exact g
            · exact absurd ⟨by omega, by omega, by omega, by omega, by omega, by omega⟩ h
        obtain ⟨l, hl⟩ : ∃ l, lenI y m = l := ⟨_, rfl⟩
        rw [hl] at h4
        have HL := Lib.hid hl
        clear hl h
        have g4 : decide (l < d) = true := decide_eq_true h4
        go_enter Tryz.func84, Tryz.ntmps84
        go_wp2_with (go_at_call 110; refine (rlen_as _ _ _ HL.out _).mono ?_; rintro e w' ⟨rfl, hb⟩)
        go_ret2
        exact ⟨rfl, hb⟩

set_option maxHeartbeats 2000000 in
theorem rdays_yes (y m d : Int) (h : Valid y m d) (w : World) :
    Calls Tryz.prog 84 #[.int .i64 y, .int .i64 m, .int .i64 d] w fun e w' => e = .returned (.tuple #[.int .i64 (num y m d), .bool true]) ∧ Below w.heap.size w w' := by
  obtain ⟨y0, y1, m1, m2, d1, d2⟩ := h
  obtain ⟨l, hl⟩ : ∃ l, lenI y m = l := ⟨_, rfl⟩
  rw [hl] at d2
  have hl31 := (lenI_bd y m).2
  rw [hl] at hl31
  obtain ⟨b, hb⟩ : ∃ b, bef y - 719528 = b := ⟨_, rfl⟩
  have b1 := bef_bd y y0 (by omega)
  have b3 : -719528 ≤ b := by omega
  have b4 : b ≤ 3652425 := by omega
  have e : num y m d = b + cumI y m + d - 1 := by rw [← hb]; rfl
  have E := Lib.hid e
  have HL := Lib.hid hl
  have HB := Lib.hid hb
  have c1 := Lib.hid (cumI_one y)
  have c2 := Lib.hid bef_1970
  clear hl hb e b1
  have g1 : decide (y < 0) = false := decide_eq_false (by omega)
  have g2 : decide (9999 < y) = false := decide_eq_false (by omega)
  have g3 : decide (d < 1) = false := decide_eq_false (by omega)
  have g4 : decide (l < d) = false := decide_eq_false (by omega)
  go_enter Tryz.func84, Tryz.ntmps84
  go_wp2_with (go_at_call 110; refine (rlen_as _ _ _ HL.out _).mono ?_; rintro e w1 ⟨rfl, hw1⟩)
  clear g1 g2 g3 g4
  go_loop [8, 9] (fun x i => ∃ k : Int, 1970 ≤ k ∧ k ≤ 10000 ∧ (1970 ≤ y → k ≤ y) ∧ (y < 1970 → k = 1970) ∧ i = .int .i64 k ∧ ∃ c : Int, 0 ≤ c ∧ c ≤ 3652425 ∧ Hid (c = bef k - 719528) ∧ x = .int .i64 c) (fun _ i => (10000 - intOf i).toNat)
  case atStart => exact ⟨1970, by omega, by omega, by omega, by omega, rfl, 0, by omega, by omega, Lib.hid (by have := c2.out; omega), rfl⟩
  case round =>
    obtain ⟨k, k1, k2, k3, k4, rfl, c, c0, c366, HC, rfl⟩ := hrel
    by_cases hlt : k < y
    · have hs := bef_succ k
      have hbb := (bef_bd (k + 1) (by omega) (by omega)).2
      have hcc := HC.out
      cases hlp : leapB k
      · have hz := lp_no hlp
        have HS : Hid (c + 365 = bef (k + 1) - 719528) := Lib.hid (by omega)
        have hm : c + 365 ≤ 3652425 := by omega
        have H := Lib.hid hlp
        clear hlp hs hz hbb hcc k3 k4
        go_wp2_with (go_at_call 88; refine (rleap_as _ _ H.out _).mono ?_; rintro e w' ⟨rfl, rfl⟩)
        go_round
        case rel => exact ⟨k + 1, by omega, by omega, by omega, by omega, rfl, c + 365, by omega, hm, HS, rfl⟩
        case measure => simp [intOf]; omega
      · have hz := lp_yes hlp
        have HS : Hid (c + 365 + 1 = bef (k + 1) - 719528) := Lib.hid (by omega)
        have hm : c + 365 + 1 ≤ 3652425 := by omega
        have H := Lib.hid hlp
        clear hlp hs hz hbb hcc k3 k4
        go_wp2_with (go_at_call 88; refine (rleap_as _ _ H.out _).mono ?_; rintro e w' ⟨rfl, rfl⟩)
        go_round
        case rel => exact ⟨k + 1, by omega, by omega, by omega, by omega, rfl, c + 365 + 1, by omega, hm, HS, rfl⟩
        case measure => simp [intOf]; omega
    · by_cases h70 : y < 1970
      · have hc0 : c = 0 := by
          have := HC.out
          rw [k4 h70, c2.out] at this
          omega
        subst hc0
        clear k3 k4 HC
        go_wp2
        go_loop [8, 10] (fun x i => ∃ j : Int, y ≤ j ∧ j ≤ 1970 ∧ i = .int .i64 j ∧ ∃ c : Int, -719528 ≤ c ∧ c ≤ 0 ∧ Hid (c = bef y - bef j) ∧ x = .int .i64 c) (fun _ i => (1970 - intOf i).toNat)
        case atStart => exact ⟨y, by omega, by omega, rfl, 0, by omega, by omega, Lib.hid (by omega), rfl⟩
        case round =>
          obtain ⟨j, j1, j2, rfl, c, cl, ch, HC, rfl⟩ := hrel
          by_cases hjt : j < 1970
          · have hs := bef_succ j
            have hbb := bef_mono (j + 1) 1970 (by omega) (by omega)
            have hbz := (bef_bd y y0 (by omega)).1
            rw [c2.out] at hbb
            have hcc := HC.out
            have hlp01 := lp_01 j
            cases hlp : leapB j
            · have hz := lp_no hlp
              have HS : Hid (c - 365 = bef y - bef (j + 1)) := Lib.hid (by omega)
              have hm : -719528 ≤ c - 365 := by omega
              have H := Lib.hid hlp
              clear hlp hs hz hbb hcc hbz hlp01
              go_wp2_with (go_at_call 88; refine (rleap_as _ _ H.out _).mono ?_; rintro e w' ⟨rfl, rfl⟩)
              go_round
              case rel => exact ⟨j + 1, by omega, by omega, rfl, c - 365, hm, by omega, HS, rfl⟩
              case measure => simp [intOf]; omega
            · have hz := lp_yes hlp
              have HS : Hid (c - 365 - 1 = bef y - bef (j + 1)) := Lib.hid (by omega)
              have hm : -719528 ≤ c - 365 - 1 := by omega
              have H := Lib.hid hlp
              clear hlp hs hz hbb hcc hbz hlp01
              go_wp2_with (go_at_call 88; refine (rleap_as _ _ H.out _).mono ?_; rintro e w' ⟨rfl, rfl⟩)
              go_round
              case rel => exact ⟨j + 1, by omega, by omega, rfl, c - 365 - 1, hm, by omega, HS, rfl⟩
              case measure => simp [intOf]; omega
          · have hcb : c = b := by
              have := HC.out
              rw [show j = 1970 by omega, c2.out] at this
              have := HB.out
              omega
            clear HC
            subst hcb
            go_wp2
            go_loopw [8, 11] (fun x i wr => Below w.heap.size w wr ∧ ∃ k : Int, 1 ≤ k ∧ k ≤ m ∧ i = .int .i64 k ∧ ∃ z : Int, 0 ≤ z ∧ z ≤ 366 ∧ Hid (z = cumI y k) ∧ x = .int .i64 (c + z)) (fun _ i _ => (m - intOf i).toNat)
            case atStart => exact ⟨hw1, 1, by omega, m1, rfl, 0, by omega, by omega, Lib.hid c1.out.symm, by rw [Int.add_zero]⟩
            case round =>
              obtain ⟨hbw, q, q1, q2, rfl, z, z0, z366, HZ, rfl⟩ := hrel
              by_cases hqt : q < m
              · obtain ⟨x, hx⟩ : ∃ x, lenI y q = x := ⟨_, rfl⟩
                have hx31 := lenI_bd y q
                rw [hx] at hx31
                obtain ⟨x0, x31⟩ := hx31
                have hs := cumI_succ y q q1 (by omega)
                have hb2 := cumI_bd y (q + 1) (by omega) (by omega)
                rw [hs, hx, ← HZ.out] at hb2
                obtain ⟨_, hb3⟩ := hb2
                have HS : Hid (z + x = cumI y (q + 1)) := Lib.hid (by rw [hs, hx, HZ.out])
                have HX := Lib.hid hx
                clear hx hs
                go_wp2_with (go_at_call 110; refine (rlen_as _ _ _ HX.out _).mono ?_; rintro e w' ⟨rfl, hbl⟩)
                go_roundw
                case rel => exact ⟨hbw.trans (hbl.mono hbw.size), q + 1, by omega, by omega, rfl, z + x, by omega, by omega, HS, by rw [Int.add_assoc]⟩
                case measure => simp [intOf]; omega
              · have HK := Lib.hid (show q = m by omega)
                go_wp2
                go_ret2
                exact ⟨ret_pair (by rw [E.out, HZ.out, HK.out]), hbw⟩
      · have hcb : c = b := by
          have := HC.out
          rw [show k = y by omega] at this
          have := HB.out
          omega
        clear k3 k4 HC
        subst hcb
        go_wp2
        go_loop [8, 10] (fun x i => x = .int .i64 c ∧ i = .int .i64 y) (fun _ _ => 0)
        case atStart => exact ⟨rfl, rfl⟩
        case round =>
          obtain ⟨rfl, rfl⟩ := hrel
          go_wp2
          go_loopw [8, 11] (fun x i wr => Below w.heap.size w wr ∧ ∃ k : Int, 1 ≤ k ∧ k ≤ m ∧ i = .int .i64 k ∧ ∃ z : Int, 0 ≤ z ∧ z ≤ 366 ∧ Hid (z = cumI y k) ∧ x = .int .i64 (c + z)) (fun _ i _ => (m - intOf i).toNat)
          case atStart => exact ⟨hw1, 1, by omega, m1, rfl, 0, by omega, by omega, Lib.hid c1.out.symm, by rw [Int.add_zero]⟩
          case round =>
            obtain ⟨hbw, q, q1, q2, rfl, z, z0, z366, HZ, rfl⟩ := hrel
            by_cases hqt : q < m
            · obtain ⟨x, hx⟩ : ∃ x, lenI y q = x := ⟨_, rfl⟩
              have hx31 := lenI_bd y q
              rw [hx] at hx31
              obtain ⟨x0, x31⟩ := hx31
              have hs := cumI_succ y q q1 (by omega)
              have hb2 := cumI_bd y (q + 1) (by omega) (by omega)
              rw [hs, hx, ← HZ.out] at hb2
              obtain ⟨_, hb3⟩ := hb2
              have HS : Hid (z + x = cumI y (q + 1)) := Lib.hid (by rw [hs, hx, HZ.out])
              have HX := Lib.hid hx
              clear hx hs
              go_wp2_with (go_at_call 110; refine (rlen_as _ _ _ HX.out _).mono ?_; rintro e w' ⟨rfl, hbl⟩)
              go_roundw
              case rel => exact ⟨hbw.trans (hbl.mono hbw.size), q + 1, by omega, by omega, rfl, z + x, by omega, by omega, HS, by rw [Int.add_assoc]⟩
              case measure => simp [intOf]; omega
            · have HK := Lib.hid (show q = m by omega)
              go_wp2
              go_ret2
              exact ⟨ret_pair (by rw [E.out, HZ.out, HK.out]), hbw⟩

end Go.Proofs.YtodibjpojfipoaaGreatDoor
