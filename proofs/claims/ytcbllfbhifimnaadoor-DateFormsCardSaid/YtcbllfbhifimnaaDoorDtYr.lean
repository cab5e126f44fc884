/- The document's years: of two digits, of some seconds. -/
import Derived.Test.YtcbllfbhifimnaaDoorDtYear
namespace Go.Proofs.YtcbllfbhifimnaaDoor
open Go.RowKit
set_option linter.unusedVariables false
set_option linter.unusedSimpArgs false
set_option maxRecDepth 10000

set_option maxHeartbeats 2000000 in
theorem ryear_at (d Y : Int) (d0 : 0 ≤ d) (d1 : d < 100) (y0 : 1970 ≤ Y) (y1 : Y ≤ 8970) (w : World) :
    Calls Tryd.prog 15 #[.int .i64 d, .int .i64 Y] w fun e w' => e = .returned (.int .i64 (fyI Y d)) ∧ w' = w := by
  have hf := fyI_is Y d d0 d1
  have hb := fyI_bd Y d ⟨y0, y1⟩ d0 d1
  obtain ⟨F, hF⟩ : ∃ F, fyI Y d = F := ⟨_, rfl⟩
  rw [hF] at hf hb ⊢
  obtain ⟨f1, f2, f3⟩ := hf
  obtain ⟨f4, f5⟩ := hb
  clear hF
  go_enter Tryd.func15, Tryd.ntmps15
  go_wp2
  go_loop [5] (fun v => ∃ y : Int, v = .int .i64 y ∧ F ≤ y ∧ y ≤ 9999) (fun v => (intOf v - F).toNat)
  case atStart => exact ⟨9999, rfl, by omega, by omega⟩
  case round =>
    obtain ⟨y, rfl, g1, g2⟩ := hrel
    obtain ⟨r, hr⟩ : ∃ r, y.tmod 100 = r := ⟨_, rfl⟩
    have hr2 : y % 100 = r := by rw [← hr, Int.tmod_eq_emod_of_nonneg (by omega)]
    have yb : Hid (y = F ∨ (Y + 50 < y ∨ r ≠ d)) := Lib.hid (by omega)
    by_cases h1 : Y + 50 < y
    · have e1 : decide (Y + 50 < y) = true := decide_eq_true h1
      clear hr2
      go_wp2
      go_round
      case rel => exact ⟨y - 1, rfl, by omega, by omega⟩
      case measure => simp [intOf]; omega
    · have e1 : decide (Y + 50 < y) = false := decide_eq_false h1
      by_cases h2 : r = d
      · have e2 : (r != d) = false := by simp [h2]
        have HE : Hid (y = F) := Lib.hid (by have := yb.out; omega)
        clear hr2
        go_wp2
        go_ret
        exact ⟨by rw [HE.out]; rfl, rfl⟩
      · have e2 : (r != d) = true := bne_iff_ne.2 h2
        have hne : Hid (F < y) := Lib.hid (by
          by_cases hh : F = y
          · exact absurd (by omega) h2
          · omega)
        clear hr2
        go_wp2
        go_round
        case rel => exact ⟨y - 1, rfl, by have := hne.out; omega, by omega⟩
        case measure => have := hne.out; simp [intOf]; omega
set_option maxHeartbeats 2000000 in
theorem rat_at (sec Y : Int) (h : YearIs (sec / 86400) Y) (s0 : 0 ≤ sec) (s1 : sec ≤ 220752000000) (w : World) :
    Calls Tryd.prog 16 #[.int .i64 sec] w fun e w' => e = .returned (.int .i64 Y) ∧ w' = w := by
  have hy := h.bd (by omega) (by omega)
  obtain ⟨n, hn⟩ : ∃ n, sec / 86400 = n := ⟨_, rfl⟩
  have hn2 : sec.tdiv 86400 = n := by rw [Int.tdiv_eq_ediv_of_nonneg s0, hn]
  have n0 : 0 ≤ n := by omega
  have n1 : n ≤ 2555000 := by omega
  rw [hn] at h
  obtain ⟨m, dd, hv, hnum⟩ := h
  have hin := num_in Y m dd hv
  rw [hnum] at hin
  have HIN := Lib.hid hin
  obtain ⟨y0, y1⟩ := hy
  have B70 := Lib.hid bef_1970
  clear hv hnum hin
  go_enter Tryd.func16, Tryd.ntmps16
  go_wp2
  go_loop [3, 4] (fun a b => ∃ y l : Int, a = .int .i64 y ∧ b = .int .i64 l ∧ 1970 ≤ y ∧ y ≤ Y ∧ 0 ≤ l ∧ l ≤ 2555000 ∧ Hid (l = n - (bef y - 719528))) (fun a _ => (Y - intOf a).toNat)
  case atStart => exact ⟨1970, n, rfl, rfl, by omega, y0, n0, n1, Lib.hid (by rw [B70.out]; omega)⟩
  case round =>
    obtain ⟨y, l, rfl, rfl, g1, g2, g3, g4, HL⟩ := hrel
    obtain ⟨b, hb⟩ : ∃ b, leapB y = b := ⟨_, rfl⟩
    have LP := Lib.hid (fun W : World => rleap_as y b hb W)
    have hs := bef_succ y
    have hcmp : Hid ((l < 365 + lp y → y = Y) ∧ (¬ l < 365 + lp y → y + 1 ≤ Y ∧ l - (365 + lp y) = n - (bef (y + 1) - 719528))) := Lib.hid (by
      have h1 := HL.out
      have h2 := HIN.out
      constructor
      · intro h3
        by_cases h4 : y = Y
        · exact h4
        · have := bef_mono (y + 1) Y (by omega) (by omega)
          omega
      · intro h3
        refine ⟨?_, by omega⟩
        by_cases h4 : y = Y
        · subst h4; omega
        · omega)
    clear hs
    cases b with
    | true =>
      rw [lp_yes hb] at hcmp
      clear hb
      by_cases hl : l < 366
      · have d1 : decide (l < 366) = true := decide_eq_true hl
        have HE : Hid (y = Y) := Lib.hid (hcmp.out.1 (by omega))
        go_wp2_with (refine (LP.out _).mono ?_; rintro e w' ⟨rfl, rfl⟩)
        go_ret
        exact ⟨by rw [HE.out]; rfl, rfl⟩
      · have d1 : decide (l < 366) = false := decide_eq_false hl
        have HE := Lib.hid (hcmp.out.2 (by omega))
        go_wp2_with (refine (LP.out _).mono ?_; rintro e w' ⟨rfl, rfl⟩)
        go_round
        case rel => exact ⟨y + 1, l - 366, rfl, rfl, by omega, HE.out.1, by omega, by omega, Lib.hid (by have := HE.out.2; omega)⟩
        case measure => have := HE.out.1; simp [intOf]; omega
    | false =>
      rw [lp_no hb] at hcmp
      clear hb
      by_cases hl : l < 365
      · have d1 : decide (l < 365) = true := decide_eq_true hl
        have HE : Hid (y = Y) := Lib.hid (hcmp.out.1 (by omega))
        go_wp2_with (refine (LP.out _).mono ?_; rintro e w' ⟨rfl, rfl⟩)
        go_ret
        exact ⟨by rw [HE.out]; rfl, rfl⟩
      · have d1 : decide (l < 365) = false := decide_eq_false hl
        have HE := Lib.hid (hcmp.out.2 (by omega))
        go_wp2_with (refine (LP.out _).mono ?_; rintro e w' ⟨rfl, rfl⟩)
        go_round
        case rel => exact ⟨y + 1, l - 365, rfl, rfl, by omega, HE.out.1, by omega, by omega, Lib.hid (by have := HE.out.2; omega)⟩
        case measure => have := HE.out.1; simp [intOf]; omega
end Go.Proofs.YtcbllfbhifimnaaDoor
