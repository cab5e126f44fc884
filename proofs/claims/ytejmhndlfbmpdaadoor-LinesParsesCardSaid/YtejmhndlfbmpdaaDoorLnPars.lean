/- LinesParses: the walk. -/
import Derived.Test.YtejmhndlfbmpdaaDoorLnAwk
namespace Go.Proofs.YtejmhndlfbmpdaaDoor
open Go Go.RowKit
set_option linter.unusedVariables false
set_option linter.unusedSimpArgs false
set_option maxRecDepth 10000

set_option maxHeartbeats 2000000 in
theorem linesParses_walk (s : ByteArray) (w : World) (_ : s.size ≤ maxLen) (_ : True) :
    Calls Tryd.prog 3 #[.string s] w fun e w' => e = .returned (.bool true) ∧ Below w.heap.size w w' := by
  go_enter Tryd.func3, Tryd.ntmps3
  go_upto_if 8 with fail
  go_cut [0] from 6 (fun v wx => ∃ x, v = .string x ∧ x.size ≤ 6000 ∧ wx = w)
  case first =>
    by_cases h : 6000 < s.size
    · have d1 : decide ((6000 : Int) < (s.size : Int)) = true := decide_eq_true (by omega)
      have d2 : decide (6000 < s.size) = true := decide_eq_true h
      have hz : (s.extract 0 6000).size ≤ 6000 := by simp; omega
      go_wp2
      go_meet
      exact ⟨_, rfl, hz, rfl⟩
    · have d1 : decide ((6000 : Int) < (s.size : Int)) = false := decide_eq_false (by omega)
      have d2 : decide (6000 < s.size) = false := decide_eq_false h
      go_wp2
      go_meet
      exact ⟨s, rfl, by omega, rfl⟩
  case rest =>
    obtain ⟨x, rfl, hx, he⟩ := hcut
    have he := he.symm
    subst he
    have hle := lines_len (btL x)
    obtain ⟨L, hL⟩ : ∃ L, linesL (btL x) = L := ⟨_, rfl⟩
    have P1 := Lib.hid (fun W : World => lparse_at x (by omega) L hL W trivial)
    have P2 := Lib.hid (fun W : World => rparse_lines x (by omega) L hL W)
    rw [hL] at hle
    obtain ⟨n, hn⟩ : ∃ n, L.length = n := ⟨_, rfl⟩
    have HN := Lib.hid hn
    have n1 : n ≤ 5000 := by omega
    have PR := Lib.hid (fun (a : Option Addr) (cap : Nat) (W : World) (h : RdLn W a L) => pairs_at L n hn n1 a cap W h)
    clear hle hL hn
    go_wp2_with fail
    refine (P1.out _).mono ?_
    rintro e w2 ⟨a, cap, rfl, ho, hb⟩
    have HL := Lib.hid (rdLn_own ho rfl)
    have B2 := Lib.hid hb
    clear ho hb
    rw [HN.out]
    go_wp2_with fail
    refine (PR.out _ _ _ HL.out).mono ?_
    rintro e w3 ⟨a2, cap2, rfl, ho, hb⟩
    have HA := Lib.hid (rdLn_own ho rfl)
    have B3 := Lib.hid (B2.out.trans (hb.mono B2.out.size))
    clear ho hb
    go_wp2_with fail
    refine (P2.out _).mono ?_
    rintro e w4 ⟨a3, cap3, rfl, ho, hb⟩
    have HA := Lib.hid (HA.out.later hb)
    have HB := Lib.hid (rdLn_own ho rfl)
    have B4 := Lib.hid (B3.out.trans (hb.mono B3.out.size))
    clear ho hb
    rw [HN.out]
    go_wp2_with fail
    go_loopw [2, 5] (fun r j wr => ∃ k : Nat, k ≤ n ∧ r = .bool false ∧ j = .int .i64 (k : Int) ∧ Hid (Below w4.heap.size w4 wr)) (fun _ j _ => n - (intOf j).toNat)
    case atStart => exact ⟨0, by omega, rfl, rfl, Lib.hid (Below.refl _ _)⟩
    case round =>
      obtain ⟨k, hk, rfl, rfl, BR⟩ := hrel
      by_cases hlt : k < n
      · have hkd : decide ((k : Int) < (n : Int)) = true := decide_eq_true (by omega)
        obtain ⟨y, hy⟩ : ∃ y, L[k]? = some y := ⟨L[k]'(by have := HN.out; omega), List.getElem?_eq_getElem _⟩
        obtain ⟨b1, o1, h1, h2⟩ := HA.out.later BR.out
        obtain ⟨b2, o2, h3, h4⟩ := HB.out.later BR.out
        have hne : L ≠ [] := by intro e; rw [e] at hy; simp at hy
        have ea := h1 hne
        have eb := h3 hne
        obtain ⟨c0, c1⟩ := h2 k y hy
        obtain ⟨d0, d1⟩ := h4 k y hy
        subst ea
        subst eb
        have ix0 : (0 : Int) ≤ (k : Int) := by omega
        have ix1 : (k : Int) < (n : Int) := by omega
        clear h2 h4 hy
        go_upto_region 9 with fail
        go_quiet (fail)
        obtain ⟨w5, hw5⟩ : ∃ W, wr.drewN nq = W := ⟨_, rfl⟩
        have B5 : Hid (Below w4.heap.size w4 w5) := Lib.hid (by rw [← hw5]; exact ln_drewN BR.out nq)
        rw [hw5]
        clear hw5 c0 c1 d0 d1 BR
        go_wp2
        go_roundw
        case rel => exact ⟨k + 1, by omega, rfl, by go_num, B5⟩
        case measure => simp [intOf]; omega
      · have hkd : decide ((k : Int) < (n : Int)) = false := decide_eq_false (by omega)
        go_wp2_with fail
        refine (awake9 _).mono ?_
        rintro e w5 ⟨rfl, hb⟩
        have B5 := Lib.hid (B4.out.trans ((BR.out.trans (hb.mono BR.out.size)).mono B4.out.size))
        clear hb
        go_wp2
        go_ret
        exact ⟨rfl, B5.out⟩
end Go.Proofs.YtejmhndlfbmpdaaDoor
