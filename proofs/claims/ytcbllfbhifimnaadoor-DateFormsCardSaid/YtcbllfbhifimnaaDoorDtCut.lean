/- The document's parts of a text, and numbers in it. -/
import Derived.Test.YtcbllfbhifimnaaDoorDtNum
namespace Go.Proofs.YtcbllfbhifimnaaDoor
open Go.RowKit
set_option linter.unusedVariables false
set_option linter.unusedSimpArgs false
set_option maxRecDepth 10000

/-- A part of a text, as far as there is any. -/
def cutB (s : ByteArray) (a b : Nat) : ByteArray := if s.size < a then ⟨#[]⟩ else if s.size < b then s.extract a s.size else s.extract a b
set_option maxHeartbeats 1000000 in
theorem rcut_at (s t : ByteArray) (a b : Nat) (hab : a ≤ b) (ht : cutB s a b = t) (w : World) :
    Calls Tryd.prog 32 #[.string s, .int .i64 (a : Int), .int .i64 (b : Int)] w fun e w' => e = .returned (.string t) ∧ w' = w := by
  have n0 : ¬ (a : Int) < 0 := by omega
  have d0 : decide ((a : Int) < 0) = false := decide_eq_false n0
  by_cases h1 : s.size < a
  · have e1 : decide ((s.size : Int) < (a : Int)) = true := decide_eq_true (by omega)
    have e2 : decide (s.size < a) = true := decide_eq_true h1
    have HT : Hid ((⟨#[]⟩ : ByteArray) = t) := Lib.hid (by rw [← ht]; unfold cutB; rw [if_pos h1])
    clear ht
    go_enter Tryd.func32, Tryd.ntmps32
    go_wp2
    go_ret
    rw [← HT.out]
    exact ⟨rfl, rfl⟩
  · have e1 : decide ((s.size : Int) < (a : Int)) = false := decide_eq_false (by omega)
    have e2 : decide (s.size < a) = false := decide_eq_false h1
    have l1 : (a : Int) ≤ (s.size : Int) := by omega
    have l2 : a ≤ s.size := by omega
    by_cases h2 : s.size < b
    · have e3 : decide ((s.size : Int) < (b : Int)) = true := decide_eq_true (by omega)
      have e4 : decide (s.size < b) = true := decide_eq_true h2
      have HT : Hid (s.extract a s.size = t) := Lib.hid (by rw [← ht]; unfold cutB; rw [if_neg h1, if_pos h2])
      clear ht
      go_enter Tryd.func32, Tryd.ntmps32
      go_wp2
      go_ret
      rw [← HT.out]
      exact ⟨rfl, rfl⟩
    · have e3 : decide ((s.size : Int) < (b : Int)) = false := decide_eq_false (by omega)
      have e4 : decide (s.size < b) = false := decide_eq_false h2
      have l3 : (b : Int) ≤ (s.size : Int) := by omega
      have l4 : b ≤ s.size := by omega
      have l5 : (a : Int) ≤ (b : Int) := by omega
      have HT : Hid (s.extract a b = t) := Lib.hid (by rw [← ht]; unfold cutB; rw [if_neg h1, if_neg h2])
      clear ht
      go_enter Tryd.func32, Tryd.ntmps32
      go_wp2
      go_ret
      rw [← HT.out]
      exact ⟨rfl, rfl⟩
theorem btD_ne {s : ByteArray} {k : Nat} (h : k < s.size) : btL s ≠ [] := by
  intro hn
  have := btL_length s
  rw [hn, List.length_nil] at this
  omega
/-- What the document takes a text for, as a number. -/
def rnumI (l : List Int) : Int := if l = [] then -1 else (digS 0 l).getD (-1)
set_option maxHeartbeats 2000000 in
theorem rnum_at (s : ByteArray) (v : Int) (hv : rnumI (btL s) = v) (hs : s.size ≤ 9) (w : World) :
    Calls Tryd.prog 31 #[.string s] w fun e w' => e = .returned (.int .i64 v) ∧ w' = w := by
  have HV := Lib.hid hv
  clear hv
  go_enter Tryd.func31, Tryd.ntmps31
  go_wp2
  go_loop [3, 4] (fun n i => ∃ (k : Nat) (u : Int), k ≤ s.size ∧ n = .int .i64 u ∧ i = .int .i64 (k : Int) ∧ 0 ≤ u ∧ u < 1000000000 ∧ Hid (u < 10 ^ k) ∧ Hid (digS 0 (btL s) = digS u ((btL s).drop k))) (fun _ i => s.size - (intOf i).toNat)
  case atStart => exact ⟨0, 0, by omega, rfl, rfl, by omega, by omega, Lib.hid (by decide), Lib.hid (by rw [List.drop_zero])⟩
  case round =>
    obtain ⟨k, u, k1, rfl, rfl, u0, u1, HU, HD⟩ := hrel
    by_cases hlt : k < s.size
    · have e1 : decide ((k : Int) < (s.size : Int)) = true := decide_eq_true (by omega)
      have e2 : decide (k < s.size) = true := decide_eq_true hlt
      obtain ⟨c, hc⟩ : ∃ c : Int, (s[k].toNat : Int) = c := ⟨_, rfl⟩
      have HDc : Hid (digS 0 (btL s) = digS u (c :: (btL s).drop (k + 1))) := Lib.hid (by rw [HD.out, btD_cons s k hlt, hc])
      have c0 : 0 ≤ c := by omega
      have c1 : c ≤ 255 := by have := s[k].toNat_lt; omega
      have hk0 : (0 : Int) ≤ (k : Int) := by omega
      have hp := pow_mono (k + 1) 9 (by omega)
      have hp9 : (10 : Int) ^ 9 = 1000000000 := by decide
      by_cases h1 : c < 48
      · have d1 : decide (c < 48) = true := decide_eq_true h1
        have HE : Hid ((-1 : Int) = v) := Lib.hid (by
          rw [← HV.out]
          unfold rnumI
          rw [if_neg (btD_ne hlt), HDc.out, digS_no (by omega)]
          rfl)
        clear hp hp9
        go_wp2
        go_ret
        rw [← HE.out]
        exact ⟨rfl, rfl⟩
      · have d1 : decide (c < 48) = false := decide_eq_false h1
        by_cases h2 : 57 < c
        · have d2 : decide (57 < c) = true := decide_eq_true h2
          have HE : Hid ((-1 : Int) = v) := Lib.hid (by
            rw [← HV.out]
            unfold rnumI
            rw [if_neg (btD_ne hlt), HDc.out, digS_no (by omega)]
            rfl)
          clear hp hp9
          go_wp2
          go_ret
          rw [← HE.out]
          exact ⟨rfl, rfl⟩
        · have d2 : decide (57 < c) = false := decide_eq_false h2
          have e4 : IntKind.u8.wrap (c - 48) = c - 48 := by rw [IntKind.wrap_u8]; omega
          have HP : Hid (10 * u + (c - 48) < 10 ^ (k + 1)) := Lib.hid (pow_step k u c HU.out (by omega))
          have HB : Hid (10 * u + (c - 48) < 1000000000) := Lib.hid (by have := HP.out; omega)
          have HE : Hid (digS 0 (btL s) = digS (10 * u + (c - 48)) ((btL s).drop (k + 1))) := Lib.hid (by rw [HDc.out, digS_yes (by omega)])
          clear hp hp9
          go_wp2
          go_round
          case rel => exact ⟨k + 1, 10 * u + (c - 48), by omega, rfl, by simp, by omega, HB.out, HP, HE⟩
          case measure => simp [intOf]; omega
    · have e1 : decide ((k : Int) < (s.size : Int)) = false := decide_eq_false (by omega)
      have e2 : decide (k < s.size) = false := decide_eq_false hlt
      have HDD : Hid (digS 0 (btL s) = some u) := Lib.hid (by
        rw [HD.out, List.drop_eq_nil_of_le (by simp; omega)]
        rfl)
      cases hz : s.toList.isEmpty with
      | true =>
        have HE : Hid ((-1 : Int) = v) := Lib.hid (by
          rw [← HV.out]
          unfold rnumI
          rw [if_pos (by rw [Lib.toList_data, List.isEmpty_iff] at hz; unfold btL; rw [hz]; rfl)])
        go_wp2
        go_ret
        rw [← HE.out]
        exact ⟨rfl, rfl⟩
      | false =>
        have HE : Hid (u = v) := Lib.hid (by
          rw [← HV.out]
          unfold rnumI
          rw [if_neg (by
            intro hn
            unfold btL at hn
            rw [List.map_eq_nil_iff] at hn
            rw [Lib.toList_data, hn] at hz
            cases hz), HDD.out]
          rfl)
        go_wp2
        go_ret
        rw [← HE.out]
        exact ⟨rfl, rfl⟩
end Go.Proofs.YtcbllfbhifimnaaDoor
