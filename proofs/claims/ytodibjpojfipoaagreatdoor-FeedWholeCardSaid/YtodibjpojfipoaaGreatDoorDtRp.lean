/- The document's Parse of a second text. -/
import Derived.Test.YtodibjpojfipoaaGreatDoorDtForm
import Derived.Test.YtodibjpojfipoaaGreatDoorDtYear
import Derived.Test.YtodibjpojfipoaaGreatDoorDtNum
/- The document's seconds; a moment of any numbers. -/
namespace Go.Proofs.YtodibjpojfipoaaGreatDoor
open Go.RowKit
set_option linter.unusedVariables false
set_option linter.unusedSimpArgs false
set_option maxRecDepth 10000

def ClkIn (h mi s : Int) : Prop := (0 ≤ h ∧ h ≤ 23) ∧ (0 ≤ mi ∧ mi ≤ 59) ∧ (0 ≤ s ∧ s ≤ 59)
instance (h mi s : Int) : Decidable (ClkIn h mi s) := by unfold ClkIn; infer_instance
def rsecI (y mo d h mi s : Int) : Option Int := if Valid y mo d ∧ ClkIn h mi s then some (num y mo d * 86400 + h * 3600 + mi * 60 + s) else none
set_option maxHeartbeats 4000000 in
theorem rsec_at (y mo d h mi s : Int) (o : Option Int) (ho : rsecI y mo d h mi s = o) (w : World) :
    Calls Tryz.prog 50 #[.agg #[.int .i64 y, .int .i64 mo, .int .i64 d, .int .i64 h, .int .i64 mi, .int .i64 s]] w (OptP o w) := by
  obtain ⟨g, hg⟩ : ∃ g, w.heap.size = g := ⟨_, rfl⟩
  by_cases hv : Valid y mo d
  · have hr := num_range y mo d hv
    obtain ⟨n, hn⟩ : ∃ n, num y mo d = n := ⟨_, rfl⟩
    have D : Hid (∀ W : World, Calls Tryz.prog 84 #[.int .i64 y, .int .i64 mo, .int .i64 d] W fun e w' => e = .returned (.tuple #[.int .i64 n, .bool true]) ∧ Below W.heap.size W w') := Lib.hid (fun W => by have := rdays_yes y mo d hv W; rw [hn] at this; exact this)
    have HO : Hid (o = if ClkIn h mi s then some (n * 86400 + h * 3600 + mi * 60 + s) else none) := Lib.hid (by
      rw [← ho, ← hn]
      unfold rsecI
      by_cases hc : ClkIn h mi s
      · rw [if_pos ⟨hv, hc⟩, if_pos hc]
      · rw [if_neg (fun x => hc x.2), if_neg hc])
    rw [hn] at hr
    obtain ⟨n0, n1⟩ := hr
    clear hv ho hn
    go_enter Tryz.func50, Tryz.ntmps50
    go_wp2_with fail
    refine calls_forget (fun wx => Hid (Box wx g #[.int .i64 y, .int .i64 mo, .int .i64 d, .int .i64 h, .int .i64 mi, .int .i64 s] 60) ∧ Hid (Below w.heap.size w wx)) ⟨Lib.hid (dBox_new hg.symm), Lib.hid ((Below.refl _ _).alloc (Nat.le_refl _) _)⟩ ?_
    clear hg
    rintro w1 ⟨X1, B1⟩
    refine (D.out _).mono ?_
    rintro e w2 ⟨rfl, hb⟩
    have X2 := Lib.hid (X1.out.later hb)
    have B2 := Lib.hid (B1.out.trans (hb.mono B1.out.size))
    clear hb X1 B1
    have c3 := X2.out.cell 3
    have c4 := X2.out.cell 4
    have c5 := X2.out.cell 5
    have cl := X2.out.lt
    simp only [List.getElem?_toArray, List.getElem?_cons_zero, List.getElem?_cons_succ] at c3 c4 c5
    by_cases t0 : h < 0
    · have d0 : decide (h < 0) = true := decide_eq_true t0
      have HE : Hid (o = none) := Lib.hid (by rw [HO.out, if_neg (by unfold ClkIn; omega)])
      go_wp2
      go_ret2
      exact ⟨by rw [HE.out]; rfl, B2.out⟩
    · have d0 : decide (h < 0) = false := decide_eq_false t0
      by_cases t1 : 23 < h
      · have d1 : decide (23 < h) = true := decide_eq_true t1
        have HE : Hid (o = none) := Lib.hid (by rw [HO.out, if_neg (by unfold ClkIn; omega)])
        go_wp2
        go_ret2
        exact ⟨by rw [HE.out]; rfl, B2.out⟩
      · have d1 : decide (23 < h) = false := decide_eq_false t1
        by_cases t2 : mi < 0
        · have d2 : decide (mi < 0) = true := decide_eq_true t2
          have HE : Hid (o = none) := Lib.hid (by rw [HO.out, if_neg (by unfold ClkIn; omega)])
          go_wp2
          go_ret2
          exact ⟨by rw [HE.out]; rfl, B2.out⟩
        · have d2 : decide (mi < 0) = false := decide_eq_false t2
          by_cases t3 : 59 < mi
          · have d3 : decide (59 < mi) = true := decide_eq_true t3
            have HE : Hid (o = none) := Lib.hid (by rw [HO.out, if_neg (by unfold ClkIn; omega)])
            go_wp2
            go_ret2
            exact ⟨by rw [HE.out]; rfl, B2.out⟩
          · have d3 : decide (59 < mi) = false := decide_eq_false t3
            by_cases t4 : s < 0
            · have d4 : decide (s < 0) = true := decide_eq_true t4
              have HE : Hid (o = none) := Lib.hid (by rw [HO.out, if_neg (by unfold ClkIn; omega)])
              go_wp2
              go_ret2
              exact ⟨by rw [HE.out]; rfl, B2.out⟩
            · have d4 : decide (s < 0) = false := decide_eq_false t4
              by_cases t5 : 59 < s
              · have d5 : decide (59 < s) = true := decide_eq_true t5
                have HE : Hid (o = none) := Lib.hid (by rw [HO.out, if_neg (by unfold ClkIn; omega)])
                go_wp2
                go_ret2
                exact ⟨by rw [HE.out]; rfl, B2.out⟩
              · have d5 : decide (59 < s) = false := decide_eq_false t5
                have HE : Hid (o = some (n * 86400 + h * 3600 + mi * 60 + s)) := Lib.hid (by rw [HO.out, if_pos (by unfold ClkIn; omega)])
                go_wp2
                go_ret2
                exact ⟨by rw [HE.out]; rfl, B2.out⟩
  · have D : Hid (∀ W : World, Calls Tryz.prog 84 #[.int .i64 y, .int .i64 mo, .int .i64 d] W fun e w' => e = .returned (.tuple #[.int .i64 0, .bool false]) ∧ Below W.heap.size W w') := Lib.hid (fun W => (rdays_no y mo d hv W).mono fun e w' hh => ⟨hh.1, by first | exact hh.2 | (rw [← hh.2]; exact Below.refl _ _)⟩)
    have HE : Hid (o = none) := Lib.hid (by rw [← ho]; unfold rsecI; rw [if_neg (fun x => hv x.1)])
    clear hv ho
    go_enter Tryz.func50, Tryz.ntmps50
    go_wp2_with fail
    refine calls_forget (fun wx => Hid (Below w.heap.size w wx)) (Lib.hid ((Below.refl _ _).alloc (Nat.le_refl _) _)) ?_
    intro w1 B1
    refine (D.out _).mono ?_
    rintro e w2 ⟨rfl, hb⟩
    have B2 := Lib.hid (B1.out.trans (hb.mono B1.out.size))
    clear hb
    go_wp2
    go_ret2
    exact ⟨by rw [HE.out]; rfl, B2.out⟩
end Go.Proofs.YtodibjpojfipoaaGreatDoor
/- The document's years: of two digits, of some seconds. -/
namespace Go.Proofs.YtodibjpojfipoaaGreatDoor
open Go.RowKit
set_option linter.unusedVariables false
set_option linter.unusedSimpArgs false
set_option maxRecDepth 10000

set_option maxHeartbeats 2000000 in
theorem ryear_at (d Y : Int) (d0 : 0 ≤ d) (d1 : d < 100) (y0 : 1970 ≤ Y) (y1 : Y ≤ 8970) (w : World) :
    Calls Tryz.prog 53 #[.int .i64 d, .int .i64 Y] w fun e w' => e = .returned (.int .i64 (fyI Y d)) ∧ w' = w := by
  have hf := fyI_is Y d d0 d1
  have hb := fyI_bd Y d ⟨y0, y1⟩ d0 d1
  obtain ⟨F, hF⟩ : ∃ F, fyI Y d = F := ⟨_, rfl⟩
  rw [hF] at hf hb ⊢
  obtain ⟨f1, f2, f3⟩ := hf
  obtain ⟨f4, f5⟩ := hb
  clear hF
  go_enter Tryz.func53, Tryz.ntmps53
  go_wp2
  go_loop [5] (fun v => ∃ y : Int, v = .int .i64 y ∧ F ≤ y ∧ y ≤ 9999) (fun v => (intOf v - F).toNat)
  case atStart => exact ⟨9999, rfl, by omega, by omega⟩
  case round =>
    obtain ⟨y, rfl, g1, g2⟩ := hrel
    obtain ⟨r, hr⟩ : ∃ r, y.tmod 100 = r := ⟨_, rfl⟩
    have hr2 : y % 100 = r := by rw [← hr, Int.tmod_eq_emod_of_nonneg (by omega)]
    have yb : Hid (y = F ∨ (Y + 50 < y ∨ r ≠ d)) := Lib.hid (by omega)
    by_cases h1 : Y + 50 < y
    · have e1 : decide (Y + 50 < y) = true := decide_eq_true h1
      clear hr2
      go_wp2
      go_round
      case rel => exact ⟨y - 1, rfl, by omega, by omega⟩
      case measure => simp [intOf]; omega
    · have e1 : decide (Y + 50 < y) = false := decide_eq_false h1
      by_cases h2 : r = d
      · have e2 : (r != d) = false := by simp [h2]
        have HE : Hid (y = F) := Lib.hid (by have := yb.out; omega)
        clear hr2
        go_wp2
        go_ret
        exact ⟨by rw [HE.out]; rfl, rfl⟩
      · have e2 : (r != d) = true := bne_iff_ne.2 h2
        have hne : Hid (F < y) := Lib.hid (by
          by_cases hh : F = y
          · exact absurd (by omega) h2
          · omega)
        clear hr2
        go_wp2
        go_round
        case rel => exact ⟨y - 1, rfl, by have := hne.out; omega, by omega⟩
        case measure => have := hne.out; simp [intOf]; omega
set_option maxHeartbeats 2000000 in
theorem rat_at (sec Y : Int) (h : YearIs (sec / 86400) Y) (s0 : 0 ≤ sec) (s1 : sec ≤ 220752000000) (w : World) :
    Calls Tryz.prog 54 #[.int .i64 sec] w fun e w' => e = .returned (.int .i64 Y) ∧ w' = w := by
  have hy := h.bd (by omega) (by omega)
  obtain ⟨n, hn⟩ : ∃ n, sec / 86400 = n := ⟨_, rfl⟩
  have hn2 : sec.tdiv 86400 = n := by rw [Int.tdiv_eq_ediv_of_nonneg s0, hn]
  have n0 : 0 ≤ n := by omega
  have n1 : n ≤ 2555000 := by omega
  rw [hn] at h
  obtain ⟨m, dd, hv, hnum⟩ := h
  have hin := num_in Y m dd hv
  rw [hnum] at hin
  have HIN := Lib.hid hin
  obtain ⟨y0, y1⟩ := hy
  have B70 := Lib.hid bef_1970
  clear hv hnum hin
  go_enter Tryz.func54, Tryz.ntmps54
  go_wp2
  go_loop [3, 4] (fun a b => ∃ y l : Int, a = .int .i64 y ∧ b = .int .i64 l ∧ 1970 ≤ y ∧ y ≤ Y ∧ 0 ≤ l ∧ l ≤ 2555000 ∧ Hid (l = n - (bef y - 719528))) (fun a _ => (Y - intOf a).toNat)
  case atStart => exact ⟨1970, n, rfl, rfl, by omega, y0, n0, n1, Lib.hid (by rw [B70.out]; omega)⟩
  case round =>
    obtain ⟨y, l, rfl, rfl, g1, g2, g3, g4, HL⟩ := hrel
    obtain ⟨b, hb⟩ : ∃ b, leapB y = b := ⟨_, rfl⟩
    have LP := Lib.hid (fun W : World => rleap_as y b hb W)
    have hs := bef_succ y
    have hcmp : Hid ((l < 365 + lp y → y = Y) ∧ (¬ l < 365 + lp y → y + 1 ≤ Y ∧ l - (365 + lp y) = n - (bef (y + 1) - 719528))) := Lib.hid (by
      have h1 := HL.out
      have h2 := HIN.out
      constructor
      · intro h3
        by_cases h4 : y = Y
        · exact h4
        · have := bef_mono (y + 1) Y (by omega) (by omega)
          omega
      · intro h3
        refine ⟨?_, by omega⟩
        by_cases h4 : y = Y
        · subst h4; omega
        · omega)
    clear hs
    cases b with
    | true =>
      rw [lp_yes hb] at hcmp
      clear hb
      by_cases hl : l < 366
      · have d1 : decide (l < 366) = true := decide_eq_true hl
        have HE : Hid (y = Y) := Lib.hid (hcmp.out.1 (by omega))
        go_wp2_with (refine (LP.out _).mono ?_; rintro e w' ⟨rfl, rfl⟩)
        go_ret
        exact ⟨by rw [HE.out]; rfl, rfl⟩
      · have d1 : decide (l < 366) = false := decide_eq_false hl
        have HE := Lib.hid (hcmp.out.2 (by omega))
        go_wp2_with (refine (LP.out _).mono ?_; rintro e w' ⟨rfl, rfl⟩)
        go_round
        case rel => exact ⟨y + 1, l - 366, rfl, rfl, by omega, HE.out.1, by omega, by omega, Lib.hid (by have := HE.out.2; omega)⟩
        case measure => have := HE.out.1; simp [intOf]; omega
    | false =>
      rw [lp_no hb] at hcmp
      clear hb
      by_cases hl : l < 365
      · have d1 : decide (l < 365) = true := decide_eq_true hl
        have HE : Hid (y = Y) := Lib.hid (hcmp.out.1 (by omega))
        go_wp2_with (refine (LP.out _).mono ?_; rintro e w' ⟨rfl, rfl⟩)
        go_ret
        exact ⟨by rw [HE.out]; rfl, rfl⟩
      · have d1 : decide (l < 365) = false := decide_eq_false hl
        have HE := Lib.hid (hcmp.out.2 (by omega))
        go_wp2_with (refine (LP.out _).mono ?_; rintro e w' ⟨rfl, rfl⟩)
        go_round
        case rel => exact ⟨y + 1, l - 365, rfl, rfl, by omega, HE.out.1, by omega, by omega, Lib.hid (by have := HE.out.2; omega)⟩
        case measure => have := HE.out.1; simp [intOf]; omega
end Go.Proofs.YtodibjpojfipoaaGreatDoor
/- The document's parts of a text, and numbers in it. -/
namespace Go.Proofs.YtodibjpojfipoaaGreatDoor
open Go.RowKit
set_option linter.unusedVariables false
set_option linter.unusedSimpArgs false
set_option maxRecDepth 10000

/-- A part of a text, as far as there is any. -/
def cutB (s : ByteArray) (a b : Nat) : ByteArray := if s.size < a then ⟨#[]⟩ else if s.size < b then s.extract a s.size else s.extract a b
set_option maxHeartbeats 1000000 in
theorem rcut_at (s t : ByteArray) (a b : Nat) (hab : a ≤ b) (ht : cutB s a b = t) (w : World) :
    Calls Tryz.prog 48 #[.string s, .int .i64 (a : Int), .int .i64 (b : Int)] w fun e w' => e = .returned (.string t) ∧ w' = w := by
  have n0 : ¬ (a : Int) < 0 := by omega
  have d0 : decide ((a : Int) < 0) = false := decide_eq_false n0
  by_cases h1 : s.size < a
  · have e1 : decide ((s.size : Int) < (a : Int)) = true := decide_eq_true (by omega)
    have e2 : decide (s.size < a) = true := decide_eq_true h1
    have HT : Hid ((⟨#[]⟩ : ByteArray) = t) := Lib.hid (by rw [← ht]; unfold cutB; rw [if_pos h1])
    clear ht
    go_enter Tryz.func48, Tryz.ntmps48
    go_wp2
    go_ret
    rw [← HT.out]
    exact ⟨rfl, rfl⟩
  · have e1 : decide ((s.size : Int) < (a : Int)) = false := decide_eq_false (by omega)
    have e2 : decide (s.size < a) = false := decide_eq_false h1
    have l1 : (a : Int) ≤ (s.size : Int) := by omega
    have l2 : a ≤ s.size := by omega
    by_cases h2 : s.size < b
    · have e3 : decide ((s.size : Int) < (b : Int)) = true := decide_eq_true (by omega)
      have e4 : decide (s.size < b) = true := decide_eq_true h2
      have HT : Hid (s.extract a s.size = t) := Lib.hid (by rw [← ht]; unfold cutB; rw [if_neg h1, if_pos h2])
      clear ht
      go_enter Tryz.func48, Tryz.ntmps48
      go_wp2
      go_ret
      rw [← HT.out]
      exact ⟨rfl, rfl⟩
    · have e3 : decide ((s.size : Int) < (b : Int)) = false := decide_eq_false (by omega)
      have e4 : decide (s.size < b) = false := decide_eq_false h2
      have l3 : (b : Int) ≤ (s.size : Int) := by omega
      have l4 : b ≤ s.size := by omega
      have l5 : (a : Int) ≤ (b : Int) := by omega
      have HT : Hid (s.extract a b = t) := Lib.hid (by rw [← ht]; unfold cutB; rw [if_neg h1, if_neg h2])
      clear ht
      go_enter Tryz.func48, Tryz.ntmps48
      go_wp2
      go_ret
      rw [← HT.out]
      exact ⟨rfl, rfl⟩
theorem btD_ne {s : ByteArray} {k : Nat} (h : k < s.size) : btL s ≠ [] := by
  intro hn
  have := btL_length s
  rw [hn, List.length_nil] at this
  omega
/-- What the document takes a text for, as a number. -/
def rnumI (l : List Int) : Int := if l = [] then -1 else (digS 0 l).getD (-1)
set_option maxHeartbeats 2000000 in
theorem rnum_at (s : ByteArray) (v : Int) (hv : rnumI (btL s) = v) (hs : s.size ≤ 9) (w : World) :
    Calls Tryz.prog 47 #[.string s] w fun e w' => e = .returned (.int .i64 v) ∧ w' = w := by
  have HV := Lib.hid hv
  clear hv
  go_enter Tryz.func47, Tryz.ntmps47
  go_wp2
  go_loop [3, 4] (fun n i => ∃ (k : Nat) (u : Int), k ≤ s.size ∧ n = .int .i64 u ∧ i = .int .i64 (k : Int) ∧ 0 ≤ u ∧ u < 1000000000 ∧ Hid (u < 10 ^ k) ∧ Hid (digS 0 (btL s) = digS u ((btL s).drop k))) (fun _ i => s.size - (intOf i).toNat)
  case atStart => exact ⟨0, 0, by omega, rfl, rfl, by omega, by omega, Lib.hid (by decide), Lib.hid (by rw [List.drop_zero])⟩
  case round =>
    obtain ⟨k, u, k1, rfl, rfl, u0, u1, HU, HD⟩ := hrel
    by_cases hlt : k < s.size
    · have e1 : decide ((k : Int) < (s.size : Int)) = true := decide_eq_true (by omega)
      have e2 : decide (k < s.size) = true := decide_eq_true hlt
      obtain ⟨c, hc⟩ : ∃ c : Int, (s[k].toNat : Int) = c := ⟨_, rfl⟩
      have HDc : Hid (digS 0 (btL s) = digS u (c :: (btL s).drop (k + 1))) := Lib.hid (by rw [HD.out, btD_cons s k hlt, hc])
      have c0 : 0 ≤ c := by omega
      have c1 : c ≤ 255 := by have := s[k].toNat_lt; omega
      have hk0 : (0 : Int) ≤ (k : Int) := by omega
      have hp := pow_mono (k + 1) 9 (by omega)
      have hp9 : (10 : Int) ^ 9 = 1000000000 := by decide
      by_cases h1 : c < 48
      · have d1 : decide (c < 48) = true := decide_eq_true h1
        have HE : Hid ((-1 : Int) = v) := Lib.hid (by
          rw [← HV.out]
          unfold rnumI
          rw [if_neg (btD_ne hlt), HDc.out, digS_no (by omega)]
          rfl)
        clear hp hp9
        go_wp2
        go_ret
        rw [← HE.out]
        exact ⟨rfl, rfl⟩
      · have d1 : decide (c < 48) = false := decide_eq_false h1
        by_cases h2 : 57 < c
        · have d2 : decide (57 < c) = true := decide_eq_true h2
          have HE : Hid ((-1 : Int) = v) := Lib.hid (by
            rw [← HV.out]
            unfold rnumI
            rw [if_neg (btD_ne hlt), HDc.out, digS_no (by omega)]
            rfl)
          clear hp hp9
          go_wp2
          go_ret
          rw [← HE.out]
          exact ⟨rfl, rfl⟩
        · have d2 : decide (57 < c) = false := decide_eq_false h2
          have e4 : IntKind.u8.wrap (c - 48) = c - 48 := by rw [IntKind.wrap_u8]; omega
          have HP : Hid (10 * u + (c - 48) < 10 ^ (k + 1)) := Lib.hid (pow_step k u c HU.out (by omega))
          have HB : Hid (10 * u + (c - 48) < 1000000000) := Lib.hid (by have := HP.out; omega)
          have HE : Hid (digS 0 (btL s) = digS (10 * u + (c - 48)) ((btL s).drop (k + 1))) := Lib.hid (by rw [HDc.out, digS_yes (by omega)])
          clear hp hp9
          go_wp2
          go_round
          case rel => exact ⟨k + 1, 10 * u + (c - 48), by omega, rfl, by simp, by omega, HB.out, HP, HE⟩
          case measure => simp [intOf]; omega
    · have e1 : decide ((k : Int) < (s.size : Int)) = false := decide_eq_false (by omega)
      have e2 : decide (k < s.size) = false := decide_eq_false hlt
      have HDD : Hid (digS 0 (btL s) = some u) := Lib.hid (by
        rw [HD.out, List.drop_eq_nil_of_le (by simp; omega)]
        rfl)
      cases hz : s.toList.isEmpty with
      | true =>
        have HE : Hid ((-1 : Int) = v) := Lib.hid (by
          rw [← HV.out]
          unfold rnumI
          rw [if_pos (by rw [Lib.toList_data, List.isEmpty_iff] at hz; unfold btL; rw [hz]; rfl)])
        go_wp2
        go_ret
        rw [← HE.out]
        exact ⟨rfl, rfl⟩
      | false =>
        have HE : Hid (u = v) := Lib.hid (by
          rw [← HV.out]
          unfold rnumI
          rw [if_neg (by
            intro hn
            unfold btL at hn
            rw [List.map_eq_nil_iff] at hn
            rw [Lib.toList_data, hn] at hz
            cases hz), HDD.out]
          rfl)
        go_wp2
        go_ret
        rw [← HE.out]
        exact ⟨rfl, rfl⟩
end Go.Proofs.YtodibjpojfipoaaGreatDoor
/- The document's months of a name. -/
namespace Go.Proofs.YtodibjpojfipoaaGreatDoor
open Go.RowKit
set_option linter.unusedVariables false
set_option linter.unusedSimpArgs false
set_option maxRecDepth 10000

theorem monN_inj : ∀ i : Fin 12, ∀ j : Fin 12, monN.getD i.val [] = monN.getD j.val [] → i = j := by decide
theorem byt_eq {x s : ByteArray} : (x.toList == s.toList) = true ↔ btL x = btL s := by
  rw [beq_iff_eq, Lib.toList_data, Lib.toList_data]
  constructor
  · intro h
    unfold btL
    rw [h]
  · intro h
    have := btL_inj h
    rw [this]
def MonP (s : ByteArray) (w : World) (e : Ending) (w' : World) : Prop := ∃ v : Int, e = .returned (.int .i64 v) ∧ 0 ≤ v ∧ v ≤ 12 ∧ Below w.heap.size w w' ∧ (∀ k : Nat, k < 12 → btL s = monN.getD k [] → v = (k : Int) + 1)
set_option maxHeartbeats 2000000 in
theorem rmonth_at (s : ByteArray) (w : World) : Calls Tryz.prog 49 #[.string s] w (MonP s w) := by
  go_enter Tryz.func49, Tryz.ntmps49
  go_wp2_with fail
  refine (rmonths_at _).mono ?_
  rintro e w1 ⟨b, rfl, X, B⟩
  rw [show monR.size = 13 from rfl]
  have X := Lib.hid X
  have B := Lib.hid B
  go_wp2
  go_loop [4] (fun i => ∃ k : Nat, 1 ≤ k ∧ k ≤ 13 ∧ i = .int .i64 (k : Int) ∧ Hid (∀ j : Nat, j + 1 < k → btL s ≠ monN.getD j [])) (fun i => 13 - (intOf i).toNat)
  case atStart => exact ⟨1, by omega, by omega, rfl, Lib.hid (fun j hj => by omega)⟩
  case round =>
    obtain ⟨k, k0, k1, rfl, HN⟩ := hrel
    by_cases hlt : k < 13
    · have e1 : decide ((k : Int) ≤ 12) = true := decide_eq_true (by omega)
      have e2 : decide (k ≤ 12) = true := decide_eq_true (by omega)
      obtain ⟨x, g1, g2, g3⟩ := monR_get k k0 hlt
      have cx : w1.cell? ⟨b, k, none⟩ = some (.string x) := by rw [X.out.cell, g1]
      have HG := Lib.hid g2
      have kk0 : (0 : Int) ≤ (k : Int) := by omega
      have kk1 : (k : Int) < 13 := by omega
      obtain ⟨z, hz⟩ : ∃ z, (x.toList == s.toList) = z := ⟨_, rfl⟩
      have HZ := Lib.hid hz
      clear g1 g2 g3
      cases z with
      | true =>
        go_wp2
        go_ret
        refine ⟨(k : Int), rfl, by omega, by omega, B.out, fun j hj he => ?_⟩
        have h1 := byt_eq.1 HZ.out
        rw [he, ← HG.out] at h1
        have := monN_inj ⟨k - 1, by omega⟩ ⟨j, hj⟩ h1
        injection this with this
        omega
      | false =>
        have HN2 : Hid (∀ j : Nat, j + 1 < k + 1 → btL s ≠ monN.getD j []) := Lib.hid (fun j hj he => by
          by_cases hjk : j + 1 < k
          · exact HN.out j hjk he
          · have hj1 : j = k - 1 := by omega
            subst hj1
            have h1 : btL x = btL s := by rw [he, ← HG.out]
            have := byt_eq.2 h1
            rw [HZ.out] at this
            cases this)
        go_wp2
        go_round
        case rel => exact ⟨k + 1, by omega, by omega, by simp, HN2⟩
        case measure => simp [intOf]; omega
    · have e1 : decide ((k : Int) ≤ 12) = false := decide_eq_false (by omega)
      have e2 : decide (k ≤ 12) = false := decide_eq_false (by omega)
      go_wp2
      go_ret
      exact ⟨0, rfl, by omega, by omega, B.out, fun j hj he => absurd he (HN.out j (by omega))⟩
end Go.Proofs.YtodibjpojfipoaaGreatDoor
/- The document's clock of a text. -/
namespace Go.Proofs.YtodibjpojfipoaaGreatDoor
open Go.RowKit
set_option linter.unusedVariables false
set_option linter.unusedSimpArgs false
set_option maxRecDepth 10000

theorem cutB_size (s : ByteArray) (a b : Nat) : (cutB s a b).size ≤ b - a := by
  unfold cutB
  split
  · exact Nat.zero_le _
  · split
    · simp; omega
    · simp; omega
set_option maxHeartbeats 4000000 in
theorem rclocked_at (y mo d h mi s vh vm vs : Int) (x : ByteArray) (h1 : rnumI (btL (cutB x 0 2)) = vh) (h2 : rnumI (btL (cutB x 3 5)) = vm) (h3 : rnumI (btL (cutB x 6 8)) = vs) (w : World) :
    Calls Tryz.prog 46 #[.agg #[.int .i64 y, .int .i64 mo, .int .i64 d, .int .i64 h, .int .i64 mi, .int .i64 s], .string x] w fun e w' => e = .returned (.agg #[.int .i64 y, .int .i64 mo, .int .i64 d, .int .i64 vh, .int .i64 vm, .int .i64 vs]) ∧ Below w.heap.size w w' := by
  obtain ⟨x1, hx1⟩ : ∃ c, cutB x 0 2 = c := ⟨_, rfl⟩
  obtain ⟨x2, hx2⟩ : ∃ c, cutB x 3 5 = c := ⟨_, rfl⟩
  obtain ⟨x3, hx3⟩ : ∃ c, cutB x 6 8 = c := ⟨_, rfl⟩
  have z1 := cutB_size x 0 2
  have z2 := cutB_size x 3 5
  have z3 := cutB_size x 6 8
  rw [hx1] at h1 z1
  rw [hx2] at h2 z2
  rw [hx3] at h3 z3
  have C1 := Lib.hid (fun W => rcut_at x x1 0 2 (by decide) hx1 W)
  have C2 := Lib.hid (fun W => rcut_at x x2 3 5 (by decide) hx2 W)
  have C3 := Lib.hid (fun W => rcut_at x x3 6 8 (by decide) hx3 W)
  have N1 := Lib.hid (fun W => rnum_at x1 vh h1 (by omega) W)
  have N2 := Lib.hid (fun W => rnum_at x2 vm h2 (by omega) W)
  have N3 := Lib.hid (fun W => rnum_at x3 vs h3 (by omega) W)
  clear hx1 hx2 hx3 z1 z2 z3 h1 h2 h3
  obtain ⟨g, hg⟩ : ∃ g, w.heap.size = g := ⟨_, rfl⟩
  go_enter Tryz.func46, Tryz.ntmps46
  go_wp2_with fail
  refine calls_forget (fun wx => Hid (Box wx g #[.int .i64 y, .int .i64 mo, .int .i64 d, .int .i64 h, .int .i64 mi, .int .i64 s] 60) ∧ Hid (Box wx (g + 1) #[.int .i64 0, .int .i64 0, .int .i64 0, .int .i64 0, .int .i64 0, .int .i64 0] 60) ∧ Hid (Below w.heap.size w wx)) ⟨Lib.hid ((dBox_new hg.symm).alloc _), Lib.hid (dBox_new (by simp; omega)), Lib.hid (((Below.refl _ _).alloc (Nat.le_refl _) _).alloc (by simp) _)⟩ ?_
  rintro w1 ⟨X1, Y1, B1⟩
  have HG : Hid (w.heap.size ≤ g) := Lib.hid (by omega)
  clear hg
  refine (C1.out _).mono ?_
  rintro e wx ⟨rfl, hw⟩
  subst wx
  go_wp2_with fail
  refine (N1.out _).mono ?_
  rintro e wx ⟨rfl, hw⟩
  subst wx
  go_wp2_with fail
  refine (C2.out _).mono ?_
  rintro e wx ⟨rfl, hw⟩
  subst wx
  go_wp2_with fail
  refine (N2.out _).mono ?_
  rintro e wx ⟨rfl, hw⟩
  subst wx
  go_wp2_with fail
  refine (C3.out _).mono ?_
  rintro e wx ⟨rfl, hw⟩
  subst wx
  go_wp2_with fail
  refine (N3.out _).mono ?_
  rintro e wx ⟨rfl, hw⟩
  subst wx
  have c := X1.out.cell
  have z := Y1.out.cell
  have c0 := c 0
  have z0 := z 0
  have e0 := X1.out.free 0
  have f0 := Y1.out.free 0
  have c1 := c 1
  have z1 := z 1
  have e1 := X1.out.free 1
  have f1 := Y1.out.free 1
  have c2 := c 2
  have z2 := z 2
  have e2 := X1.out.free 2
  have f2 := Y1.out.free 2
  have c3 := c 3
  have z3 := z 3
  have e3 := X1.out.free 3
  have f3 := Y1.out.free 3
  have c4 := c 4
  have z4 := z 4
  have e4 := X1.out.free 4
  have f4 := Y1.out.free 4
  have c5 := c 5
  have z5 := z 5
  have e5 := X1.out.free 5
  have f5 := Y1.out.free 5
  have gl := X1.out.lt
  have gl2 := Y1.out.lt
  simp only [List.getElem?_toArray, List.getElem?_cons_zero, List.getElem?_cons_succ] at c0 c1 c2 c3 c4 c5 z0 z1 z2 z3 z4 z5
  clear c z
  go_wp2
  exact bodyPost_ret (v := .agg #[.int .i64 y, .int .i64 mo, .int .i64 d, .int .i64 vh, .int .i64 vm, .int .i64 vs]) (by simp [results, Tryz.results46, go_sem, c0, c1, c2, c3, c4, c5, e0, e1, e2, e3, e4, e5, z0, z1, z2, z3, z4, z5, f0, f1, f2, f3, f4, f5, gl, gl2]) rfl ⟨rfl, (((((((((B1.out.setCell (p := ⟨g, 3, none⟩) HG.out _).setCell (p := ⟨g, 4, none⟩) HG.out _).setCell (p := ⟨g, 5, none⟩) HG.out _).setCell (p := ⟨g + 1, 0, none⟩) (Nat.le_succ_of_le HG.out) _).setCell (p := ⟨g + 1, 1, none⟩) (Nat.le_succ_of_le HG.out) _).setCell (p := ⟨g + 1, 2, none⟩) (Nat.le_succ_of_le HG.out) _).setCell (p := ⟨g + 1, 3, none⟩) (Nat.le_succ_of_le HG.out) _).setCell (p := ⟨g + 1, 4, none⟩) (Nat.le_succ_of_le HG.out) _).setCell (p := ⟨g + 1, 5, none⟩) (Nat.le_succ_of_le HG.out) _)⟩
end Go.Proofs.YtodibjpojfipoaaGreatDoor
/- The parts of a second text, as the document takes them. No program here. -/
namespace Go.Proofs.YtodibjpojfipoaaGreatDoor
open Go.RowKit
set_option linter.unusedVariables false
set_option linter.unusedSimpArgs false
set_option maxRecDepth 10000

theorem btL_cutB (s : ByteArray) (a b : Nat) (h : a ≤ b) : btL (cutB s a b) = ((btL s).drop a).take (b - a) := by
  have hl := btL_length s
  unfold cutB
  split
  · rw [List.drop_eq_nil_of_le (by omega)]
    simp
    rfl
  · split
    · rw [btD_extract, List.take_of_length_le (by rw [List.length_drop]; omega), List.take_of_length_le (by rw [List.length_drop]; omega)]
    · rw [btD_extract]
theorem mid_cut {s : ByteArray} {l1 mid rest : List Int} (h : btL s = l1 ++ (mid ++ rest)) (a b : Nat) (ha : l1.length = a) (hb : a + mid.length = b) : btL (cutB s a b) = mid := by
  rw [btL_cutB s a b (by omega), h, List.drop_left' ha, List.take_left' (by omega)]
theorem rnumI_pad (v : Int) (h0 : 0 ≤ v) (h1 : v < 100) : rnumI (padN 2 v.toNat) = v := by
  unfold rnumI
  rw [if_neg (by rw [pad2_is]; simp), digS_pad 2 v.toNat (by show v.toNat < 100; omega)]
  show ((v.toNat : Nat) : Int) = v
  omega
/-- A second text behind the name of its day. -/
def tailL (m : Mo) : List Int := [44, 32] ++ padN 2 m.d.toNat ++ [45] ++ monN.getD (m.mo - 1).toNat [] ++ [45] ++ padN 2 (m.y % 100).toNat ++ [32] ++ clkL m ++ [32, 71, 77, 84]
theorem second_tail (m : Mo) : secondL m = dayN.getD m.wd.toNat [] ++ tailL m := by
  unfold secondL tailL
  simp only [List.append_assoc]
theorem tail_cut {m : Mo} (hm : MoOk m) {x : ByteArray} (hx : btL x = secondL m) (k : Nat) (hk : k = (dayN.getD m.wd.toNat []).length) : btL (cutB x k x.size) = tailL m := by
  have hl := btL_length x
  rw [hx, second_tail, List.length_append] at hl
  exact mid_cut (rest := []) (by rw [hx, second_tail, List.append_nil]) k x.size hk.symm (by omega)
theorem tail_parts {m : Mo} (hm : MoOk m) {t : ByteArray} (ht : btL t = tailL m) :
    btL (cutB t 9 11) = padN 2 (m.y % 100).toNat ∧ btL (cutB t 5 8) = monN.getD (m.mo - 1).toNat [] ∧ btL (cutB t 2 4) = padN 2 m.d.toNat ∧ btL (cutB t 12 20) = clkL m := by
  have lm := (monN_len m.mo hm.mo.1 hm.mo.2).1
  unfold tailL at ht
  refine ⟨?_, ?_, ?_, ?_⟩
  · exact mid_cut (l1 := [44, 32] ++ padN 2 m.d.toNat ++ [45] ++ monN.getD (m.mo - 1).toNat [] ++ [45]) (rest := [32] ++ clkL m ++ [32, 71, 77, 84]) (by rw [ht]; simp only [List.append_assoc]) 9 11 (by simp only [List.length_append, padN_len, lm, List.length_cons, List.length_nil]) (by rw [padN_len])
  · exact mid_cut (l1 := [44, 32] ++ padN 2 m.d.toNat ++ [45]) (rest := [45] ++ padN 2 (m.y % 100).toNat ++ [32] ++ clkL m ++ [32, 71, 77, 84]) (by rw [ht]; simp only [List.append_assoc]) 5 8 (by simp only [List.length_append, padN_len, List.length_cons, List.length_nil]) (by rw [lm])
  · exact mid_cut (l1 := [44, 32]) (rest := [45] ++ monN.getD (m.mo - 1).toNat [] ++ [45] ++ padN 2 (m.y % 100).toNat ++ [32] ++ clkL m ++ [32, 71, 77, 84]) (by rw [ht]; simp only [List.append_assoc]) 2 4 rfl (by rw [padN_len])
  · exact mid_cut (l1 := [44, 32] ++ padN 2 m.d.toNat ++ [45] ++ monN.getD (m.mo - 1).toNat [] ++ [45] ++ padN 2 (m.y % 100).toNat ++ [32]) (rest := [32, 71, 77, 84]) (by rw [ht]; simp only [List.append_assoc]) 12 20 (by simp only [List.length_append, padN_len, lm, List.length_cons, List.length_nil]) (by unfold clkL; simp only [List.length_append, padN_len, List.length_cons, List.length_nil])
theorem clk_parts {m : Mo} (hm : ClkOk m) {c : ByteArray} (hc : btL c = clkL m) : rnumI (btL (cutB c 0 2)) = m.h ∧ rnumI (btL (cutB c 3 5)) = m.mi ∧ rnumI (btL (cutB c 6 8)) = m.s := by
  have b1 := hm.h
  have b2 := hm.mi
  have b3 := hm.s
  unfold clkL at hc
  refine ⟨?_, ?_, ?_⟩
  · rw [mid_cut (s := c) (l1 := []) (mid := padN 2 m.h.toNat) (rest := [58] ++ padN 2 m.mi.toNat ++ [58] ++ padN 2 m.s.toNat) (by rw [hc]; simp only [List.append_assoc, List.nil_append]) 0 2 rfl (by rw [padN_len])]
    exact rnumI_pad _ (by omega) (by omega)
  · rw [mid_cut (s := c) (l1 := padN 2 m.h.toNat ++ [58]) (mid := padN 2 m.mi.toNat) (rest := [58] ++ padN 2 m.s.toNat) (by rw [hc]; simp only [List.append_assoc]) 3 5 (by simp only [List.length_append, padN_len, List.length_cons, List.length_nil]) (by rw [padN_len])]
    exact rnumI_pad _ (by omega) (by omega)
  · rw [mid_cut (s := c) (l1 := padN 2 m.h.toNat ++ [58] ++ padN 2 m.mi.toNat ++ [58]) (mid := padN 2 m.s.toNat) (rest := []) (by rw [hc]; simp only [List.append_assoc, List.append_nil]) 6 8 (by simp only [List.length_append, padN_len, List.length_cons, List.length_nil]) (by rw [padN_len])]
    exact rnumI_pad _ (by omega) (by omega)
/-- Where the comma stands. -/
theorem second_comma {m : Mo} (hm : MoOk m) : (∀ j, j < (dayN.getD m.wd.toNat []).length → (secondL m)[j]? ≠ some 44) ∧ (secondL m)[(dayN.getD m.wd.toNat []).length]? = some 44 := by
  have hd := (dayN_len m.wd hm.wd.1 hm.wd.2).2.2.2
  constructor
  · intro j hj e
    rw [second_tail, List.getElem?_append_left hj] at e
    exact hd (List.mem_of_getElem? e)
  · rw [second_tail, List.getElem?_append_right (Nat.le_refl _), Nat.sub_self]
    rfl
end Go.Proofs.YtodibjpojfipoaaGreatDoor
namespace Go.Proofs.YtodibjpojfipoaaGreatDoor
open Go.RowKit
set_option linter.unusedVariables false
set_option linter.unusedSimpArgs false
set_option maxRecDepth 10000

theorem first_other {a1 a2 a3 a4 a5 a6 : Int} {o : Option Int} {x : ByteArray} (ho : rsecI a1 a2 a3 a4 a5 a6 = o) (hx : 30 ≤ x.size) (n : Int) (hn : o = some n) :
    ∃ t : ByteArray, (t.toList == x.toList) = false ∧ ∀ W, Calls Tryz.prog 51 #[.agg #[.int .i64 a1, .int .i64 a2, .int .i64 a3, .int .i64 a4, .int .i64 a5, .int .i64 a6]] W fun e w' => e = .returned (.string t) ∧ Below W.heap.size W w' := by
  rw [hn] at ho
  unfold rsecI at ho
  split at ho
  · rename_i hh
    obtain ⟨hv, k1, k2, k3⟩ := hh
    have hm : MoOk ⟨(num a1 a2 a3 + 3) % 7, a1, a2, a3, a4, a5, a6⟩ := by
      have b := lenI_bd a1 a2
      obtain ⟨h1, h2, h3, h4, h5, h6⟩ := hv
      exact ⟨by dsimp only; omega, by dsimp only; omega, by dsimp only; omega, by dsimp only; omega, ⟨k1, k2, k3⟩⟩
    refine ⟨strL (firstL ⟨(num a1 a2 a3 + 3) % 7, a1, a2, a3, a4, a5, a6⟩), ?_, fun W => rfirst_at _ a1 a2 a3 a4 a5 a6 _ hv hm.clk rfl rfl W⟩
    cases hb : ((strL (firstL ⟨(num a1 a2 a3 + 3) % 7, a1, a2, a3, a4, a5, a6⟩)).toList == x.toList) with
    | false => rfl
    | true =>
      have h1 := congrArg List.length (byt_eq.1 hb)
      rw [btL_strL (first_byts hm), first_len hm, btL_length] at h1
      omega
  · cases ho
theorem third_other {a1 a2 a3 a4 a5 a6 : Int} {o : Option Int} {x : ByteArray} (ho : rsecI a1 a2 a3 a4 a5 a6 = o) (hx : 30 ≤ x.size) (n : Int) (hn : o = some n) :
    ∃ t : ByteArray, (t.toList == x.toList) = false ∧ ∀ W, Calls Tryz.prog 52 #[.agg #[.int .i64 a1, .int .i64 a2, .int .i64 a3, .int .i64 a4, .int .i64 a5, .int .i64 a6]] W fun e w' => e = .returned (.string t) ∧ Below W.heap.size W w' := by
  rw [hn] at ho
  unfold rsecI at ho
  split at ho
  · rename_i hh
    obtain ⟨hv, k1, k2, k3⟩ := hh
    have hm : MoOk ⟨(num a1 a2 a3 + 3) % 7, a1, a2, a3, a4, a5, a6⟩ := by
      have b := lenI_bd a1 a2
      obtain ⟨h1, h2, h3, h4, h5, h6⟩ := hv
      exact ⟨by dsimp only; omega, by dsimp only; omega, by dsimp only; omega, by dsimp only; omega, ⟨k1, k2, k3⟩⟩
    refine ⟨strL (thirdL ⟨(num a1 a2 a3 + 3) % 7, a1, a2, a3, a4, a5, a6⟩), ?_, fun W => rthird_at _ a1 a2 a3 a4 a5 a6 _ hv hm.clk rfl rfl W⟩
    cases hb : ((strL (thirdL ⟨(num a1 a2 a3 + 3) % 7, a1, a2, a3, a4, a5, a6⟩)).toList == x.toList) with
    | false => rfl
    | true =>
      have h1 := congrArg List.length (byt_eq.1 hb)
      rw [btL_strL (third_byts hm), third_len hm, btL_length] at h1
      omega
  · cases ho
theorem second_back {wd y mo d h mi s F : Int} {o : Option Int} {x : ByteArray} (hm : MoOk ⟨wd, y, mo, d, h, mi, s⟩) (hx : btL x = secondL ⟨wd, y, mo, d, h, mi, s⟩) (f0 : 0 ≤ F) (f1 : F < 10000) (hF : F % 100 = y % 100) (ho : rsecI F mo d h mi s = o) :
    (o = none → secI ⟨wd, F, mo, d, h, mi, s⟩ = none) ∧ (∀ n, o = some n → ∃ (t : ByteArray) (b : Bool), (t.toList == x.toList) = b ∧ secI ⟨wd, F, mo, d, h, mi, s⟩ = (if b = true then some n else none) ∧ ∀ W, Calls Tryz.prog 55 #[.agg #[.int .i64 F, .int .i64 mo, .int .i64 d, .int .i64 h, .int .i64 mi, .int .i64 s]] W fun e w' => e = .returned (.string t) ∧ Below W.heap.size W w') := by
  have hc : ClkIn h mi s := ⟨hm.clk.h, hm.clk.mi, hm.clk.s⟩
  by_cases hv : Valid F mo d
  · have h1 : rsecI F mo d h mi s = some (num F mo d * 86400 + h * 3600 + mi * 60 + s) := by
      unfold rsecI
      rw [if_pos ⟨hv, hc⟩]
    rw [h1] at ho
    subst ho
    constructor
    · intro e
      cases e
    · intro n hn
      injection hn with hn
      obtain ⟨wd', hwd'⟩ : ∃ wd', (num F mo d + 3) % 7 = wd' := ⟨_, rfl⟩
      have hm' : MoOk ⟨wd', F, mo, d, h, mi, s⟩ := ⟨by dsimp only; omega, ⟨f0, f1⟩, hm.mo, hm.d, ⟨hm.clk.h, hm.clk.mi, hm.clk.s⟩⟩
      have hb : btL (strL (secondL ⟨wd', F, mo, d, h, mi, s⟩)) = secondL ⟨wd', F, mo, d, h, mi, s⟩ := btL_strL (second_byts hm')
      refine ⟨strL (secondL ⟨wd', F, mo, d, h, mi, s⟩), _, rfl, ?_, fun W => rsecond_at wd' F mo d h mi s _ hv hm'.clk hwd' rfl W⟩
      unfold secI
      dsimp only
      rw [hwd']
      by_cases he : wd' = wd
      · subst he
        have heq : secondL ⟨wd', F, mo, d, h, mi, s⟩ = secondL ⟨wd', y, mo, d, h, mi, s⟩ := by
          rw [second_tail, second_tail]
          unfold tailL clkL
          dsimp only
          rw [hF]
        rw [if_pos ⟨hv, rfl⟩, if_pos (byt_eq.2 (by rw [hb, heq, hx]))]
        congr 1
        rw [← hn]
        unfold secN
        dsimp only
        omega
      · rw [if_neg (fun hh => he hh.2), if_neg]
        intro hh
        have h2 := byt_eq.1 hh
        rw [hb, hx] at h2
        have h3 := congrArg (dashP (fun v => v)) h2
        rw [dash_second _ _ hm', dash_second _ _ hm] at h3
        injection h3 with h3
        injection h3 with h4
        exact he h4
  · have h1 : rsecI F mo d h mi s = none := by
      unfold rsecI
      rw [if_neg (fun hh => hv hh.1)]
    rw [h1] at ho
    subst ho
    refine ⟨fun _ => ?_, fun n e => by cases e⟩
    unfold secI
    rw [if_neg (fun hh => hv hh.1)]
set_option maxHeartbeats 4000000 in
theorem rparse_second (wd y mo d h mi s : Int) (hm : MoOk ⟨wd, y, mo, d, h, mi, s⟩) (x : ByteArray) (hx : btL x = secondL ⟨wd, y, mo, d, h, mi, s⟩) (now Y : Int) (hY : YearIs (now / 86400) Y) (n0 : 0 ≤ now) (n1 : now ≤ 220752000000) (w : World) :
    Calls Tryz.prog 27 #[.string x, .int .i64 now] w (OptP (secI ⟨wd, fyI Y (y % 100), mo, d, h, mi, s⟩) w) := by
  have g1 : ¬ now < 0 := by omega
  have g2 : ¬ 220752000000 < now := by omega
  have e1 : decide (now < 0) = false := decide_eq_false g1
  have e2 : decide (220752000000 < now) = false := decide_eq_false g2
  have HM := Lib.hid hm
  have HX := Lib.hid hx
  have HY := Lib.hid hY
  obtain ⟨oo, hoo⟩ : ∃ oo, secI ⟨wd, fyI Y (y % 100), mo, d, h, mi, s⟩ = oo := ⟨_, rfl⟩
  rw [hoo]
  have HOO := Lib.hid hoo
  clear hoo
  have hl := btL_length x
  have dl := dayN_len wd hm.wd.1 hm.wd.2
  rw [hx, second_len hm] at hl
  have xz : 30 ≤ x.size := by dsimp only at hl; omega
  have xz2 : x.size ≤ 33 := by dsimp only at hl; omega
  have XZ := Lib.hid xz
  have XZ2 := Lib.hid xz2
  clear hl dl hx hY hm g1 g2
  go_enter Tryz.func27, Tryz.ntmps27
  go_wp2_with fail
  refine (rcut_at x _ 12 16 (by decide) rfl _).mono ?_
  rintro e wx ⟨rfl, hw⟩
  subst wx
  have zc1 := cutB_size x 12 16
  generalize cutB x 12 16 = c1 at zc1 ⊢
  go_wp2_with fail
  refine (rnum_at c1 _ rfl (by omega) _).mono ?_
  rintro e wx ⟨rfl, hw⟩
  subst wx
  generalize rnumI (btL c1) = a1
  go_wp2_with fail
  refine (rcut_at x _ 8 11 (by decide) rfl _).mono ?_
  rintro e wx ⟨rfl, hw⟩
  subst wx
  have zc2 := cutB_size x 8 11
  generalize cutB x 8 11 = c2 at zc2 ⊢
  go_wp2_with fail
  refine (rmonth_at c2 _).mono ?_
  rintro e w1 ⟨a2, rfl, m0, m1, B1, _⟩
  have B1 := Lib.hid B1
  go_wp2_with fail
  refine (rcut_at x _ 5 7 (by decide) rfl _).mono ?_
  rintro e wx ⟨rfl, hw⟩
  subst wx
  have zc3 := cutB_size x 5 7
  generalize cutB x 5 7 = c3 at zc3 ⊢
  go_wp2_with fail
  refine (rnum_at c3 _ rfl (by omega) _).mono ?_
  rintro e wx ⟨rfl, hw⟩
  subst wx
  generalize rnumI (btL c3) = a3
  go_wp2_with fail
  refine (rcut_at x _ 17 25 (by decide) rfl _).mono ?_
  rintro e wx ⟨rfl, hw⟩
  subst wx
  have zc4 := cutB_size x 17 25
  generalize cutB x 17 25 = c4 at zc4 ⊢
  go_wp2_with fail
  refine (rclocked_at _ _ _ _ _ _ _ _ _ c4 rfl rfl rfl _).mono ?_
  rintro e w2 ⟨rfl, hb⟩
  have B2 := Lib.hid (B1.out.trans (hb.mono B1.out.size))
  clear hb B1
  generalize rnumI (btL (cutB c4 0 2)) = a4
  generalize rnumI (btL (cutB c4 3 5)) = a5
  generalize rnumI (btL (cutB c4 6 8)) = a6
  obtain ⟨g, hg⟩ : ∃ g, w2.heap.size = g := ⟨_, rfl⟩
  obtain ⟨o1, ho1⟩ : ∃ o, rsecI a1 a2 a3 a4 a5 a6 = o := ⟨_, rfl⟩
  go_wp2_with fail
  refine calls_forget (fun wx => Hid (Box wx g #[.int .i64 a1, .int .i64 a2, .int .i64 a3, .int .i64 a4, .int .i64 a5, .int .i64 a6] 60) ∧ Hid (Below w.heap.size w wx)) ⟨Lib.hid (dBox_new hg.symm), Lib.hid (B2.out.alloc B2.out.size _)⟩ ?_
  clear hg B2 zc1 zc2 zc3 zc4 m0 m1
  rintro w3 ⟨X3, B3⟩
  refine (rsec_at a1 a2 a3 a4 a5 a6 o1 ho1 _).mono ?_
  rintro e w4 ⟨rfl, hb⟩
  have X4 := Lib.hid (X3.out.later hb)
  have B4 := Lib.hid (B3.out.trans (hb.mono B3.out.size))
  have FA : Hid (∀ n, o1 = some n → ∃ t : ByteArray, (t.toList == x.toList) = false ∧ ∀ W, Calls Tryz.prog 51 #[.agg #[.int .i64 a1, .int .i64 a2, .int .i64 a3, .int .i64 a4, .int .i64 a5, .int .i64 a6]] W fun e w' => e = .returned (.string t) ∧ Below W.heap.size W w') := Lib.hid (first_other ho1 xz)
  clear hb X3 B3 ho1
  have c := X4.out.cell
  have c0 := c 0
  have c1 := c 1
  have c2 := c 2
  have c3 := c 3
  have c4 := c 4
  have c5 := c 5
  have gl := X4.out.lt
  simp only [List.getElem?_toArray, List.getElem?_cons_zero, List.getElem?_cons_succ] at c0 c1 c2 c3 c4 c5
  clear c
  go_upto_region 7 with fail
  go_cut [46] (fun v wx => v = .bool false ∧ Hid (Below w.heap.size w wx))
  case first =>
    cases o1 with
    | none =>
      simp only [Option.getD_none, Option.isSome_none]
      go_wp2
      go_meet
      exact ⟨rfl, B4⟩
    | some n =>
      simp only [Option.getD_some, Option.isSome_some]
      obtain ⟨t, ht, FC⟩ := FA.out n rfl
      have FC := Lib.hid FC
      go_wp2_with fail
      refine (FC.out _).mono ?_
      rintro e w5 ⟨rfl, hb⟩
      have B5 := Lib.hid (B4.out.trans (hb.mono B4.out.size))
      clear hb
      go_wp2
      go_meet
      exact ⟨rfl, B5⟩
  case rest =>
    obtain ⟨rfl, B5⟩ := hcut
    clear c0 c1 c2 c3 c4 c5 gl X4 B4 FA
    go_wp2_with fail
    refine (rcut_at x _ 20 24 (by decide) rfl _).mono ?_
    rintro e wx ⟨rfl, hw⟩
    subst wx
    have zp1 := cutB_size x 20 24
    generalize cutB x 20 24 = p1 at zp1 ⊢
    go_wp2_with fail
    refine (rnum_at p1 _ rfl (by omega) _).mono ?_
    rintro e wx ⟨rfl, hw⟩
    subst wx
    generalize rnumI (btL p1) = b1
    go_wp2_with fail
    refine (rcut_at x _ 4 7 (by decide) rfl _).mono ?_
    rintro e wx ⟨rfl, hw⟩
    subst wx
    have zp2 := cutB_size x 4 7
    generalize cutB x 4 7 = p2 at zp2 ⊢
    go_wp2_with fail
    refine (rmonth_at p2 _).mono ?_
    rintro e w6 ⟨b2, rfl, _, _, B6, _⟩
    have B6 := Lib.hid (B5.out.trans (B6.mono B5.out.size))
    go_wp2_with fail
    refine (rcut_at x _ 8 10 (by decide) rfl _).mono ?_
    rintro e wx ⟨rfl, hw⟩
    subst wx
    have zp3 := cutB_size x 8 10
    generalize cutB x 8 10 = p3 at zp3 ⊢
    go_wp2_with fail
    refine (rnum_at p3 _ rfl (by omega) _).mono ?_
    rintro e wx ⟨rfl, hw⟩
    subst wx
    generalize rnumI (btL p3) = b3
    go_wp2_with fail
    refine (rcut_at x _ 11 19 (by decide) rfl _).mono ?_
    rintro e wx ⟨rfl, hw⟩
    subst wx
    have zp4 := cutB_size x 11 19
    generalize cutB x 11 19 = p4 at zp4 ⊢
    go_wp2_with fail
    refine (rclocked_at _ _ _ _ _ _ _ _ _ p4 rfl rfl rfl _).mono ?_
    rintro e w7 ⟨rfl, hb⟩
    have B7 := Lib.hid (B6.out.trans (hb.mono B6.out.size))
    clear hb B5 B6
    generalize rnumI (btL (cutB p4 0 2)) = b4
    generalize rnumI (btL (cutB p4 3 5)) = b5
    generalize rnumI (btL (cutB p4 6 8)) = b6
    obtain ⟨g2, hg2⟩ : ∃ g, w7.heap.size = g := ⟨_, rfl⟩
    have HG2 : Hid (w.heap.size ≤ g2) := Lib.hid (hg2 ▸ B7.out.size)
    go_upto_region 10 with fail
    refine code_forget (fun wx => Hid (Box wx g2 #[.int .i64 b1, .int .i64 b2, .int .i64 b3, .int .i64 b4, .int .i64 b5, .int .i64 b6] 60) ∧ Hid (Below w.heap.size w wx)) ⟨Lib.hid (dBox_new hg2.symm), Lib.hid (B7.out.alloc B7.out.size _)⟩ ?_
    clear hg2 B7
    rintro w8 ⟨X8, B8⟩
    obtain ⟨z8, hz8⟩ : ∃ z : Int, (x[8].toNat : Int) = z := ⟨_, rfl⟩
    have f8 := X8.out.free 2
    have f8c := X8.out.cell 2
    have gl := X8.out.lt
    simp only [List.getElem?_toArray, List.getElem?_cons_zero, List.getElem?_cons_succ] at f8c
    have e8 : decide (8 < x.size) = true := decide_eq_true (by omega)
    have e8' : decide ((8 : Int) < (x.size : Int)) = true := decide_eq_true (by omega)
    go_upto_if 68 with fail
    go_cut [] (fun wx => ∃ bd : Int, Hid (Box wx g2 #[.int .i64 b1, .int .i64 b2, .int .i64 bd, .int .i64 b4, .int .i64 b5, .int .i64 b6] 60) ∧ Hid (Below w.heap.size w wx))
    case first =>
      by_cases h32 : z8 = 32
      · have d1 : (z8 == 32) = true := beq_iff_eq.2 h32
        go_wp2_with fail
        refine (rcut_at x _ 9 10 (by decide) rfl _).mono ?_
        rintro e wx ⟨rfl, hw⟩
        subst wx
        have zq := cutB_size x 9 10
        generalize cutB x 9 10 = q1 at zq ⊢
        go_wp2_with fail
        refine (rnum_at q1 _ rfl (by omega) _).mono ?_
        rintro e wx ⟨rfl, hw⟩
        subst wx
        generalize rnumI (btL q1) = bd
        have X9 := Lib.hid (X8.out.set 2 (.int .i64 bd))
        have B9 := Lib.hid (B8.out.setCell (p := ⟨g2, 2, none⟩) HG2.out (.int .i64 bd))
        go_wp2
        go_meet
        exact ⟨bd, X9, B9⟩
      · have d1 : (z8 == 32) = false := beq_eq_false_iff_ne.2 h32
        go_wp2
        go_meet
        exact ⟨b3, X8, B8⟩
    case rest =>
      obtain ⟨bd, X9, B9⟩ := hcut
      clear f8 f8c gl e8 e8' hz8 X8 B8
      obtain ⟨o2, ho2⟩ : ∃ o, rsecI b1 b2 bd b4 b5 b6 = o := ⟨_, rfl⟩
      have c := X9.out.cell
      have c0 := c 0
      have c1 := c 1
      have c2 := c 2
      have c3 := c 3
      have c4 := c 4
      have c5 := c 5
      have gl := X9.out.lt
      simp only [List.getElem?_toArray, List.getElem?_cons_zero, List.getElem?_cons_succ] at c0 c1 c2 c3 c4 c5
      clear c
      go_wp2_with fail
      refine (rsec_at b1 b2 bd b4 b5 b6 o2 ho2 _).mono ?_
      rintro e w10 ⟨rfl, hb⟩
      have X10 := Lib.hid (X9.out.later hb)
      have B10 := Lib.hid (B9.out.trans (hb.mono B9.out.size))
      have FT : Hid (∀ n, o2 = some n → ∃ t : ByteArray, (t.toList == x.toList) = false ∧ ∀ W, Calls Tryz.prog 52 #[.agg #[.int .i64 b1, .int .i64 b2, .int .i64 bd, .int .i64 b4, .int .i64 b5, .int .i64 b6]] W fun e w' => e = .returned (.string t) ∧ Below W.heap.size W w') := Lib.hid (third_other ho2 XZ.out)
      clear hb X9 B9 ho2 c0 c1 c2 c3 c4 c5 gl
      have c := X10.out.cell
      have c0 := c 0
      have c1 := c 1
      have c2 := c 2
      have c3 := c 3
      have c4 := c 4
      have c5 := c 5
      have gl := X10.out.lt
      simp only [List.getElem?_toArray, List.getElem?_cons_zero, List.getElem?_cons_succ] at c0 c1 c2 c3 c4 c5
      clear c
      go_upto_region 13 with fail
      go_cut [84] (fun v wx => v = .bool false ∧ Hid (Below w.heap.size w wx))
      case first =>
        cases o2 with
        | none =>
          simp only [Option.getD_none, Option.isSome_none]
          go_wp2
          go_meet
          exact ⟨rfl, B10⟩
        | some n =>
          simp only [Option.getD_some, Option.isSome_some]
          obtain ⟨t, ht, FC⟩ := FT.out n rfl
          have FC := Lib.hid FC
          go_wp2_with fail
          refine (FC.out _).mono ?_
          rintro e w5 ⟨rfl, hb⟩
          have B5 := Lib.hid (B10.out.trans (hb.mono B10.out.size))
          clear hb
          go_wp2
          go_meet
          exact ⟨rfl, B5⟩
      case rest =>
        obtain ⟨rfl, B11⟩ := hcut
        clear c0 c1 c2 c3 c4 c5 gl X10 B10 FT
        go_wp2
        obtain ⟨K, hK⟩ : ∃ K : Nat, (dayN.getD wd.toNat []).length = K := ⟨_, rfl⟩
        have hcm := second_comma HM.out
        dsimp only at hcm
        rw [hK, ← HX.out] at hcm
        have K9 : K ≤ 9 := by have := (dayN_len wd HM.out.wd.1 HM.out.wd.2).2.1; omega
        have HCM := Lib.hid hcm
        have HKK := Lib.hid hK
        clear hcm hK
        go_loop [12] (fun i => ∃ k : Nat, i = .int .i64 (k : Int) ∧ k ≤ K) (fun i => K - (intOf i).toNat)
        case atStart => exact ⟨0, rfl, by omega⟩
        case round =>
          obtain ⟨k, rfl, k1⟩ := hrel
          have kx : k < x.size := by omega
          have f1 : decide ((k : Int) < (x.size : Int)) = true := decide_eq_true (by omega)
          have f2 : decide (k < x.size) = true := decide_eq_true kx
          obtain ⟨c, hc⟩ : ∃ c : Int, (x[k].toNat : Int) = c := ⟨_, rfl⟩
          have hck : Hid ((btL x)[k]? = some c) := Lib.hid (by
            have := btD_cons x k kx
            have h2 := congrArg List.head? this
            rw [List.head?_drop] at h2
            rw [h2, hc]
            rfl)
          by_cases hlt : k < K
          · have hne : (c != 44) = true := bne_iff_ne.2 (fun e => HCM.out.1 k hlt (by rw [hck.out, e]))
            go_wp2
            go_round
            case rel => exact ⟨k + 1, by simp, by omega⟩
            case measure => simp [intOf]; omega
          · have hkk : k = K := by omega
            subst hkk
            have hce : c = 44 := by
              have := HCM.out.2
              rw [hck.out] at this
              injection this
            have hne : (c != 44) = false := by simp [hce]
            go_wp2_with fail
            have ht := tail_cut HM.out HX.out k HKK.out.symm
            refine (rcut_at x _ k x.size (by omega) rfl _).mono ?_
            rintro e wx ⟨rfl, hw⟩
            subst wx
            generalize cutB x k x.size = tt at ht ⊢
            obtain ⟨p1, p2, p3, p4⟩ := tail_parts HM.out ht
            dsimp only at p1 p2 p3 p4
            clear ht f1 f2 hc hck hce hne kx
            obtain ⟨u1, hu1⟩ : ∃ u, cutB tt 9 11 = u := ⟨_, rfl⟩
            obtain ⟨u2, hu2⟩ : ∃ u, cutB tt 5 8 = u := ⟨_, rfl⟩
            obtain ⟨u3, hu3⟩ : ∃ u, cutB tt 2 4 = u := ⟨_, rfl⟩
            obtain ⟨u4, hu4⟩ : ∃ u, cutB tt 12 20 = u := ⟨_, rfl⟩
            rw [hu1] at p1
            rw [hu2] at p2
            rw [hu3] at p3
            rw [hu4] at p4
            have C1 := Lib.hid (fun W => rcut_at tt u1 9 11 (by decide) hu1 W)
            have C2 := Lib.hid (fun W => rcut_at tt u2 5 8 (by decide) hu2 W)
            have C3 := Lib.hid (fun W => rcut_at tt u3 2 4 (by decide) hu3 W)
            have C4 := Lib.hid (fun W => rcut_at tt u4 12 20 (by decide) hu4 W)
            have z1 : u1.size = 2 := by have := btL_length u1; rw [p1, padN_len] at this; exact this.symm
            have z3 : u3.size = 2 := by have := btL_length u3; rw [p3, padN_len] at this; exact this.symm
            have hd := HM.out.d
            have hmo := HM.out.mo
            dsimp only at hd hmo
            have q4 := clk_parts HM.out.clk p4
            dsimp only at q4
            obtain ⟨q1, q2, q3⟩ := q4
            have yb := HY.out.bd (by omega) (by omega)
            have N1 := Lib.hid (fun W => rnum_at u1 (y % 100) (by rw [p1]; exact rnumI_pad _ (by omega) (by omega)) (by omega) W)
            have N3 := Lib.hid (fun W => rnum_at u3 d (by rw [p3]; exact rnumI_pad _ (by omega) (by omega)) (by omega) W)
            have K4 := Lib.hid (fun a b c e1 e2 e3 W => rclocked_at a b c e1 e2 e3 h mi s u4 q1 q2 q3 W)
            have YA := Lib.hid (fun W => rat_at now Y HY.out n0 n1 W)
            obtain ⟨yy, hyy⟩ : ∃ yy, y % 100 = yy := ⟨_, rfl⟩
            have yy0 : 0 ≤ yy := by omega
            have yy1 : yy < 100 := by omega
            have hf := fyI_is Y yy yy0 yy1
            have hfb := fyI_bd Y yy yb yy0 yy1
            have YR := Lib.hid (fun W => ryear_at yy Y yy0 yy1 yb.1 yb.2 W)
            obtain ⟨F, hF⟩ : ∃ F, fyI Y yy = F := ⟨_, rfl⟩
            obtain ⟨o3, ho3⟩ : ∃ o, rsecI F mo d h mi s = o := ⟨_, rfl⟩
            rw [hF] at YR hf hfb
            have sb := second_back HM.out HX.out hfb.1 hfb.2 (by rw [hyy]; have := hf.2.2; omega) ho3
            rw [show secI ⟨wd, F, mo, d, h, mi, s⟩ = oo from by rw [← HOO.out, hyy, hF]] at sb
            have SB := Lib.hid sb
            clear sb HOO
            have S3 := Lib.hid (fun W => rsec_at F mo d h mi s o3 ho3 W)
            have P2 : Hid (∀ v, 0 ≤ v → v ≤ 12 → (∀ j : Nat, j < 12 → btL u2 = monN.getD j [] → v = (j : Int) + 1) → v = mo) := Lib.hid (fun v _ _ hj => by
              have := hj (mo - 1).toNat (by omega) p2
              omega)
            rw [hyy] at N1
            have y0 : decide (yy < 0) = false := decide_eq_false (by omega)
            have l1 : (u1.size != 2) = false := by rw [z1]; rfl
            have l1' : (((u1.size : Nat) : Int) != 2) = false := by rw [z1]; rfl
            have ZU : Hid (u1.size = 2) := Lib.hid z1
            clear hu1 hu2 hu3 hu4 p1 p2 p3 p4 q1 q2 q3 hd hmo yb z1 z3 hyy hf hfb hF ho3 e1 e2
            go_wp2_with fail
            refine (C1.out _).mono ?_
            rintro e wx ⟨rfl, hw⟩
            subst wx
            go_wp2_with fail
            refine (N1.out _).mono ?_
            rintro e wx ⟨rfl, hw⟩
            subst wx
            go_wp2_with fail
            refine (C1.out _).mono ?_
            rintro e wx ⟨rfl, hw⟩
            subst wx
            go_wp2_with fail
            refine (YA.out _).mono ?_
            rintro e wx ⟨rfl, hw⟩
            subst wx
            go_wp2_with fail
            refine (YR.out _).mono ?_
            rintro e wx ⟨rfl, hw⟩
            subst wx
            go_wp2_with fail
            refine (C2.out _).mono ?_
            rintro e wx ⟨rfl, hw⟩
            subst wx
            go_wp2_with fail
            refine (rmonth_at u2 _).mono ?_
            rintro e w12 ⟨v, rfl, v0, v1, hb, hj⟩
            have hv := P2.out v v0 v1 hj
            subst hv
            have B12 := Lib.hid (B11.out.trans (hb.mono B11.out.size))
            clear hb hj v0 v1
            go_wp2_with fail
            refine (C3.out _).mono ?_
            rintro e wx ⟨rfl, hw⟩
            subst wx
            go_wp2_with fail
            refine (N3.out _).mono ?_
            rintro e wx ⟨rfl, hw⟩
            subst wx
            go_wp2_with fail
            refine (C4.out _).mono ?_
            rintro e wx ⟨rfl, hw⟩
            subst wx
            go_wp2_with fail
            refine (K4.out _ _ _ _ _ _ _).mono ?_
            rintro e w13 ⟨rfl, hb⟩
            have B13 := Lib.hid (B12.out.trans (hb.mono B12.out.size))
            clear hb
            obtain ⟨g3, hg3⟩ : ∃ g, w13.heap.size = g := ⟨_, rfl⟩
            go_wp2_with fail
            refine calls_forget (fun wx => Hid (Box wx g3 #[.int .i64 F, .int .i64 v, .int .i64 d, .int .i64 h, .int .i64 mi, .int .i64 s] 60) ∧ Hid (Below w.heap.size w wx)) ⟨Lib.hid (dBox_new hg3.symm), Lib.hid (B13.out.alloc B13.out.size _)⟩ ?_
            clear hg3 B13 B12
            rintro w14 ⟨X14, B14⟩
            refine (S3.out _).mono ?_
            rintro e w15 ⟨rfl, hb⟩
            have X15 := Lib.hid (X14.out.later hb)
            have B15 := Lib.hid (B14.out.trans (hb.mono B14.out.size))
            clear hb X14 B14
            have c := X15.out.cell
            have c0 := c 0
            have c1 := c 1
            have c2 := c 2
            have c3 := c 3
            have c4 := c 4
            have c5 := c 5
            have gl := X15.out.lt
            simp only [List.getElem?_toArray, List.getElem?_cons_zero, List.getElem?_cons_succ] at c0 c1 c2 c3 c4 c5
            clear c
            cases o3 with
            | none =>
              have hn := SB.out.1 rfl
              clear SB
              subst hn
              simp only [Option.getD_none, Option.isSome_none]
              go_wp2
              go_ret2
              exact ⟨rfl, B15.out⟩
            | some n =>
              simp only [Option.getD_some, Option.isSome_some]
              obtain ⟨t, b, ht, hs, FC⟩ := SB.out.2 n rfl
              have FC := Lib.hid FC
              clear SB
              cases b with
              | true =>
                replace hs : oo = some n := hs
                subst hs
                go_wp2_with fail
                refine (FC.out _).mono ?_
                rintro e w16 ⟨rfl, hb⟩
                have B16 := Lib.hid (B15.out.trans (hb.mono B15.out.size))
                clear hb
                go_wp2
                go_ret2
                exact ⟨rfl, B16.out⟩
              | false =>
                replace hs : oo = none := hs
                subst hs
                go_wp2_with fail
                refine (FC.out _).mono ?_
                rintro e w16 ⟨rfl, hb⟩
                have B16 := Lib.hid (B15.out.trans (hb.mono B15.out.size))
                clear hb
                go_wp2
                go_ret2
                exact ⟨rfl, B16.out⟩
end Go.Proofs.YtodibjpojfipoaaGreatDoor
