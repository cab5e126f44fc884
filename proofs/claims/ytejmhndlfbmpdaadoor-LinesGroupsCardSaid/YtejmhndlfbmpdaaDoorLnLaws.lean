/- LinesDelays, LinesTexts, LinesParses: the walks. -/
import Derived.Test.YtejmhndlfbmpdaaDoorLnAwk
namespace Go.Proofs.YtejmhndlfbmpdaaDoor
open Go Go.RowKit
set_option linter.unusedVariables false
set_option linter.unusedSimpArgs false
set_option maxRecDepth 10000

theorem grS_len (s : List Gp × Option Gp × Bool) (x : List Int × List Int) : (grS s x).1.length + (grS s x).2.1.toList.length ≤ s.1.length + s.2.1.toList.length + 1 := by
  obtain ⟨d, c, t⟩ := s
  unfold grS
  dsimp only
  split
  · cases c with
    | none => cases t <;> simp
    | some g => cases t <;> simp
  · cases c with
    | none => simp
    | some g =>
      dsimp only
      cases appG g x.1 x.2 <;> simp
theorem grF_len (K : List (List Int × List Int)) : ∀ s, (K.foldl grS s).1.length + (K.foldl grS s).2.1.toList.length ≤ s.1.length + s.2.1.toList.length + K.length := by
  induction K with
  | nil => intro s; simp
  | cons x t ih =>
    intro s
    have h1 := ih (grS s x)
    have h2 := grS_len s x
    rw [List.foldl_cons, List.length_cons]
    omega
theorem grL_len (K : List (List Int × List Int)) : (grL K).length ≤ K.length := by
  unfold grL
  rw [List.length_append]
  have := grF_len K ([], none, true)
  unfold grF
  simpa using this
set_option maxHeartbeats 2000000 in
theorem linesDelays_walk (s : ByteArray) (w : World) (_ : s.size ≤ maxLen) (_ : True) :
    Calls Tryd.prog 4 #[.string s] w fun e w' => e = .returned (.bool true) ∧ Below w.heap.size w w' := by
  go_enter Tryd.func4, Tryd.ntmps4
  go_upto_if 9 with fail
  go_cut [0] from 7 (fun v wx => ∃ x, v = .string x ∧ x.size ≤ 200 ∧ wx = w)
  case first =>
    by_cases h : 200 < s.size
    · have d1 : decide ((200 : Int) < (s.size : Int)) = true := decide_eq_true (by omega)
      have d2 : decide (200 < s.size) = true := decide_eq_true h
      have hz : (s.extract 0 200).size ≤ 200 := by simp; omega
      go_wp2
      go_meet
      exact ⟨_, rfl, hz, rfl⟩
    · have d1 : decide ((200 : Int) < (s.size : Int)) = false := decide_eq_false (by omega)
      have d2 : decide (200 < s.size) = false := decide_eq_false h
      go_wp2
      go_meet
      exact ⟨s, rfl, by omega, rfl⟩
  case rest =>
    obtain ⟨x, rfl, hx, he⟩ := hcut
    have he := he.symm
    subst he
    obtain ⟨o, ho⟩ : ∃ o, delL (btL x) = o := ⟨_, rfl⟩
    have D1 := Lib.hid (fun W : World => ldelay_at x (by omega) o ho W trivial)
    have D2 := Lib.hid (fun W : World => rdelay_at x (by omega) o ho W)
    clear ho
    go_wp2_with fail
    refine (D1.out _).mono ?_
    rintro e w1 ⟨rfl, hb⟩
    have B1 := Lib.hid hb
    clear hb
    go_wp2_with fail
    refine (D2.out _).mono ?_
    rintro e wx ⟨z, rfl, hz, hw⟩
    subst hw
    cases o with
    | none =>
      simp only [Option.getD_none, Option.isSome_none]
      clear hz
      go_wp2_with fail
      refine (awake9 _).mono ?_
      rintro e w2 ⟨rfl, hb⟩
      have B2 := Lib.hid (B1.out.trans (hb.mono B1.out.size))
      clear hb
      go_wp2
      go_ret
      exact ⟨rfl, B2.out⟩
    | some d =>
      obtain rfl := hz d rfl
      simp only [Option.getD_some, Option.isSome_some]
      go_wp2_with fail
      refine (awake9 _).mono ?_
      rintro e w2 ⟨rfl, hb⟩
      have B2 := Lib.hid (B1.out.trans (hb.mono B1.out.size))
      clear hb
      go_wp2
      go_ret
      exact ⟨rfl, B2.out⟩
set_option maxHeartbeats 2000000 in
theorem linesTexts_walk (s : ByteArray) (w : World) (_ : s.size ≤ maxLen) (_ : True) :
    Calls Tryd.prog 6 #[.string s] w fun e w' => e = .returned (.bool true) ∧ Below w.heap.size w w' := by
  go_enter Tryd.func6, Tryd.ntmps6
  go_upto_if 5 with fail
  go_cut [0] from 3 (fun v wx => ∃ x, v = .string x ∧ x.size ≤ 3000 ∧ wx = w)
  case first =>
    by_cases h : 3000 < s.size
    · have d1 : decide ((3000 : Int) < (s.size : Int)) = true := decide_eq_true (by omega)
      have d2 : decide (3000 < s.size) = true := decide_eq_true h
      have hz : (s.extract 0 3000).size ≤ 3000 := by simp; omega
      go_wp2
      go_meet
      exact ⟨_, rfl, hz, rfl⟩
    · have d1 : decide ((3000 : Int) < (s.size : Int)) = false := decide_eq_false (by omega)
      have d2 : decide (3000 < s.size) = false := decide_eq_false h
      go_wp2
      go_meet
      exact ⟨s, rfl, by omega, rfl⟩
  case rest =>
    obtain ⟨x, rfl, hx, he⟩ := hcut
    have he := he.symm
    subst he
    have hok := lines_ok (btL_byts x)
    have hle := lines_len (btL x)
    obtain ⟨L, hL⟩ : ∃ L, linesL (btL x) = L := ⟨_, rfl⟩
    have P1 := Lib.hid (fun W : World => lparse_at x (by omega) L hL W trivial)
    have P2 := Lib.hid (fun W : World => rparse_lines x (by omega) L hL W)
    rw [hL] at hok hle
    obtain ⟨n, hn⟩ : ∃ n, L.length = n := ⟨_, rfl⟩
    have HN := Lib.hid hn
    have G1 := Lib.hid (fun (a : Option Addr) (cap : Nat) (W : World) (h : RdLn W a L) => groups_at L n hn (by omega) a cap hok W h)
    have G2 := Lib.hid (fun (a : Option Addr) (cap : Nat) (W : World) (h : RdLn W a L) => rgroups_at L n hn (by omega) a cap hok W h)
    have hgl : (grL L).length ≤ 10000 := by have := grL_len L; omega
    clear hok hle hL hn
    go_wp2_with fail
    refine (awake9 _).mono ?_
    rintro e w1 ⟨rfl, hb⟩
    have B1 := Lib.hid hb
    clear hb
    go_wp2_with fail
    refine (P1.out _).mono ?_
    rintro e w2 ⟨a, cap, rfl, ho, hb⟩
    have HL := Lib.hid (rdLn_own ho rfl)
    have B2 := Lib.hid (B1.out.trans (hb.mono B1.out.size))
    clear ho hb
    rw [HN.out]
    go_wp2_with fail
    refine (G1.out _ _ _ HL.out).mono ?_
    rintro e w3 ⟨a2, cap2, GA, rfl, hg, hm, hb⟩
    have GX := Lib.hid hg
    have HM := Lib.hid hm
    have B3 := Lib.hid (B2.out.trans (hb.mono B2.out.size))
    clear hg hm hb
    go_wp2_with fail
    refine (P2.out _).mono ?_
    rintro e w4 ⟨a3, cap3, rfl, ho, hb⟩
    have HL := Lib.hid (rdLn_own ho rfl)
    have GX := Lib.hid (GX.out.later hb)
    have B4 := Lib.hid (B3.out.trans (hb.mono B3.out.size))
    clear ho hb
    rw [HN.out]
    go_wp2_with fail
    refine (G2.out _ _ _ HL.out).mono ?_
    rintro e w5 ⟨a4, cap4, GB, rfl, hg, hm, hb⟩
    have GX := Lib.hid (GX.out.later hb)
    have GY := Lib.hid hg
    have HM2 := Lib.hid hm
    have B5 := Lib.hid (B4.out.trans (hb.mono B4.out.size))
    clear hg hm hb
    obtain ⟨q, hq⟩ : ∃ q, GA.length = q := ⟨_, rfl⟩
    have hq2 : GB.length = q := by
      have := congrArg List.length (HM.out.trans HM2.out.symm)
      rw [List.length_map, List.length_map] at this
      omega
    have hq3 : q ≤ 10000 := by
      have := congrArg List.length HM.out
      rw [List.length_map] at this
      omega
    have AL := Lib.hid (alike_yes GA GB q hq hq2 (HM.out.trans HM2.out.symm) hq3 _ _ _ _ _ _ _ GX.out GY.out)
    rw [hq, hq2]
    clear hq hq2
    go_wp2_with fail
    refine AL.out.mono ?_
    rintro e w6 ⟨rfl, hb⟩
    have B6 := Lib.hid (B5.out.trans (hb.mono B5.out.size))
    clear hb
    go_wp2
    go_ret
    exact ⟨rfl, B6.out⟩
end Go.Proofs.YtejmhndlfbmpdaaDoor
