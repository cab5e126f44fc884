/- MatchLonger, the walk. -/
import Derived.Test.YtcedckkmdpecmaaDoorMtNN
namespace Go.Proofs.YtcedckkmdpecmaaDoor
open Go.RowKit
set_option linter.unusedVariables false
set_option linter.unusedSimpArgs false

set_option maxHeartbeats 4000000 in
set_option maxRecDepth 100000 in
theorem matchLonger_walk (a0 b0 p0 : ByteArray) (w : World) (wa : a0.size ≤ maxLen) (wb : b0.size ≤ maxLen) (wp : p0.size ≤ maxLen) (hT : TabsM w) :
    Calls Tryd.prog 13 #[.string a0, .string b0, .string p0] w fun e w' => e = .returned (.bool true) ∧ Below w.heap.size w w' := by
  have HT := Lib.hid hT
  obtain ⟨a, ha⟩ : ∃ p, c100 a0 = p := ⟨_, rfl⟩
  obtain ⟨b, hb⟩ : ∃ p, c100 b0 = p := ⟨_, rfl⟩
  obtain ⟨p, hp⟩ : ∃ p, c100 p0 = p := ⟨_, rfl⟩
  have za : a.size ≤ 100 := by rw [← ha]; exact c100_size a0
  have zb : b.size ≤ 100 := by rw [← hb]; exact c100_size b0
  have zp : p.size ≤ 100 := by rw [← hp]; exact c100_size p0
  obtain ⟨X, hX⟩ : ∃ X, a ++ b ++ p = X := ⟨_, rfl⟩
  have zX : X.size ≤ 300 := by rw [← hX, ByteArray.size_append, ByteArray.size_append]; omega
  have H1 := Lib.hid ha
  have H2 := Lib.hid hb
  have H3 := Lib.hid hp
  have HX := Lib.hid hX
  have W1 := Lib.hid wa
  have W2 := Lib.hid wb
  have W3 := Lib.hid wp
  clear hT ha hb hp hX wa wb wp
  go_enter Tryd.func13, Tryd.ntmps13
  go_wp2_with fail
  refine (cut10_at a0 a H1.out W1.out _).mono ?_
  rintro e w' ⟨rfl, rfl⟩
  go_wp2_with fail
  refine (cut10_at b0 b H2.out W2.out _).mono ?_
  rintro e w' ⟨rfl, rfl⟩
  go_wp2_with fail
  refine (cut10_at p0 p H3.out W3.out _).mono ?_
  rintro e w' ⟨rfl, rfl⟩
  go_wp2_with fail
  rw [HX.out]
  go_loop [11] (fun i => ∃ k : Nat, k ≤ X.size ∧ i = .int .i64 k ∧ Hid (∀ j (hj : j < X.size), j < k → X[j] ≠ 37 ∧ X[j] ≠ 36)) (fun i => X.size - (intOf i).toNat)
  case atStart => exact ⟨0, Nat.zero_le _, rfl, Lib.hid (by intro j hj h; omega)⟩
  case round =>
    obtain ⟨k, hk, rfl, HA⟩ := hrel
    by_cases hlt : k < X.size
    · obtain ⟨u, hu⟩ : ∃ u : Int, (X[k].toNat : Int) = u := ⟨_, rfl⟩
      by_cases h37 : u = 37
      · have d1 : (u == 37) = true := beq_iff_eq.2 h37
        go_wp2_with fail
        refine (awake10_at _ HT.out).mono ?_
        rintro e w1 ⟨rfl, hb1⟩
        have B1 := Lib.hid hb1
        clear hb1
        go_wp2
        go_ret
        exact ⟨rfl, B1.out⟩
      · have d1 : (u == 37) = false := beq_eq_false_iff_ne.2 h37
        by_cases h36 : u = 36
        · have d2 : (u == 36) = true := beq_iff_eq.2 h36
          go_wp2_with fail
          refine (awake10_at _ HT.out).mono ?_
          rintro e w1 ⟨rfl, hb1⟩
          have B1 := Lib.hid hb1
          clear hb1
          go_wp2
          go_ret
          exact ⟨rfl, B1.out⟩
        · have d2 : (u == 36) = false := beq_eq_false_iff_ne.2 h36
          by_cases h128 : 128 ≤ u
          · have d3 : decide (128 ≤ u) = true := by simpa using h128
            go_wp2_with fail
            refine (awake10_at _ HT.out).mono ?_
            rintro e w1 ⟨rfl, hb1⟩
            have B1 := Lib.hid hb1
            clear hb1
            go_wp2
            go_ret
            exact ⟨rfl, B1.out⟩
          · have d3 : decide (128 ≤ u) = false := by simpa using h128
            have HA2 : Hid (∀ j (hj : j < X.size), j < k + 1 → X[j] ≠ 37 ∧ X[j] ≠ 36) := Lib.hid (by
              intro j hj h
              by_cases e : j < k
              · exact HA.out j hj e
              · have : j = k := by omega
                subst this
                constructor
                · intro e2; rw [e2] at hu; apply h37; rw [← hu]; rfl
                · intro e2; rw [e2] at hu; apply h36; rw [← hu]; rfl)
            clear h37 h36 h128
            go_wp2
            go_round
            case rel => exact ⟨k + 1, by omega, by go_num, HA2⟩
            case measure => simp [intOf]; omega
    · have hall : ∀ c ∈ dl X, c ≠ 37 ∧ c ≠ 36 := mem_dl fun j hj => HA.out j hj (by omega)
      obtain ⟨f1, f2, f3⟩ := longer (a := a) (b := b) (s := nfB p) (fun c hc => hall c (by rw [← HX.out, dl_append, dl_append]; exact List.mem_append_left _ hc))
      obtain ⟨ab, hab⟩ : ∃ x, a ++ b = x := ⟨_, rfl⟩
      obtain ⟨aS, has⟩ : ∃ x, a ++ (⟨#[42]⟩ : ByteArray) = x := ⟨_, rfl⟩
      obtain ⟨aD, had⟩ : ∃ x, a ++ (⟨#[36]⟩ : ByteArray) = x := ⟨_, rfl⟩
      have zab : ab.size ≤ 200 := by rw [← hab, ByteArray.size_append]; omega
      have zas : aS.size ≤ 200 := by rw [← has, ByteArray.size_append]; show a.size + 1 ≤ 200; omega
      have zad : aD.size ≤ 200 := by rw [← had, ByteArray.size_append]; show a.size + 1 ≤ 200; omega
      rw [hab] at f1
      rw [has] at f2
      rw [had] at f3
      have E1 := Lib.hid hab
      have E2 := Lib.hid has
      have E3 := Lib.hid had
      obtain ⟨b1, hb1⟩ : ∃ x, MM (dl (nfB ab)) (dl (nfB p)) = x := ⟨_, rfl⟩
      obtain ⟨b2, hb2⟩ : ∃ x, MM (dl (nfB a)) (dl (nfB p)) = x := ⟨_, rfl⟩
      obtain ⟨b3, hb3⟩ : ∃ x, MM (dl (nfB aS)) (dl (nfB p)) = x := ⟨_, rfl⟩
      obtain ⟨b4, hb4⟩ : ∃ x, MM (dl (nfB aD)) (dl (nfB p)) = x := ⟨_, rfl⟩
      rw [hb1, hb2] at f1
      rw [hb3, hb2] at f2
      rw [hb4, hb2] at f3
      have G1 := Lib.hid hb1
      have G2 := Lib.hid hb2
      have G3 := Lib.hid hb3
      have G4 := Lib.hid hb4
      clear hb1 hb2 hb3 hb4 hall hab has had
      go_wp2_with fail
      rw [E1.out]
      refine (match_at ab p _ _ b1 rfl rfl G1.out (by omega) (by omega) _ HT.out).mono ?_
      rintro e w1 ⟨rfl, hb1⟩
      have T1 := Lib.hid (HT.out.later hb1)
      have B1 := Lib.hid hb1
      clear hb1
      cases b1
      · subst f2
        cases b3
        · have f4 : b4 = false := by
            cases b4
            · rfl
            · exact absurd (f3 rfl) (by decide)
          subst f4
          clear f1 f3
          go_wp2_with fail
          refine (awake10_at _ T1.out).mono ?_
          rintro e w2 ⟨rfl, hb2⟩
          have T2 := Lib.hid (T1.out.later hb2)
          have B2 := Lib.hid (B1.out.trans (hb2.mono B1.out.size))
          clear hb2
          go_wp2_with fail
          rw [E2.out]
          refine (match_at aS p _ _ _ rfl rfl G3.out (by omega) (by omega) _ T2.out).mono ?_
          rintro e w3 ⟨rfl, hb3⟩
          have T3 := Lib.hid (T2.out.later hb3)
          have B3 := Lib.hid (B2.out.trans (hb3.mono B2.out.size))
          clear hb3
          go_wp2_with fail
          refine (match_at a p _ _ _ rfl rfl G2.out (by omega) (by omega) _ T3.out).mono ?_
          rintro e w4 ⟨rfl, hb4⟩
          have T4 := Lib.hid (T3.out.later hb4)
          have B4 := Lib.hid (B3.out.trans (hb4.mono B3.out.size))
          clear hb4
          go_wp2_with fail
          rw [E3.out]
          refine (match_at aD p _ _ _ rfl rfl G4.out (by omega) (by omega) _ T4.out).mono ?_
          rintro e w5 ⟨rfl, hb5⟩
          have T5 := Lib.hid (T4.out.later hb5)
          have B5 := Lib.hid (B4.out.trans (hb5.mono B4.out.size))
          clear hb5
          go_wp2
          go_ret
          exact ⟨rfl, B5.out⟩
        · clear f1 f3
          go_wp2_with fail
          refine (awake10_at _ T1.out).mono ?_
          rintro e w2 ⟨rfl, hb2⟩
          have T2 := Lib.hid (T1.out.later hb2)
          have B2 := Lib.hid (B1.out.trans (hb2.mono B1.out.size))
          clear hb2
          go_wp2_with fail
          rw [E2.out]
          refine (match_at aS p _ _ _ rfl rfl G3.out (by omega) (by omega) _ T2.out).mono ?_
          rintro e w3 ⟨rfl, hb3⟩
          have T3 := Lib.hid (T2.out.later hb3)
          have B3 := Lib.hid (B2.out.trans (hb3.mono B2.out.size))
          clear hb3
          go_wp2_with fail
          refine (match_at a p _ _ _ rfl rfl G2.out (by omega) (by omega) _ T3.out).mono ?_
          rintro e w4 ⟨rfl, hb4⟩
          have T4 := Lib.hid (T3.out.later hb4)
          have B4 := Lib.hid (B3.out.trans (hb4.mono B3.out.size))
          clear hb4
          go_wp2_with fail
          rw [E3.out]
          refine (match_at aD p _ _ _ rfl rfl G4.out (by omega) (by omega) _ T4.out).mono ?_
          rintro e w5 ⟨rfl, hb5⟩
          have T5 := Lib.hid (T4.out.later hb5)
          have B5 := Lib.hid (B4.out.trans (hb5.mono B4.out.size))
          clear hb5
          cases b4
          · go_wp2
            go_ret
            exact ⟨rfl, B5.out⟩
          · go_wp2_with fail
            refine (match_at a p _ _ true rfl rfl G2.out (by omega) (by omega) _ T5.out).mono ?_
            rintro e w6 ⟨rfl, hb6⟩
            have B6 := Lib.hid (B5.out.trans (hb6.mono B5.out.size))
            clear hb6
            go_wp2
            go_ret
            exact ⟨rfl, B6.out⟩
      · have f5 := f1 rfl
        subst f5
        subst f2
        clear f1 f3
        go_wp2_with fail
        refine (match_at a p _ _ true rfl rfl G2.out (by omega) (by omega) _ T1.out).mono ?_
        rintro e w2 ⟨rfl, hb2⟩
        have T2 := Lib.hid (T1.out.later hb2)
        have B2 := Lib.hid (B1.out.trans (hb2.mono B1.out.size))
        clear hb2
        go_wp2_with fail
        refine (awake10_at _ T2.out).mono ?_
        rintro e w3 ⟨rfl, hb3⟩
        have T3 := Lib.hid (T2.out.later hb3)
        have B3 := Lib.hid (B2.out.trans (hb3.mono B2.out.size))
        clear hb3
        go_wp2_with fail
        rw [E2.out]
        refine (match_at aS p _ _ _ rfl rfl G3.out (by omega) (by omega) _ T3.out).mono ?_
        rintro e w4 ⟨rfl, hb4⟩
        have T4 := Lib.hid (T3.out.later hb4)
        have B4 := Lib.hid (B3.out.trans (hb4.mono B3.out.size))
        clear hb4
        go_wp2_with fail
        refine (match_at a p _ _ _ rfl rfl G2.out (by omega) (by omega) _ T4.out).mono ?_
        rintro e w5 ⟨rfl, hb5⟩
        have T5 := Lib.hid (T4.out.later hb5)
        have B5 := Lib.hid (B4.out.trans (hb5.mono B4.out.size))
        clear hb5
        go_wp2_with fail
        rw [E3.out]
        refine (match_at aD p _ _ _ rfl rfl G4.out (by omega) (by omega) _ T5.out).mono ?_
        rintro e w6 ⟨rfl, hb6⟩
        have T6 := Lib.hid (T5.out.later hb6)
        have B6 := Lib.hid (B5.out.trans (hb6.mono B5.out.size))
        clear hb6
        cases b4
        · go_wp2
          go_ret
          exact ⟨rfl, B6.out⟩
        · go_wp2_with fail
          refine (match_at a p _ _ true rfl rfl G2.out (by omega) (by omega) _ T6.out).mono ?_
          rintro e w7 ⟨rfl, hb7⟩
          have B7 := Lib.hid (B6.out.trans (hb7.mono B6.out.size))
          clear hb7
          go_wp2
          go_ret
          exact ⟨rfl, B7.out⟩
end Go.Proofs.YtcedckkmdpecmaaDoor
