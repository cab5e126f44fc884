/- The law on when a breaker opens, walked, where what is sent last goes wrong. -/
import Derived.Test.YtjclllmdaoapeabBreakerLaws
namespace Go.Proofs.Ytjclllmdaoapeab
open Go.RowKit

theorem addI_small_false (a b : Int) (a0 : 0 ≤ a) (a1 : a ≤ 1000000000) (b0 : 0 ≤ b) (b1 : b ≤ 1000000000) : addI a b = a + b := by
  unfold addI
  rw [clampI_id (a := a) (by omega) (by omega), clampI_id (a := b) (by omega) (by omega), clampI_id (by omega) (by omega)]

set_option maxHeartbeats 4000000 in
theorem opens_false (p opn q : Int) (w : World) (wp : (Lit.int .u8 p).wf = true) (wo : (Lit.int .u16 opn).wf = true) (wq : (Lit.int .u8 q).wf = true) :
    Calls Try.prog 9 #[.int .u8 p, .int .u16 opn, .int .u8 q, .bool false] w fun e w' => e = .returned (.bool true) ∧ Below w.heap.size w w' := by
  obtain ⟨p0, p1⟩ := bounds_u8 wp
  obtain ⟨o0, o1⟩ := bounds_u16 wo
  obtain ⟨q0, q1⟩ := bounds_u8 wq
  clear wp wo wq
  obtain ⟨n0, n1⟩ : 0 ≤ q % 40 ∧ q % 40 < 40 := by omega
  obtain ⟨r0, r1⟩ : 0 ≤ p % 20 ∧ p % 20 < 20 := by omega
  obtain ⟨m, hm⟩ : ∃ m, m = p % 20 + 1 := ⟨_, rfl⟩
  have m0 : 1 ≤ m := by omega
  have m20 : m ≤ 20 := by omega
  have HM := Lib.hid hm
  clear hm r0 r1
  go_enter Try.func9, Try.ntmps9
  go_wp2
  rw [← HM.out]
  go_loopw [11] (fun i wr => ∃ k : Nat, (k : Int) ≤ q % 40 ∧ i = .int .i64 k ∧ Below w.heap.size w wr ∧
      ∃ s t : Int, Hid ((s = 1 ∧ m = k ∧ t = m - 1 + opn) ∨ (s = 0 ∧ (k : Int) < m ∧ t = 0)) ∧ Hid (Box wr w.heap.size #[.int .i64 s, .int .i64 k, .int .i64 t] 36)) (fun i _ => 40 - (intOf i).toNat)
  case atStart => exact ⟨0, by omega, rfl, (Below.refl _ _).alloc (Nat.le_refl _) _, 0, 0, Lib.hid (.inr ⟨rfl, by omega, rfl⟩), Lib.hid (Box.new _ _ _)⟩
  case round =>
    obtain ⟨k, hk, rfl, hB, s, t, HS, HX⟩ := hrel
    rcases HS.out with ⟨rfl, hmk, rfl⟩ | ⟨rfl, hmk, rfl⟩
    · clear HS
      have HX : Hid (Box wr w.heap.size #[.int .i64 1, .int .i64 m, .int .i64 (m - 1 + opn)] 36) := Lib.hid (by rw [hmk] at HX ⊢; exact HX.out)
      clear hmk
      by_cases hlt : (k : Int) < q % 40
      ·
        obtain ⟨l1, c1, f1⟩ := HX.out.facts
        by_cases ho : 0 < opn
        · have dopn : decide (0 < opn) = true := decide_eq_true ho
          go_wp2_with fail
          refine (may_at _ _ _ _ _ false (by simp [mayB]; omega) _).mono ?_
          rintro e w1 ⟨rfl, hb1⟩
          have x1 := Lib.hid (HX.out.later hb1)
          have hB1 := hB.trans (hb1.mono hB.size)
          clear l1 c1 f1 hb1
          obtain ⟨l1, c1, f1⟩ := x1.out.facts
          go_wp2_with fail
          refine (may_at _ _ _ _ _ true (by simp [mayB]) _).mono ?_
          rintro e w2 ⟨rfl, hb2⟩
          have x2 := Lib.hid (x1.out.later hb2)
          have hB2 := hB1.trans (hb2.mono hB1.size)
          clear l1 c1 f1 hb2 x1
          obtain ⟨l1, c1, f1⟩ := x2.out.facts
          go_wp2_with fail
          refine (send_at _ _ _ _ 2 (by unfold sendS; rw [if_pos ⟨rfl, by omega⟩]) _).mono ?_
          rintro e w3 ⟨rfl, hb3⟩
          have x3 := Lib.hid ((x2.out.later hb3).alloc (.cells #[.int .i64 2, .int .i64 m, .int .i64 (m - 1 + opn)] 36))
          have y3 := Lib.hid (Box.new w3 #[.int .i64 2, .int .i64 m, .int .i64 (m - 1 + opn)] 36)
          have hB3 := hB2.trans (hb3.mono hB2.size)
          have x3' := x2.out.later hb3
          clear l1 c1 f1 hb3
          obtain ⟨l1, c1, f1⟩ := x3'.facts
          clear x3'
          go_wp2_with fail
          refine (may_at _ _ _ _ _ false (by simp [mayB]) _).mono ?_
          rintro e w4 ⟨rfl, hb4⟩
          have x4 := Lib.hid (x3.out.later hb4)
          have y4 := Lib.hid (y3.out.later hb4)
          have hB4 := (hB3.alloc hB3.size _).trans (hb4.mono (by have := hB3.size; simp; omega))
          clear l1 c1 f1 hb4 x3 y3
          obtain ⟨l1, c1, f1⟩ := x4.out.facts
          obtain ⟨l2, c2, f2⟩ := y4.out.facts
          go_wp2_with fail
          refine (fail_at _ _ _ _ _ _ 1 (m + 1) (m - 1 + opn + 3 + opn) (by unfold failS; rw [if_pos (.inl rfl)]) (by unfold failF; omega) (by unfold failU failT; rw [if_pos (.inl rfl)]; rw [addI_small_false _ _ (by omega) (by omega) (by omega) (by omega)]; omega) _).mono ?_
          rintro e w5 ⟨rfl, hb5⟩
          have x5 := Lib.hid ((x4.out.later hb5).alloc (.cells #[.int .i64 1, .int .i64 (m + 1), .int .i64 (m - 1 + opn + 3 + opn)] 36))
          have y5 := Lib.hid (Box.new w5 #[.int .i64 1, .int .i64 (m + 1), .int .i64 (m - 1 + opn + 3 + opn)] 36)
          have hB5 := hB4.trans (hb5.mono hB4.size)
          clear l1 c1 f1 l2 c2 f2 hb5 x4 y4
          go_wp2_with fail
          refine (awake19 _).mono ?_
          rintro e w6 ⟨rfl, hb6⟩
          have x6 := Lib.hid (x5.out.later hb6)
          have y6 := Lib.hid (y5.out.later hb6)
          have hB6 := (hB5.alloc hB5.size _).trans (hb6.mono (by have := hB5.size; simp; omega))
          clear hb6 x5 y5
          obtain ⟨l1, c1, f1⟩ := x6.out.facts
          obtain ⟨l2, c2, f2⟩ := y6.out.facts
          go_wp2
          go_ret
          exact ⟨ret_bool (by simp), hB6⟩
        · have dopn : decide (0 < opn) = false := decide_eq_false ho
          obtain ⟨w1, hw1⟩ : ∃ w1, w1 = wr := ⟨_, rfl⟩
          have x1 := HX
          have hB1 := hB
          rw [← hw1] at l1 c1 f1 x1 hB1
          subst hw1
          go_wp2_with fail
          refine (may_at _ _ _ _ _ true (by simp [mayB]) _).mono ?_
          rintro e w2 ⟨rfl, hb2⟩
          have x2 := Lib.hid (x1.out.later hb2)
          have hB2 := hB1.trans (hb2.mono hB1.size)
          clear l1 c1 f1 hb2 x1
          obtain ⟨l1, c1, f1⟩ := x2.out.facts
          go_wp2_with fail
          refine (send_at _ _ _ _ 2 (by unfold sendS; rw [if_pos ⟨rfl, by omega⟩]) _).mono ?_
          rintro e w3 ⟨rfl, hb3⟩
          have x3 := Lib.hid ((x2.out.later hb3).alloc (.cells #[.int .i64 2, .int .i64 m, .int .i64 (m - 1 + opn)] 36))
          have y3 := Lib.hid (Box.new w3 #[.int .i64 2, .int .i64 m, .int .i64 (m - 1 + opn)] 36)
          have hB3 := hB2.trans (hb3.mono hB2.size)
          have x3' := x2.out.later hb3
          clear l1 c1 f1 hb3
          obtain ⟨l1, c1, f1⟩ := x3'.facts
          clear x3'
          go_wp2_with fail
          refine (may_at _ _ _ _ _ false (by simp [mayB]) _).mono ?_
          rintro e w4 ⟨rfl, hb4⟩
          have x4 := Lib.hid (x3.out.later hb4)
          have y4 := Lib.hid (y3.out.later hb4)
          have hB4 := (hB3.alloc hB3.size _).trans (hb4.mono (by have := hB3.size; simp; omega))
          clear l1 c1 f1 hb4 x3 y3
          obtain ⟨l1, c1, f1⟩ := x4.out.facts
          obtain ⟨l2, c2, f2⟩ := y4.out.facts
          go_wp2_with fail
          refine (fail_at _ _ _ _ _ _ 1 (m + 1) (m - 1 + opn + 3 + opn) (by unfold failS; rw [if_pos (.inl rfl)]) (by unfold failF; omega) (by unfold failU failT; rw [if_pos (.inl rfl)]; rw [addI_small_false _ _ (by omega) (by omega) (by omega) (by omega)]; omega) _).mono ?_
          rintro e w5 ⟨rfl, hb5⟩
          have x5 := Lib.hid ((x4.out.later hb5).alloc (.cells #[.int .i64 1, .int .i64 (m + 1), .int .i64 (m - 1 + opn + 3 + opn)] 36))
          have y5 := Lib.hid (Box.new w5 #[.int .i64 1, .int .i64 (m + 1), .int .i64 (m - 1 + opn + 3 + opn)] 36)
          have hB5 := hB4.trans (hb5.mono hB4.size)
          clear l1 c1 f1 l2 c2 f2 hb5 x4 y4
          go_wp2_with fail
          refine (awake19 _).mono ?_
          rintro e w6 ⟨rfl, hb6⟩
          have x6 := Lib.hid (x5.out.later hb6)
          have y6 := Lib.hid (y5.out.later hb6)
          have hB6 := (hB5.alloc hB5.size _).trans (hb6.mono (by have := hB5.size; simp; omega))
          clear hb6 x5 y5
          obtain ⟨l1, c1, f1⟩ := x6.out.facts
          obtain ⟨l2, c2, f2⟩ := y6.out.facts
          go_wp2
          go_ret
          exact ⟨ret_bool (by simp), hB6⟩
      ·
        obtain ⟨l1, c1, f1⟩ := HX.out.facts
        by_cases ho : 0 < opn
        · have dopn : decide (0 < opn) = true := decide_eq_true ho
          go_wp2_with fail
          refine (may_at _ _ _ _ _ false (by simp [mayB]; omega) _).mono ?_
          rintro e w1 ⟨rfl, hb1⟩
          have x1 := Lib.hid (HX.out.later hb1)
          have hB1 := hB.trans (hb1.mono hB.size)
          clear l1 c1 f1 hb1
          obtain ⟨l1, c1, f1⟩ := x1.out.facts
          go_wp2_with fail
          refine (may_at _ _ _ _ _ true (by simp [mayB]) _).mono ?_
          rintro e w2 ⟨rfl, hb2⟩
          have x2 := Lib.hid (x1.out.later hb2)
          have hB2 := hB1.trans (hb2.mono hB1.size)
          clear l1 c1 f1 hb2 x1
          obtain ⟨l1, c1, f1⟩ := x2.out.facts
          go_wp2_with fail
          refine (send_at _ _ _ _ 2 (by unfold sendS; rw [if_pos ⟨rfl, by omega⟩]) _).mono ?_
          rintro e w3 ⟨rfl, hb3⟩
          have x3 := Lib.hid ((x2.out.later hb3).alloc (.cells #[.int .i64 2, .int .i64 m, .int .i64 (m - 1 + opn)] 36))
          have y3 := Lib.hid (Box.new w3 #[.int .i64 2, .int .i64 m, .int .i64 (m - 1 + opn)] 36)
          have hB3 := hB2.trans (hb3.mono hB2.size)
          have x3' := x2.out.later hb3
          clear l1 c1 f1 hb3
          obtain ⟨l1, c1, f1⟩ := x3'.facts
          clear x3'
          go_wp2_with fail
          refine (may_at _ _ _ _ _ false (by simp [mayB]) _).mono ?_
          rintro e w4 ⟨rfl, hb4⟩
          have x4 := Lib.hid (x3.out.later hb4)
          have y4 := Lib.hid (y3.out.later hb4)
          have hB4 := (hB3.alloc hB3.size _).trans (hb4.mono (by have := hB3.size; simp; omega))
          clear l1 c1 f1 hb4 x3 y3
          obtain ⟨l1, c1, f1⟩ := x4.out.facts
          obtain ⟨l2, c2, f2⟩ := y4.out.facts
          go_wp2_with fail
          refine (fail_at _ _ _ _ _ _ 1 (m + 1) (m - 1 + opn + 3 + opn) (by unfold failS; rw [if_pos (.inl rfl)]) (by unfold failF; omega) (by unfold failU failT; rw [if_pos (.inl rfl)]; rw [addI_small_false _ _ (by omega) (by omega) (by omega) (by omega)]; omega) _).mono ?_
          rintro e w5 ⟨rfl, hb5⟩
          have x5 := Lib.hid ((x4.out.later hb5).alloc (.cells #[.int .i64 1, .int .i64 (m + 1), .int .i64 (m - 1 + opn + 3 + opn)] 36))
          have y5 := Lib.hid (Box.new w5 #[.int .i64 1, .int .i64 (m + 1), .int .i64 (m - 1 + opn + 3 + opn)] 36)
          have hB5 := hB4.trans (hb5.mono hB4.size)
          clear l1 c1 f1 l2 c2 f2 hb5 x4 y4
          go_wp2_with fail
          refine (awake19 _).mono ?_
          rintro e w6 ⟨rfl, hb6⟩
          have x6 := Lib.hid (x5.out.later hb6)
          have y6 := Lib.hid (y5.out.later hb6)
          have hB6 := (hB5.alloc hB5.size _).trans (hb6.mono (by have := hB5.size; simp; omega))
          clear hb6 x5 y5
          obtain ⟨l1, c1, f1⟩ := x6.out.facts
          obtain ⟨l2, c2, f2⟩ := y6.out.facts
          go_wp2
          go_ret
          exact ⟨ret_bool (by simp), hB6⟩
        · have dopn : decide (0 < opn) = false := decide_eq_false ho
          obtain ⟨w1, hw1⟩ : ∃ w1, w1 = wr := ⟨_, rfl⟩
          have x1 := HX
          have hB1 := hB
          rw [← hw1] at l1 c1 f1 x1 hB1
          subst hw1
          go_wp2_with fail
          refine (may_at _ _ _ _ _ true (by simp [mayB]) _).mono ?_
          rintro e w2 ⟨rfl, hb2⟩
          have x2 := Lib.hid (x1.out.later hb2)
          have hB2 := hB1.trans (hb2.mono hB1.size)
          clear l1 c1 f1 hb2 x1
          obtain ⟨l1, c1, f1⟩ := x2.out.facts
          go_wp2_with fail
          refine (send_at _ _ _ _ 2 (by unfold sendS; rw [if_pos ⟨rfl, by omega⟩]) _).mono ?_
          rintro e w3 ⟨rfl, hb3⟩
          have x3 := Lib.hid ((x2.out.later hb3).alloc (.cells #[.int .i64 2, .int .i64 m, .int .i64 (m - 1 + opn)] 36))
          have y3 := Lib.hid (Box.new w3 #[.int .i64 2, .int .i64 m, .int .i64 (m - 1 + opn)] 36)
          have hB3 := hB2.trans (hb3.mono hB2.size)
          have x3' := x2.out.later hb3
          clear l1 c1 f1 hb3
          obtain ⟨l1, c1, f1⟩ := x3'.facts
          clear x3'
          go_wp2_with fail
          refine (may_at _ _ _ _ _ false (by simp [mayB]) _).mono ?_
          rintro e w4 ⟨rfl, hb4⟩
          have x4 := Lib.hid (x3.out.later hb4)
          have y4 := Lib.hid (y3.out.later hb4)
          have hB4 := (hB3.alloc hB3.size _).trans (hb4.mono (by have := hB3.size; simp; omega))
          clear l1 c1 f1 hb4 x3 y3
          obtain ⟨l1, c1, f1⟩ := x4.out.facts
          obtain ⟨l2, c2, f2⟩ := y4.out.facts
          go_wp2_with fail
          refine (fail_at _ _ _ _ _ _ 1 (m + 1) (m - 1 + opn + 3 + opn) (by unfold failS; rw [if_pos (.inl rfl)]) (by unfold failF; omega) (by unfold failU failT; rw [if_pos (.inl rfl)]; rw [addI_small_false _ _ (by omega) (by omega) (by omega) (by omega)]; omega) _).mono ?_
          rintro e w5 ⟨rfl, hb5⟩
          have x5 := Lib.hid ((x4.out.later hb5).alloc (.cells #[.int .i64 1, .int .i64 (m + 1), .int .i64 (m - 1 + opn + 3 + opn)] 36))
          have y5 := Lib.hid (Box.new w5 #[.int .i64 1, .int .i64 (m + 1), .int .i64 (m - 1 + opn + 3 + opn)] 36)
          have hB5 := hB4.trans (hb5.mono hB4.size)
          clear l1 c1 f1 l2 c2 f2 hb5 x4 y4
          go_wp2_with fail
          refine (awake19 _).mono ?_
          rintro e w6 ⟨rfl, hb6⟩
          have x6 := Lib.hid (x5.out.later hb6)
          have y6 := Lib.hid (y5.out.later hb6)
          have hB6 := (hB5.alloc hB5.size _).trans (hb6.mono (by have := hB5.size; simp; omega))
          clear hb6 x5 y5
          obtain ⟨l1, c1, f1⟩ := x6.out.facts
          obtain ⟨l2, c2, f2⟩ := y6.out.facts
          go_wp2
          go_ret
          exact ⟨ret_bool (by simp), hB6⟩
    · clear HS
      by_cases hlt : (k : Int) < q % 40
      · obtain ⟨l1, c1, f1⟩ := HX.out.facts
        have HF := Lib.hid (show failF (k : Int) = (k : Int) + 1 by unfold failF; omega)
        by_cases hop : m ≤ (k : Int) + 1
        · have HS1 := Lib.hid (show failS 0 k m = 1 by unfold failS; rw [if_pos (.inr (by rw [HF.out]; omega))])
          have HT := Lib.hid (show failU 0 k 0 k m opn = m - 1 + opn by
            unfold failU failT; rw [if_pos (.inr (by rw [HF.out]; omega))]
            rw [addI_small_false _ _ (by omega) (by omega) (by omega) (by omega)]; omega)
          have dm : decide (m ≤ (k : Int) + 1) = true := decide_eq_true hop
          go_wp2_with fail
          refine (fail_at _ _ _ _ _ _ _ _ _ HS1.out HF.out HT.out _).mono ?_
          rintro e w1 ⟨rfl, hb1⟩
          have x1 := HX.out.later hb1
          have hB1 := hB.trans (hb1.mono hB.size)
          have x2 := Lib.hid (((x1.set 0 (.int .i64 1)).set 1 (.int .i64 ((k : Int) + 1))).set 2 (.int .i64 (m - 1 + opn)))
          rw [set3] at x2
          clear l1 c1 f1 hb1 HX HT HF HS1
          obtain ⟨l1, c1, f1⟩ := x1.facts
          clear x1
          go_wp2
          go_roundw
          case rel => exact ⟨k + 1, by omega, by go_num, ((hB1.setCell (Nat.le_refl _) _).setCell (Nat.le_refl _) _).setCell (Nat.le_refl _) _, 1, _, Lib.hid (.inl ⟨rfl, by omega, rfl⟩), x2⟩
          case measure => simp [intOf]; omega
        · have HS1 := Lib.hid (show failS 0 k m = 0 by unfold failS; rw [if_neg (by rw [HF.out]; omega)])
          have HT := Lib.hid (show failU 0 k 0 k m opn = 0 by unfold failU; rw [if_neg (by rw [HF.out]; omega)])
          have dm : decide (m ≤ (k : Int) + 1) = false := decide_eq_false hop
          go_wp2_with fail
          refine (fail_at _ _ _ _ _ _ _ _ _ HS1.out HF.out HT.out _).mono ?_
          rintro e w1 ⟨rfl, hb1⟩
          have x1 := HX.out.later hb1
          have hB1 := hB.trans (hb1.mono hB.size)
          have x2 := Lib.hid (((x1.set 0 (.int .i64 0)).set 1 (.int .i64 ((k : Int) + 1))).set 2 (.int .i64 0))
          rw [set3] at x2
          clear l1 c1 f1 hb1 HX HT HF HS1
          obtain ⟨l1, c1, f1⟩ := x1.facts
          clear x1
          go_wp2
          go_roundw
          case rel => exact ⟨k + 1, by omega, by go_num, ((hB1.setCell (Nat.le_refl _) _).setCell (Nat.le_refl _) _).setCell (Nat.le_refl _) _, 0, 0, Lib.hid (.inr ⟨rfl, by omega, rfl⟩), x2⟩
          case measure => simp [intOf]; omega
      · obtain ⟨l1, c1, f1⟩ := HX.out.facts
        go_wp2_with fail
        refine (awake19 _).mono ?_
        rintro e w1 ⟨rfl, hb1⟩
        have x1 := HX.out.later hb1
        have hB1 := hB.trans (hb1.mono hB.size)
        clear l1 c1 f1 hb1 HX
        obtain ⟨l1, c1, f1⟩ := x1.facts
        clear x1
        go_wp2_with fail
        refine (may_at _ _ _ _ _ true (by simp [mayB]) _).mono ?_
        rintro e w2 ⟨rfl, hb2⟩
        go_wp2
        go_ret
        exact ⟨rfl, hB1.trans (hb2.mono hB1.size)⟩

end Go.Proofs.Ytjclllmdaoapeab
