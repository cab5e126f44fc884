/- The laws of layer 19, walked. -/
import Derived.Test.YtjclllmdaoapeabBreakerC
import Derived.Test.YtjclllmdaoapeabFrame
import Derived.Test.YtjclllmdaoapeabBox
namespace Go.Proofs.Ytjclllmdaoapeab
open Go.RowKit

theorem fail_at (s f t now most opn a b c : Int) (ha : failS s f most = a) (hb : failF f = b) (hc : failU s f t now most opn = c) (w : World) :
    Calls Try.prog 24 #[.agg #[.int .i64 s, .int .i64 f, .int .i64 t], .int .i64 now, .int .i64 most, .int .i64 opn] w fun e w' => e = .returned (.agg #[.int .i64 a, .int .i64 b, .int .i64 c]) ∧ Below w.heap.size w w' :=
  fail_as s f t now most opn a b c ha hb hc w
theorem send_at (s f t now a : Int) (h : sendS s t now = a) (w : World) :
    Calls Try.prog 23 #[.agg #[.int .i64 s, .int .i64 f, .int .i64 t], .int .i64 now] w fun e w' => e = .returned (.agg #[.int .i64 a, .int .i64 f, .int .i64 t]) ∧ Below w.heap.size w w' := send_as s f t now a h w
theorem may_at (s f t now fl : Int) (v : Bool) (h : mayB s t now fl = v) (w : World) :
    Calls Try.prog 22 #[.agg #[.int .i64 s, .int .i64 f, .int .i64 t], .int .i64 now, .int .i64 fl] w fun e w' => e = .returned (.bool v) ∧ Below w.heap.size w w' := may_as s f t now fl v h w
theorem good_at (s f t : Int) (w : World) :
    Calls Try.prog 25 #[.agg #[.int .i64 s, .int .i64 f, .int .i64 t]] w fun e w' => e = .returned (.agg #[.int .i64 0, .int .i64 0, .int .i64 0]) ∧ Below w.heap.size w w' := good_any s f t w
theorem held_as (a v : Int) (h : clampI a = v) (w : World) :
    Calls Try.prog 27 #[.int .i64 a] w fun e w' => e = .returned (.int .i64 v) ∧ w = w' := h ▸ held_any a w

set_option maxHeartbeats 1000000 in
theorem awake19 (w : World) : Calls Try.prog 21 #[] w fun e w' => e = .returned (.bool true) ∧ Below w.heap.size w w' := by
  go_enter Try.func21, Try.ntmps21
  go_wp2_with fail
  refine (fail_at _ _ _ _ _ _ 0 1 0 (by decide) (by decide) (by decide) _).mono ?_
  rintro e w1 ⟨rfl, hB1⟩
  have z1 := hB1.size
  go_wp2_with fail
  refine (fail_at _ _ _ _ _ _ 1 2 107 (by decide) (by decide) (by decide) _).mono ?_
  rintro e w2 ⟨rfl, hb2⟩
  have hB2 := (hB1.alloc z1 _).trans (hb2.mono (by simp; omega))
  have x2 := Lib.hid ((Box.new w1 _ _).later hb2)
  have z2 := hb2.size
  simp at z2
  clear hb2 hB1
  obtain ⟨l1, c1, f1⟩ := x2.out.facts
  go_wp2_with fail
  refine (send_at _ _ _ _ 2 (by decide) _).mono ?_
  rintro e w3 ⟨rfl, hb3⟩
  have hB3 := (hB2.alloc (by omega) _).trans (hb3.mono (by simp; omega))
  have x3 := Lib.hid ((x2.out.alloc _).later hb3)
  have y3 := Lib.hid ((Box.new w2 _ _).later hb3)
  have z3 := hb3.size
  simp at z3
  clear hb3 hB2 l1 c1 f1 x2
  have x4 := Lib.hid (x3.out.alloc (.cells #[.int .i64 2, .int .i64 2, .int .i64 107] 36))
  have y4 := Lib.hid (y3.out.alloc (.cells #[.int .i64 2, .int .i64 2, .int .i64 107] 36))
  have u4 := Lib.hid (Box.new w3 #[.int .i64 2, .int .i64 2, .int .i64 107] 36)
  obtain ⟨l1, c1, f1⟩ := x3.out.facts
  obtain ⟨l2, c2, f2⟩ := y3.out.facts
  go_wp2_with fail
  refine (may_at _ _ _ _ _ false (by decide) _).mono ?_
  rintro e w4 ⟨rfl, hb4⟩
  have hB4 := (hB3.alloc (by omega) _).trans (hb4.mono (by simp; omega))
  have x5 := Lib.hid (x4.out.later hb4)
  have y5 := Lib.hid (y4.out.later hb4)
  have u5 := Lib.hid (u4.out.later hb4)
  clear hb4 hB3 l1 c1 f1 l2 c2 f2 x3 y3 x4 y4 u4
  obtain ⟨l1, c1, f1⟩ := x5.out.facts
  obtain ⟨l2, c2, f2⟩ := y5.out.facts
  obtain ⟨l3, c3, f3⟩ := u5.out.facts
  go_wp2_with fail
  refine (may_at _ _ _ _ _ true (by decide) _).mono ?_
  rintro e w5 ⟨rfl, hb5⟩
  have hB5 := hB4.trans (hb5.mono hB4.size)
  have x6 := Lib.hid (x5.out.later hb5)
  have y6 := Lib.hid (y5.out.later hb5)
  have u6 := Lib.hid (u5.out.later hb5)
  clear hb5 hB4 l1 c1 f1 l2 c2 f2 l3 c3 f3 x5 y5 u5
  obtain ⟨l1, c1, f1⟩ := x6.out.facts
  obtain ⟨l2, c2, f2⟩ := y6.out.facts
  obtain ⟨l3, c3, f3⟩ := u6.out.facts
  go_wp2_with fail
  refine (may_at _ _ _ _ _ false (by decide) _).mono ?_
  rintro e w6 ⟨rfl, hb6⟩
  have hB6 := hB5.trans (hb6.mono hB5.size)
  have y7 := Lib.hid (y6.out.later hb6)
  have u7 := Lib.hid (u6.out.later hb6)
  clear hb6 hB5 l1 c1 f1 l2 c2 f2 l3 c3 f3 x6 y6 u6
  obtain ⟨l2, c2, f2⟩ := y7.out.facts
  obtain ⟨l3, c3, f3⟩ := u7.out.facts
  go_wp2_with fail
  refine (may_at _ _ _ _ _ false (by decide) _).mono ?_
  rintro e w7 ⟨rfl, hb7⟩
  have hB7 := hB6.trans (hb7.mono hB6.size)
  have u8 := Lib.hid (u7.out.later hb7)
  clear hb7 hB6 l2 c2 f2 l3 c3 f3 y7 u7
  obtain ⟨l3, c3, f3⟩ := u8.out.facts
  go_wp2_with fail
  refine (good_at _ _ _ _).mono ?_
  rintro e w8 ⟨rfl, hb8⟩
  have hB8 := hB7.trans (hb8.mono hB7.size)
  clear hb8 hB7 l3 c3 f3 u8
  go_wp2_with (go_at_call 27; refine (held_as _ 3 (by decide) _).mono ?_; rintro e w' ⟨rfl, rfl⟩)
  go_ret
  exact ⟨rfl, hB8⟩

theorem set3 (a b c x y z : Value) : ((((#[a, b, c] : Array Value).setIfInBounds 0 x).setIfInBounds 1 y).setIfInBounds 2 z) = #[x, y, z] := rfl

set_option maxHeartbeats 1000000 in
theorem breakerGood_walk (m : Int) (a : Option Addr) (len cap : Nat) (F : Nat → Bool) (w : World) (wm : (Lit.int .u8 m).wf = true) (hrow : IsBools w a len cap F) :
    Calls Try.prog 10 #[.int .u8 m, .slice a len cap] w fun e w' => e = .returned (.bool true) ∧ Below w.heap.size w w' := by
  obtain ⟨m0, m1⟩ := bounds_u8 wm
  clear wm
  obtain ⟨q0, q1⟩ : 0 ≤ m % 6 ∧ m % 6 < 6 := by omega
  obtain ⟨b, off, hlm, hcap, hc⟩ : ∃ b off, len ≤ 9223372036854775807 ∧ (0 < len → a = some ⟨b, off, none⟩) ∧ ∀ j, j < len → w.cell? ⟨b, off + j, none⟩ = some (.bool (F j)) := by
    rcases hrow with ⟨_, h0, _⟩ | ⟨x, rfl, hlc, hcm, hcell⟩
    · exact ⟨0, 0, by omega, by omega, by omega⟩
    · unfold maxLen at hcm
      by_cases h0 : 0 < cap
      · obtain ⟨b, off, rfl, hc⟩ := bools_at hcell h0
        exact ⟨b, off, by omega, fun _ => rfl, fun j hj => hc j (by omega)⟩
      · exact ⟨0, 0, by omega, by omega, by omega⟩
  have HC := Lib.hid hc
  have HA := Lib.hid hcap
  clear hrow hc hcap
  go_enter Try.func10, Try.ntmps10
  go_wp2
  go_loopw [7, 8] (fun r i wr => ∃ k row : Nat, k ≤ len ∧ k ≤ 80 ∧ row ≤ k ∧ i = .int .i64 k ∧ r = .int .i64 row ∧ Below w.heap.size w wr ∧
      ∃ s t : Int, Hid ((s = 1 ∧ m % 6 + 1 ≤ row) ∨ (s = 0 ∧ row < m % 6 + 1)) ∧ Hid (Box wr w.heap.size #[.int .i64 s, .int .i64 row, .int .i64 t] 36)) (fun _ i _ => len - (intOf i).toNat)
  case atStart => exact ⟨0, 0, by omega, by omega, by omega, rfl, rfl, (Below.refl _ _).alloc (Nat.le_refl _) _, 0, 0, Lib.hid (.inr ⟨rfl, by omega⟩), Lib.hid (Box.new _ _ _)⟩
  case round =>
    obtain ⟨k, row, hk, hk80, hrk, rfl, rfl, hB, s, t, HS, HX⟩ := hrel
    by_cases hlt : k < len
    · by_cases h80 : k < 80
      · have hd1 : decide ((k : Int) < len) = true := decide_eq_true (by omega)
        have ha := HA.out (by omega)
        subst ha
        obtain ⟨l1, c1, f1⟩ := HX.out.facts
        have hcell := HC.out k hlt
        have hcw : wr.cell? ⟨b, off + k, none⟩ = some (.bool (F k)) := (hB.cell (World.block_lt_of_cell? _ _ hcell)).trans hcell
        clear hcell
        cases hF : F k
        · rw [hF] at hcw
          clear hF HS
          have dm : decide (m % 6 + 1 ≤ 0) = false := decide_eq_false (by omega)
          go_wp2_with fail
          refine (good_at _ _ _ _).mono ?_
          rintro e w1 ⟨rfl, hb1⟩
          have x1 := HX.out.later hb1
          have hB1 := hB.trans (hb1.mono hB.size)
          have x2 := Lib.hid (((x1.set 0 (.int .i64 0)).set 1 (.int .i64 0)).set 2 (.int .i64 0))
          rw [set3] at x2
          clear l1 c1 f1 hb1 HX hcw
          obtain ⟨l1, c1, f1⟩ := x1.facts
          clear x1
          go_wp2
          go_roundw
          case rel => exact ⟨k + 1, 0, by omega, by omega, by omega, by go_num, rfl, ((hB1.setCell (Nat.le_refl _) _).setCell (Nat.le_refl _) _).setCell (Nat.le_refl _) _, 0, 0, Lib.hid (.inr ⟨rfl, by omega⟩), x2⟩
          case measure => simp [intOf]; omega
        · rw [hF] at hcw
          clear hF
          obtain ⟨t', ht'⟩ : ∃ t', failU s row t k (m % 6 + 1) 10 = t' := ⟨_, rfl⟩
          have HT := Lib.hid ht'
          clear ht'
          have HF := Lib.hid (show failF (row : Int) = (row : Int) + 1 by unfold failF; omega)
          have x2 := HX
          by_cases hop : m % 6 ≤ row
          · have HS1 := Lib.hid (show failS s row (m % 6 + 1) = 1 by unfold failS; rw [if_pos (.inr (by rw [HF.out]; omega))])
            have dm : decide (m % 6 + 1 ≤ (row : Int) + 1) = true := decide_eq_true (by omega)
            clear HS
            go_wp2_with fail
            refine (fail_at _ _ _ _ _ _ _ _ _ HS1.out HF.out HT.out _).mono ?_
            rintro e w1 ⟨rfl, hb1⟩
            have x1 := HX.out.later hb1
            have hB1 := hB.trans (hb1.mono hB.size)
            have x2 := Lib.hid (((x1.set 0 (.int .i64 1)).set 1 (.int .i64 ((row : Int) + 1))).set 2 (.int .i64 t'))
            rw [set3] at x2
            clear l1 c1 f1 hb1 HX hcw HT HF HS1
            obtain ⟨l1, c1, f1⟩ := x1.facts
            clear x1
            go_wp2
            go_roundw
            case rel => exact ⟨k + 1, row + 1, by omega, by omega, by omega, by go_num, by go_num, ((hB1.setCell (Nat.le_refl _) _).setCell (Nat.le_refl _) _).setCell (Nat.le_refl _) _, 1, t', Lib.hid (.inl ⟨rfl, by omega⟩), x2⟩
            case measure => simp [intOf]; omega
          · have HS1 := Lib.hid (show failS s row (m % 6 + 1) = 0 by
              have := HS.out
              unfold failS; rw [if_neg (by rw [HF.out]; omega)]; omega)
            have dm : decide (m % 6 + 1 ≤ (row : Int) + 1) = false := decide_eq_false (by omega)
            clear HS
            go_wp2_with fail
            refine (fail_at _ _ _ _ _ _ _ _ _ HS1.out HF.out HT.out _).mono ?_
            rintro e w1 ⟨rfl, hb1⟩
            have x1 := HX.out.later hb1
            have hB1 := hB.trans (hb1.mono hB.size)
            have x2 := Lib.hid (((x1.set 0 (.int .i64 0)).set 1 (.int .i64 ((row : Int) + 1))).set 2 (.int .i64 t'))
            rw [set3] at x2
            clear l1 c1 f1 hb1 HX hcw HT HF HS1
            obtain ⟨l1, c1, f1⟩ := x1.facts
            clear x1
            go_wp2
            go_roundw
            case rel => exact ⟨k + 1, row + 1, by omega, by omega, by omega, by go_num, by go_num, ((hB1.setCell (Nat.le_refl _) _).setCell (Nat.le_refl _) _).setCell (Nat.le_refl _) _, 0, t', Lib.hid (.inr ⟨rfl, by omega⟩), x2⟩
            case measure => simp [intOf]; omega
      · have hd1 : decide ((k : Int) < len) = true := decide_eq_true (by omega)
        have hd2 : decide ((k : Int) < 80) = false := decide_eq_false (by omega)
        go_wp2_with fail
        refine (awake19 _).mono ?_
        rintro e w1 ⟨rfl, hb1⟩
        go_wp2
        go_ret
        exact ⟨rfl, hB.trans (hb1.mono hB.size)⟩
    · have hd1 : decide ((k : Int) < len) = false := decide_eq_false (by omega)
      go_wp2_with fail
      refine (awake19 _).mono ?_
      rintro e w1 ⟨rfl, hb1⟩
      go_wp2
      go_ret
      exact ⟨rfl, hB.trans (hb1.mono hB.size)⟩

end Go.Proofs.Ytjclllmdaoapeab
