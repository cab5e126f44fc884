/- PolicyCalm, walked. -/
import Derived.Test.YtelakgbpfnlpiaaPolZ
import Derived.Test.YtelakgbpfnlpiaaLast
import Derived.Test.YtelakgbpfnlpiaaRow
import Derived.OpenShut
import Derived.IntWalk
namespace Go.Proofs.Ytelakgbpfnlpiaa
open Go.RowKit


theorem mostI_le (b m e : Int) (hm : 0 ≤ m) : 0 ≤ mostI b m e ∧ mostI b m e ≤ m := by unfold mostI; split <;> omega
theorem jitI_le (x d : Int) (h0 : 0 ≤ x) (h1 : x ≤ 9000) : 0 ≤ jitI x d ∧ jitI x d ≤ 9000 := by
  have e1 : max 0 (min x 1099511627776) = x := by omega
  unfold jitI
  rw [e1]
  obtain ⟨h, _, g1, g2⟩ := half_mul x (max 0 (min d 1000)) h0 (by omega) (by omega) (by omega)
  omega
theorem addI_in (a b : Int) (h : 0 ≤ a) (h1 : a ≤ 1000000000) (h2 : 0 ≤ b) (h3 : b ≤ 1000000000) : addI a b = a + b := by
  unfold addI
  rw [clampI_id (a := a) (by omega) (by omega), clampI_id (a := b) (by omega) (by omega), clampI_id (by omega) (by omega)]
theorem eligP_lo (c : Cfg) (p : Pol) (x : Int) (h1 : ¬ c.cap ≤ p.flying) (h2 : p.flying = 0) : 0 ≤ eligP c p x ∧ (0 ≤ p.last → x ≤ eligP c p x) := by
  unfold eligP
  rw [if_neg (by rintro (h | ⟨_, h⟩); exact h1 h; omega)]
  split <;> (split <;> (constructor <;> omega))
theorem eligP_hi (c : Cfg) (p : Pol) (x m : Int) (h1 : ¬ c.cap ≤ p.flying) (h2 : p.flying = 0) (h3 : p.retry ≤ m) (h4 : p.reset ≤ m) (h5 : p.till ≤ m) (h6 : 0 ≤ m) (h7 : 0 ≤ p.last → x ≤ m) : eligP c p x ≤ m := by
  unfold eligP
  rw [if_neg (by rintro (h | ⟨_, h⟩); exact h1 h; omega)]
  split <;> (split <;> omega)
set_option maxRecDepth 100000 in
set_option maxHeartbeats 40000000 in
theorem policyCalm_walk (fl fs dl dr : Int) (w : World) (wf : (Lit.int .u8 fl).wf = true) (ws : (Lit.int .u8 fs).wf = true) (wd : (Lit.int .u16 dl).wf = true) (_ : (Lit.int .i64 dr).wf = true) : Calls Try.prog 8 #[.int .u8 fl, .int .u8 fs, .int .u16 dl, .int .i64 dr] w fun e w' => e = .returned (.bool true) ∧ Below w.heap.size w w' := by
  obtain ⟨f0, f1⟩ := bounds_u8 wf
  obtain ⟨s0, s1⟩ := bounds_u8 ws
  obtain ⟨d0, d1⟩ := bounds_u16 wd
  clear wf ws wd
  have r0 : 0 ≤ fs % 30 ∧ fs % 30 < 30 := by omega
  obtain ⟨r0, r1⟩ := r0
  obtain ⟨D, hD⟩ : ∃ D, D = max fl dl := ⟨_, rfl⟩
  have D0 : fl ≤ D := by omega
  have D1 : dl ≤ D := by omega
  have D2 : D ≤ 65535 := by omega
  have HDm := Lib.hid hD
  have HZ : Hid (max fl 0 = fl) := Lib.hid (by omega)
  have HK : Hid (addI 0 99 = 99) := Lib.hid (by decide)
  have HD : Hid (least3 fl dl = D) := Lib.hid (by unfold least3; omega)
  have HG : Hid (max fl D = D) := Lib.hid (by omega)
  clear hD
  go_enter Try.func8, Try.ntmps8
  go_upto_region 2 with fail
  refine code_forget (fun w' => Below w.heap.size w w' ∧ Box w' (w.heap.size) #[.int .i64 0, .int .i64 0, .int .i64 0, .int .i64 0, .int .i64 fl, .int .i64 1, .int .i64 10, .int .i64 9000, .int .i64 4, .int .i64 700, .int .i64 0, .int .i64 0, .int .i64 99, .string ByteArray.empty] 23) ⟨(Below.refl _ _).alloc (Nat.le_refl _) _, Box.new _ _ _⟩ ?_
  rintro wz ⟨B, b0⟩
  go_cut [10] (fun s10 w' => ∃ g : Nat, s10 = .pointer (some ⟨g, 0, none⟩) ∧ w.heap.size < g ∧ Below w.heap.size w w' ∧ Box w' (w.heap.size) #[.int .i64 0, .int .i64 0, .int .i64 0, .int .i64 0, .int .i64 fl, .int .i64 1, .int .i64 10, .int .i64 9000, .int .i64 4, .int .i64 700, .int .i64 0, .int .i64 0, .int .i64 99, .string ByteArray.empty] 23 ∧ Box w' g #[.int .i64 (-1), .int .i64 D, .int .i64 0, .int .i64 0, .int .i64 0, .int .i64 0, .int .i64 0, .int .i64 0, .int .i64 0, .int .i64 99, .bool false, .bool false, .slice none 0 0, .int .i64 dl] 28)
  case first =>
    have wdl : IntKind.i64.wrap dl = dl := IntWalk.i64_in _ (by omega)
    refine wp_region_last 9 (fun w' => Below w.heap.size w w' ∧ Box w' (w.heap.size) #[.int .i64 0, .int .i64 0, .int .i64 0, .int .i64 0, .int .i64 fl, .int .i64 1, .int .i64 10, .int .i64 9000, .int .i64 4, .int .i64 700, .int .i64 0, .int .i64 0, .int .i64 99, .string ByteArray.empty] 23) (by kernel_rfl) (⟨B.drew, b0.drew⟩) (fun hHeld hClosed => ?_)
    refine wpAnyL_take (i := 0) (v := (.agg #[.int .i64 0, .int .i64 0, .int .i64 0, .int .i64 0, .int .i64 fl, .int .i64 1, .int .i64 10, .int .i64 9000, .int .i64 4, .int .i64 700, .int .i64 0, .int .i64 0, .int .i64 99, .string ByteArray.empty])) rfl (by kernel_rfl) (by kernel_rfl) (by kernel_rfl) (by kernel_rfl) (fun _ _ _ h => h) (by kernel_rfl) hClosed (Or.inl ⟨by rfl, ?_⟩) hHeld (fun hClosed => ?_)
    · intro wv hSw; exact exec_load_box (by rfl) (by rfl) hSw.2 Try.underlying23 rfl (by kernel_rfl)
    (try simp only [List.getElem_toArray, List.getElem_cons_zero, put_at, List.set])
    refine wpAnyL_take (i := 1) (v := ?_) rfl (by kernel_rfl) (by kernel_rfl) (by kernel_rfl) (by kernel_rfl) (fun _ _ _ h => h) (by kernel_rfl) hClosed (Or.inl ⟨by rfl, ?_⟩) hHeld (fun hClosed => ?_)
    rotate_left
    · intro wv hSw; go_simp; all_goals (with_reducible rfl)
    (try simp only [List.getElem_toArray, List.getElem_cons_succ, List.getElem_cons_zero, put_at, List.set])
    refine wpAnyL_take (i := 2) (v := ?_) rfl (by kernel_rfl) (by kernel_rfl) (by kernel_rfl) (by kernel_rfl) (fun _ _ _ h => h) (by kernel_rfl) hClosed (Or.inl ⟨by rfl, ?_⟩) hHeld (fun hClosed => ?_)
    rotate_left
    · intro wv hSw; obtain ⟨_, q0⟩ := hSw; have c0 := q0.cell; go_simp; all_goals (with_reducible rfl)
    (try simp only [List.getElem_toArray, List.getElem_cons_succ, List.getElem_cons_zero, put_at, List.set])
    refine wpAnyL_take (i := 4) (v := ?_) rfl (by kernel_rfl) (by kernel_rfl) (by kernel_rfl) (by kernel_rfl) (fun _ _ _ h => h) (by kernel_rfl) hClosed (Or.inl ⟨by rfl, ?_⟩) hHeld (fun hClosed => ?_)
    rotate_left
    · intro wv hSw; go_simp; all_goals (with_reducible rfl)
    (try simp only [List.getElem_toArray, List.getElem_cons_succ, List.getElem_cons_zero, put_at, List.set])
    refine wpAnyL_take (i := 5) (v := ?_) rfl (by kernel_rfl) (by kernel_rfl) (by kernel_rfl) (by kernel_rfl) (fun _ _ _ h => h) (by kernel_rfl) hClosed (Or.inl ⟨by rfl, ?_⟩) hHeld (fun hClosed => ?_)
    rotate_left
    · intro wv hSw; go_simp; all_goals (with_reducible rfl)
    (try simp only [List.getElem_toArray, List.getElem_cons_succ, List.getElem_cons_zero, put_at, List.set])
    refine wpAnyL_take (i := 6) (v := ?_) rfl (by kernel_rfl) (by kernel_rfl) (by kernel_rfl) (by kernel_rfl) (fun _ _ _ h => h) (by kernel_rfl) hClosed (Or.inl ⟨by rfl, ?_⟩) hHeld (fun hClosed => ?_)
    rotate_left
    · intro wv hSw; go_simp; all_goals (with_reducible rfl)
    (try simp only [List.getElem_toArray, List.getElem_cons_succ, List.getElem_cons_zero, put_at, List.set])
    refine wpAnyL_two (i := 3) (j := 8) rfl rfl (by kernel_rfl) (by kernel_rfl) (by kernel_rfl) hClosed (fun KK hK => ?_) (fun KK hK => ?_)
    · go_simp
      refine (new_as fl 0 fl HZ.out _).mono ?_
      rintro e w' ⟨rfl, hb⟩
      go_wp2_with fail
      refine hK.out _ _ ?_ (fun hClosed hHeld => ?_)
      · exact ⟨hHeld.1.trans (hb.mono hHeld.1.size), hHeld.2.later hb⟩
      clear hK KK
      (first | simp only [List.getElem_toArray, List.getElem_cons_succ, List.getElem_cons_zero, put_at, List.set] | (try simp only [put_at, List.set]))
      refine wpAnyL_two (i := 7) (j := 8) rfl rfl (by kernel_rfl) (by kernel_rfl) (by kernel_rfl) hClosed (fun KK hK => ?_) (fun KK hK => ?_)
      · go_simp
        refine (plearn_at ⟨0, 0, 0, 0, fl, 1, 10, 9000, 4, 700, 0, 0, 99, ByteArray.empty⟩ ⟨-1, fl, 0, 0, 0, 0, 0, 0, 0, 0, false, false, none, 0, 0, 0⟩ ⟨false, false, none, 0, 0, dl⟩ 0 99 D D HK.out HD.out HG.out _).mono ?_
        rintro e w' ⟨rfl, hb⟩
        go_wp2_with fail
        refine hK.out _ _ ?_ (fun hClosed hHeld => ?_)
        · exact ⟨hHeld.1.trans (hb.mono hHeld.1.size), hHeld.2.later hb⟩
        clear hK KK
        (first | simp only [List.getElem_toArray, List.getElem_cons_succ, List.getElem_cons_zero, put_at, List.set] | (try simp only [put_at, List.set]))
        refine wpAnyL_one (i := 8) rfl (by kernel_rfl) (by kernel_rfl) hClosed (fun KK hK => ?_)
        have hHeld0 := hHeld
        go_simp
        refine hK.out _ _ ?_ (fun hClosed hHeld => ?_)
        · exact ⟨hHeld.1.alloc hHeld.1.size _, hHeld.2.alloc _⟩
        clear hK KK
        (first | simp only [List.getElem_toArray, List.getElem_cons_succ, List.getElem_cons_zero, put_at, List.set] | (try simp only [put_at, List.set]))
        refine last_forget (fun wq => (Below w.heap.size w wq ∧ Box wq (w.heap.size) #[.int .i64 0, .int .i64 0, .int .i64 0, .int .i64 0, .int .i64 fl, .int .i64 1, .int .i64 10, .int .i64 9000, .int .i64 4, .int .i64 700, .int .i64 0, .int .i64 0, .int .i64 99, .string ByteArray.empty] 23) ∧ Box wq w'.heap.size #[.int .i64 0, .int .i64 0, .int .i64 0, .int .i64 0, .int .i64 0, .int .i64 0, .int .i64 0, .int .i64 0, .int .i64 0, .int .i64 0, .bool false, .bool false, .slice .none 0 0, .int .i64 0] 28) ⟨hHeld, Box.new _ _ _⟩ ?_
        have hgw : w.heap.size < w'.heap.size := hHeld0.2.lt
        generalize w'.heap.size = g at hgw ⊢
        rintro w' ⟨hHeld, bg⟩
        refine wpAnyL_last rfl (by kernel_rfl) (by kernel_rfl) (fun KK hK => ?_)
        obtain ⟨l1, c1, f1⟩ := bg.facts
        go_simp
        refine hK.out _ _ ?_
        (try simp only [put_at, List.set])
        clear wdl
        go_wp2_with fail
        go_meet
        exact ⟨g, rfl, hgw, below14 hHeld.1 (by omega) _ _ _ _ _ _ _ _ _ _ _ _ _ _, hHeld.2.other14 (by omega) _ _ _ _ _ _ _ _ _ _ _ _ _ _, bg.set14 _ _ _ _ _ _ _ _ _ _ _ _ _ _⟩
      · have hHeld0 := hHeld
        go_simp
        refine hK.out _ _ ?_ (fun hClosed hHeld => ?_)
        · exact ⟨hHeld.1.alloc hHeld.1.size _, hHeld.2.alloc _⟩
        clear hK KK
        (first | simp only [List.getElem_toArray, List.getElem_cons_succ, List.getElem_cons_zero, put_at, List.set] | (try simp only [put_at, List.set]))
        refine last_forget (fun wq => (Below w.heap.size w wq ∧ Box wq (w.heap.size) #[.int .i64 0, .int .i64 0, .int .i64 0, .int .i64 0, .int .i64 fl, .int .i64 1, .int .i64 10, .int .i64 9000, .int .i64 4, .int .i64 700, .int .i64 0, .int .i64 0, .int .i64 99, .string ByteArray.empty] 23) ∧ Box wq w'.heap.size #[.int .i64 0, .int .i64 0, .int .i64 0, .int .i64 0, .int .i64 0, .int .i64 0, .int .i64 0, .int .i64 0, .int .i64 0, .int .i64 0, .bool false, .bool false, .slice .none 0 0, .int .i64 0] 28) ⟨hHeld, Box.new _ _ _⟩ ?_
        have hgw : w.heap.size < w'.heap.size := hHeld0.2.lt
        generalize w'.heap.size = g at hgw ⊢
        rintro w' ⟨hHeld, bg⟩
        refine wpAnyL_one (i := 7) rfl (by kernel_rfl) (by kernel_rfl) hClosed (fun KK hK => ?_)
        go_simp
        refine (plearn_at ⟨0, 0, 0, 0, fl, 1, 10, 9000, 4, 700, 0, 0, 99, ByteArray.empty⟩ ⟨-1, fl, 0, 0, 0, 0, 0, 0, 0, 0, false, false, none, 0, 0, 0⟩ ⟨false, false, none, 0, 0, dl⟩ 0 99 D D HK.out HD.out HG.out _).mono ?_
        rintro e w' ⟨rfl, hb⟩
        have bg := bg.later hb
        go_wp2_with fail
        refine hK.out _ _ ?_ (fun hClosed hHeld => ?_)
        · exact ⟨hHeld.1.trans (hb.mono hHeld.1.size), hHeld.2.later hb⟩
        clear hK KK
        (first | simp only [List.getElem_toArray, List.getElem_cons_succ, List.getElem_cons_zero, put_at, List.set] | (try simp only [put_at, List.set]))
        refine wpAnyL_last rfl (by kernel_rfl) (by kernel_rfl) (fun KK hK => ?_)
        obtain ⟨l1, c1, f1⟩ := bg.facts
        go_simp
        refine hK.out _ _ ?_
        (try simp only [put_at, List.set])
        clear wdl
        go_wp2_with fail
        go_meet
        exact ⟨g, rfl, hgw, below14 hHeld.1 (by omega) _ _ _ _ _ _ _ _ _ _ _ _ _ _, hHeld.2.other14 (by omega) _ _ _ _ _ _ _ _ _ _ _ _ _ _, bg.set14 _ _ _ _ _ _ _ _ _ _ _ _ _ _⟩
    · have hHeld0 := hHeld
      go_simp
      refine hK.out _ _ ?_ (fun hClosed hHeld => ?_)
      · exact ⟨hHeld.1.alloc hHeld.1.size _, hHeld.2.alloc _⟩
      clear hK KK
      (first | simp only [List.getElem_toArray, List.getElem_cons_succ, List.getElem_cons_zero, put_at, List.set] | (try simp only [put_at, List.set]))
      refine last_forget (fun wq => (Below w.heap.size w wq ∧ Box wq (w.heap.size) #[.int .i64 0, .int .i64 0, .int .i64 0, .int .i64 0, .int .i64 fl, .int .i64 1, .int .i64 10, .int .i64 9000, .int .i64 4, .int .i64 700, .int .i64 0, .int .i64 0, .int .i64 99, .string ByteArray.empty] 23) ∧ Box wq wz.heap.size #[.int .i64 0, .int .i64 0, .int .i64 0, .int .i64 0, .int .i64 0, .int .i64 0, .int .i64 0, .int .i64 0, .int .i64 0, .int .i64 0, .bool false, .bool false, .slice .none 0 0, .int .i64 0] 28) ⟨hHeld, Box.new _ _ _⟩ ?_
      have hgw : w.heap.size < wz.heap.size := hHeld0.2.lt
      generalize wz.heap.size = g at hgw ⊢
      rintro w' ⟨hHeld, bg⟩
      refine wpAnyL_one (i := 3) rfl (by kernel_rfl) (by kernel_rfl) hClosed (fun KK hK => ?_)
      go_simp
      refine (new_as fl 0 fl HZ.out _).mono ?_
      rintro e w' ⟨rfl, hb⟩
      have bg := bg.later hb
      go_wp2_with fail
      refine hK.out _ _ ?_ (fun hClosed hHeld => ?_)
      · exact ⟨hHeld.1.trans (hb.mono hHeld.1.size), hHeld.2.later hb⟩
      clear hK KK
      (first | simp only [List.getElem_toArray, List.getElem_cons_succ, List.getElem_cons_zero, put_at, List.set] | (try simp only [put_at, List.set]))
      refine wpAnyL_one (i := 7) rfl (by kernel_rfl) (by kernel_rfl) hClosed (fun KK hK => ?_)
      go_simp
      refine (plearn_at ⟨0, 0, 0, 0, fl, 1, 10, 9000, 4, 700, 0, 0, 99, ByteArray.empty⟩ ⟨-1, fl, 0, 0, 0, 0, 0, 0, 0, 0, false, false, none, 0, 0, 0⟩ ⟨false, false, none, 0, 0, dl⟩ 0 99 D D HK.out HD.out HG.out _).mono ?_
      rintro e w' ⟨rfl, hb⟩
      have bg := bg.later hb
      go_wp2_with fail
      refine hK.out _ _ ?_ (fun hClosed hHeld => ?_)
      · exact ⟨hHeld.1.trans (hb.mono hHeld.1.size), hHeld.2.later hb⟩
      clear hK KK
      (first | simp only [List.getElem_toArray, List.getElem_cons_succ, List.getElem_cons_zero, put_at, List.set] | (try simp only [put_at, List.set]))
      refine wpAnyL_last rfl (by kernel_rfl) (by kernel_rfl) (fun KK hK => ?_)
      obtain ⟨l1, c1, f1⟩ := bg.facts
      go_simp
      refine hK.out _ _ ?_
      (try simp only [put_at, List.set])
      clear wdl
      go_wp2_with fail
      go_meet
      exact ⟨g, rfl, hgw, below14 hHeld.1 (by omega) _ _ _ _ _ _ _ _ _ _ _ _ _ _, hHeld.2.other14 (by omega) _ _ _ _ _ _ _ _ _ _ _ _ _ _, bg.set14 _ _ _ _ _ _ _ _ _ _ _ _ _ _⟩
  case rest =>
    obtain ⟨g, rfl, hg, B1, b1, bq1⟩ := hcut
    clear B b0
    go_wp2_with fail
    go_loopw [11, 12, 13] (fun s11 s12 s13 w' => ∃ (k : Nat) (now la ga ex fa st ti : Int), (k : Int) ≤ fs % 30 ∧ s12 = .int .i64 k ∧ s11 = .int .i64 now ∧ 0 ≤ now ∧ now ≤ 100000 * (k : Int) ∧ -1 ≤ la ∧ la ≤ now ∧ fl ≤ ga ∧ dl ≤ ga ∧ ga ≤ 100000 ∧ 0 ≤ ti ∧ ti ≤ now + 800 ∧ Hid (Below w.heap.size w w' ∧ Box w' (w.heap.size) #[.int .i64 0, .int .i64 0, .int .i64 0, .int .i64 0, .int .i64 fl, .int .i64 1, .int .i64 10, .int .i64 9000, .int .i64 4, .int .i64 700, .int .i64 0, .int .i64 0, .int .i64 99, .string ByteArray.empty] 23 ∧ Box w' g #[.int .i64 la, .int .i64 ga, .int .i64 ex, .int .i64 fa, .int .i64 st, .int .i64 ti, .int .i64 0, .int .i64 0, .int .i64 0, .int .i64 99, .bool false, .bool false, .slice none 0 0, .int .i64 dl] 28)) (fun _ s12 _ _ => 30 - (intOf s12).toNat)
    case atStart => exact ⟨0, 0, -1, D, 0, 0, 0, 0, by omega, rfl, rfl, by omega, by omega, by omega, by omega, by omega, by omega, by omega, by omega, by omega, Lib.hid ⟨B1, b1, bq1⟩⟩
    case round =>
      obtain ⟨k, now, la, ga, ex, fa, st, ti, hk, rfl, rfl, i1, i2, i3, i4, i5, i6, i7, i8, i9, HB⟩ := hrel
      clear B1 b1 bq1
      obtain ⟨B, b0, bq⟩ := HB.out
      clear HB
      by_cases hlt : (k : Int) < fs % 30
      · have hd : decide ((k : Int) < fs % 30) = true := decide_eq_true hlt
        obtain ⟨v1, hV1⟩ : ∃ x, eligP ⟨0, 0, 0, 0, fl, 1, 10, 9000, 4, 700, 0, 0, 99, ByteArray.empty⟩ ⟨la, ga, ex, fa, st, ti, 0, 0, 0, 99, false, false, none, 0, 0, dl⟩ (addI la ga) = x := ⟨_, rfl⟩
        have hga : la < 0 ∨ addI la ga = la + ga := by
          by_cases h : 0 ≤ la
          · exact Or.inr (addI_in la ga h (by omega) (by omega) (by omega))
          · exact Or.inl (by omega)
        have v1a : 0 ≤ v1 := by rw [← hV1]; exact (eligP_lo ⟨0, 0, 0, 0, fl, 1, 10, 9000, 4, 700, 0, 0, 99, ByteArray.empty⟩ ⟨la, ga, ex, fa, st, ti, 0, 0, 0, 99, false, false, none, 0, 0, dl⟩ (addI la ga) (by simp) rfl).1
        have v1b : v1 ≤ now + 100000 := by rw [← hV1]; exact eligP_hi ⟨0, 0, 0, 0, fl, 1, 10, 9000, 4, 700, 0, 0, 99, ByteArray.empty⟩ ⟨la, ga, ex, fa, st, ti, 0, 0, 0, 99, false, false, none, 0, 0, dl⟩ (addI la ga) _ (by simp) rfl (by show (0 : Int) ≤ _; omega) (by show (0 : Int) ≤ _; omega) (by show ti ≤ _; omega) (by omega) (fun h => by have h : 0 ≤ la := h; omega)
        have HV1 := Lib.hid hV1
        clear hV1 hga
        obtain ⟨n1, hn1⟩ : ∃ x, max v1 now = x := ⟨_, rfl⟩
        have n1a : now ≤ n1 := by omega
        have n1b : n1 ≤ now + 100000 := by omega
        have HN1 := Lib.hid hn1
        clear hn1
        obtain ⟨l0, c0, f0⟩ := b0.facts
        obtain ⟨l1, c1, f1⟩ := bq.facts
        go_wp2_with fail
        refine (elig_as ⟨0, 0, 0, 0, fl, 1, 10, 9000, 4, 700, 0, 0, 99, ByteArray.empty⟩ ⟨la, ga, ex, fa, st, ti, 0, 0, 0, 99, false, false, none, 0, 0, dl⟩ v1 HV1.out _).mono ?_
        rintro e w9 ⟨rfl, hb⟩
        clear l0 c0 f0 l1 c1 f1
        have B' := B.trans (hb.mono B.size)
        clear B
        have B := B'
        clear B'
        have d0 := b0.later hb
        have d1 := bq.later hb
        clear b0 bq hb
        have b0 := d0
        have bq := d1
        clear d0 d1
        go_upto_if 38 with fail
        go_cut [13] (fun s13 w' => s13 = .int .i64 n1 ∧ Below w.heap.size w w' ∧ Box w' (w.heap.size) #[.int .i64 0, .int .i64 0, .int .i64 0, .int .i64 0, .int .i64 fl, .int .i64 1, .int .i64 10, .int .i64 9000, .int .i64 4, .int .i64 700, .int .i64 0, .int .i64 0, .int .i64 99, .string ByteArray.empty] 23 ∧ Box w' g #[.int .i64 la, .int .i64 ga, .int .i64 ex, .int .i64 fa, .int .i64 st, .int .i64 ti, .int .i64 0, .int .i64 0, .int .i64 0, .int .i64 99, .bool false, .bool false, .slice none 0 0, .int .i64 dl] 28)
        case first =>
          by_cases hc : v1 < now
          · have dc : decide (v1 < now) = true := decide_eq_true hc
            have HE : Hid (n1 = now) := Lib.hid (by have := HN1.out; omega)
            go_wp2_with fail
            go_meet
            rw [HE.out]
            exact ⟨rfl, B, b0, bq⟩
          · have dc : decide (v1 < now) = false := decide_eq_false hc
            have HE : Hid (n1 = v1) := Lib.hid (by have := HN1.out; omega)
            go_wp2_with fail
            go_meet
            rw [HE.out]
            exact ⟨rfl, B, b0, bq⟩
        case rest =>
          obtain ⟨rfl, B2, b2, bq2⟩ := hcut
          clear B b0 bq HV1 v1a v1b HN1
          have B := B2
          have b0 := b2
          have bq := bq2
          clear B2 b2 bq2
          obtain ⟨l0, c0, f0⟩ := b0.facts
          obtain ⟨l1, c1, f1⟩ := bq.facts
          obtain ⟨S1, hS1⟩ : ∃ x, sendS st ti n1 = x := ⟨_, rfl⟩
          have HS1 := Lib.hid hS1
          clear hS1
          go_wp2_with fail
          refine (psend_as ⟨0, 0, 0, 0, fl, 1, 10, 9000, 4, 700, 0, 0, 99, ByteArray.empty⟩ ⟨la, ga, ex, fa, st, ti, 0, 0, 0, 99, false, false, none, 0, 0, dl⟩ n1 S1 1 (by simp) (by simp) HS1.out (by simp) _).mono ?_
          rintro e w9 ⟨rfl, hb⟩
          clear l0 c0 f0 l1 c1 f1
          have B' := B.trans (hb.mono B.size)
          clear B
          have B := B'
          clear B'
          have d0 := b0.later hb
          have d1 := bq.later hb
          clear b0 bq hb
          have b0 := d0
          have bq := d1
          clear d0 d1
          obtain ⟨l0, c0, f0⟩ := b0.facts
          obtain ⟨l1, c1, f1⟩ := bq.facts
          go_wp2_with fail
          clear l0 c0 f0 l1 c1 f1
          refine calls_forget (fun w' => Below w.heap.size w w' ∧ Box w' (w.heap.size) #[.int .i64 0, .int .i64 0, .int .i64 0, .int .i64 0, .int .i64 fl, .int .i64 1, .int .i64 10, .int .i64 9000, .int .i64 4, .int .i64 700, .int .i64 0, .int .i64 0, .int .i64 99, .string ByteArray.empty] 23 ∧ Box w' g #[.int .i64 n1, .int .i64 ga, .int .i64 ex, .int .i64 fa, .int .i64 S1, .int .i64 ti, .int .i64 0, .int .i64 0, .int .i64 1, .int .i64 99, .bool false, .bool false, .slice none 0 0, .int .i64 dl] 28) ⟨below14 B (by omega) _ _ _ _ _ _ _ _ _ _ _ _ _ _, b0.other14 (by omega) _ _ _ _ _ _ _ _ _ _ _ _ _ _, bq.set14 _ _ _ _ _ _ _ _ _ _ _ _ _ _⟩ ?_
          clear B b0 bq
          rintro wv ⟨B, b0, bq⟩
          refine (elig_as ⟨0, 0, 0, 0, fl, 1, 10, 9000, 4, 700, 0, 0, 99, ByteArray.empty⟩ ⟨n1, ga, ex, fa, S1, ti, 0, 0, 1, 99, false, false, none, 0, 0, dl⟩ 4611686018427387903 (by unfold eligP; rw [if_pos (Or.inl (by simp))]) _).mono ?_
          rintro e w9 ⟨rfl, hb⟩
          have B' := B.trans (hb.mono B.size)
          clear B
          have B := B'
          clear B'
          have d0 := b0.later hb
          have d1 := bq.later hb
          clear b0 bq hb
          have b0 := d0
          have bq := d1
          clear d0 d1
          obtain ⟨l0, c0, f0⟩ := b0.facts
          obtain ⟨l1, c1, f1⟩ := bq.facts
          obtain ⟨S2, hS2⟩ : ∃ x, failS S1 fa 4 = x := ⟨_, rfl⟩
          obtain ⟨F2, hF2⟩ : ∃ x, failF fa = x := ⟨_, rfl⟩
          obtain ⟨T2, hT2⟩ : ∃ x, failU S1 fa ti (n1 + 1) 4 700 = x := ⟨_, rfl⟩
          obtain ⟨E2, hE2⟩ : ∃ x, upI ex = x := ⟨_, rfl⟩
          obtain ⟨M2, hM2⟩ : ∃ x, mostI 10 9000 E2 = x := ⟨_, rfl⟩
          obtain ⟨J2, hJ2⟩ : ∃ x, jitI M2 dr = x := ⟨_, rfl⟩
          obtain ⟨G2, hG2⟩ : ∃ x, max D J2 = x := ⟨_, rfl⟩
          have m0 := mostI_le 10 9000 E2 (by omega)
          rw [hM2] at m0
          have j0 := jitI_le M2 dr m0.1 m0.2
          rw [hJ2] at j0
          have g0 : D ≤ G2 := by omega
          have g1 : G2 ≤ 65535 := by omega
          have t0 : 0 ≤ T2 ∧ T2 ≤ n1 + 800 := by rw [← hT2]; unfold failU failT; rw [addI_in (n1 + 1) 700 (by omega) (by omega) (by omega) (by omega)]; split <;> omega
          obtain ⟨t0, t1⟩ := t0
          clear m0 j0
          have HS2 := Lib.hid hS2
          have HF2 := Lib.hid hF2
          have HT2 := Lib.hid hT2
          have HE2 := Lib.hid hE2
          have HM2 := Lib.hid hM2
          have HJ2 := Lib.hid hJ2
          have HG2 := Lib.hid hG2
          clear hS2 hF2 hT2 hE2 hM2 hJ2 hG2
          go_wp2_with fail
          refine (plost_at ⟨0, 0, 0, 0, fl, 1, 10, 9000, 4, 700, 0, 0, 99, ByteArray.empty⟩ ⟨n1, ga, ex, fa, S1, ti, 0, 0, 1, 99, false, false, none, 0, 0, dl⟩ (n1 + 1) dr S2 F2 T2 E2 M2 J2 D 0 G2 (by simp) (by simp) HS2.out HF2.out HT2.out HE2.out HM2.out HJ2.out HD.out HG2.out _).mono ?_
          rintro e w9 ⟨rfl, hb⟩
          clear l0 c0 f0 l1 c1 f1
          have B' := B.trans (hb.mono B.size)
          clear B
          have B := B'
          clear B'
          have d0 := b0.later hb
          have d1 := bq.later hb
          clear b0 bq hb
          have b0 := d0
          have bq := d1
          clear d0 d1
          obtain ⟨l0, c0, f0⟩ := b0.facts
          obtain ⟨l1, c1, f1⟩ := bq.facts
          go_upto_region 15 with fail
          clear l0 c0 f0 l1 c1 f1
          refine code_forget (fun w' => Below w.heap.size w w' ∧ Box w' (w.heap.size) #[.int .i64 0, .int .i64 0, .int .i64 0, .int .i64 0, .int .i64 fl, .int .i64 1, .int .i64 10, .int .i64 9000, .int .i64 4, .int .i64 700, .int .i64 0, .int .i64 0, .int .i64 99, .string ByteArray.empty] 23 ∧ Box w' g #[.int .i64 n1, .int .i64 G2, .int .i64 E2, .int .i64 F2, .int .i64 S2, .int .i64 T2, .int .i64 0, .int .i64 0, .int .i64 0, .int .i64 99, .bool false, .bool false, .slice none 0 0, .int .i64 dl] 28) ⟨below14 B (by omega) _ _ _ _ _ _ _ _ _ _ _ _ _ _, b0.other14 (by omega) _ _ _ _ _ _ _ _ _ _ _ _ _ _, bq.set14 _ _ _ _ _ _ _ _ _ _ _ _ _ _⟩ ?_
          clear B b0 bq
          rintro wv ⟨B, b0, bq⟩
          as_aux_lemma =>
            obtain ⟨v3, hV3⟩ : ∃ x, eligP ⟨0, 0, 0, 0, fl, 1, 10, 9000, 4, 700, 0, 0, 99, ByteArray.empty⟩ ⟨n1, G2, E2, F2, S2, T2, 0, 0, 0, 99, false, false, none, 0, 0, dl⟩ (addI n1 G2) = x := ⟨_, rfl⟩
            have a3 : addI n1 G2 = n1 + G2 := addI_in _ _ (by omega) (by omega) (by omega) (by omega)
            have v3a : n1 + G2 ≤ v3 := by rw [← hV3, a3]; exact (eligP_lo ⟨0, 0, 0, 0, fl, 1, 10, 9000, 4, 700, 0, 0, 99, ByteArray.empty⟩ ⟨n1, G2, E2, F2, S2, T2, 0, 0, 0, 99, false, false, none, 0, 0, dl⟩ _ (by simp) rfl).2 (by show (0 : Int) ≤ n1; omega)
            have d3 : decide (v3 < n1 + fl) = false := decide_eq_false (by omega)
            have d4 : decide (v3 < n1 + dl) = false := decide_eq_false (by omega)
            have HV3 := Lib.hid hV3
            clear hV3 a3
            have wdl : IntKind.i64.wrap dl = dl := IntWalk.i64_in _ (by omega)
            have wn1 : IntKind.i64.wrap (n1 + fl) = n1 + fl := IntWalk.i64_in _ (by omega)
            have wn2 : IntKind.i64.wrap (n1 + dl) = n1 + dl := IntWalk.i64_in _ (by omega)
            refine wp_region_last 17 (fun w' => Below w.heap.size w w' ∧ Box w' (w.heap.size) #[.int .i64 0, .int .i64 0, .int .i64 0, .int .i64 0, .int .i64 fl, .int .i64 1, .int .i64 10, .int .i64 9000, .int .i64 4, .int .i64 700, .int .i64 0, .int .i64 0, .int .i64 99, .string ByteArray.empty] 23 ∧ Box w' g #[.int .i64 n1, .int .i64 G2, .int .i64 E2, .int .i64 F2, .int .i64 S2, .int .i64 T2, .int .i64 0, .int .i64 0, .int .i64 0, .int .i64 99, .bool false, .bool false, .slice none 0 0, .int .i64 dl] 28) (by kernel_rfl) (⟨B.drew, b0.drew, bq.drew⟩) (fun hHeld hClosed => ?_)
            clear B b0 bq
            refine wpAnyL_take (i := 0) (v := (.agg #[.int .i64 0, .int .i64 0, .int .i64 0, .int .i64 0, .int .i64 fl, .int .i64 1, .int .i64 10, .int .i64 9000, .int .i64 4, .int .i64 700, .int .i64 0, .int .i64 0, .int .i64 99, .string ByteArray.empty])) rfl (by kernel_rfl) (by kernel_rfl) (by kernel_rfl) (by kernel_rfl) (fun _ _ _ h => h) (by kernel_rfl) hClosed (Or.inl ⟨by rfl, ?_⟩) hHeld (fun hClosed => ?_)
            · intro wv hSw; exact exec_load_box (by rfl) (by rfl) hSw.2.1 Try.underlying23 rfl (by kernel_rfl)
            (try simp only [List.getElem_toArray, List.getElem_cons_zero, put_at, List.set])
            refine wpAnyL_take (i := 1) (v := (.agg #[.int .i64 n1, .int .i64 G2, .int .i64 E2, .int .i64 F2, .int .i64 S2, .int .i64 T2, .int .i64 0, .int .i64 0, .int .i64 0, .int .i64 99, .bool false, .bool false, .slice none 0 0, .int .i64 dl])) rfl (by kernel_rfl) (by kernel_rfl) (by kernel_rfl) (by kernel_rfl) (fun _ _ _ h => h) (by kernel_rfl) hClosed (Or.inl ⟨by rfl, ?_⟩) hHeld (fun hClosed => ?_)
            · intro wv hSw; exact exec_load_box (by rfl) (by rfl) hSw.2.2 Try.underlying28 rfl (by kernel_rfl)
            (try simp only [List.getElem_toArray, List.getElem_cons_succ, List.getElem_cons_zero, put_at, List.set])
            refine wpAnyL_take (i := 3) (v := ?_) rfl (by kernel_rfl) (by kernel_rfl) (by kernel_rfl) (by kernel_rfl) (fun _ _ _ h => h) (by kernel_rfl) hClosed (Or.inl ⟨by rfl, ?_⟩) hHeld (fun hClosed => ?_)
            rotate_left
            · intro wv hSw; go_simp; all_goals (with_reducible rfl)
            (try simp only [List.getElem_toArray, List.getElem_cons_succ, List.getElem_cons_zero, put_at, List.set])
            refine wpAnyL_take (i := 4) (v := ?_) rfl (by kernel_rfl) (by kernel_rfl) (by kernel_rfl) (by kernel_rfl) (fun _ _ _ h => h) (by kernel_rfl) hClosed (Or.inl ⟨by rfl, ?_⟩) hHeld (fun hClosed => ?_)
            rotate_left
            · intro wv hSw; go_simp; all_goals (with_reducible rfl)
            (try simp only [List.getElem_toArray, List.getElem_cons_succ, List.getElem_cons_zero, put_at, List.set])
            refine wpAnyL_take (i := 5) (v := ?_) rfl (by kernel_rfl) (by kernel_rfl) (by kernel_rfl) (by kernel_rfl) (fun _ _ _ h => h) (by kernel_rfl) hClosed (Or.inl ⟨by rfl, ?_⟩) hHeld (fun hClosed => ?_)
            rotate_left
            · intro wv hSw; obtain ⟨_, q0, q1⟩ := hSw; have c0 := q0.cell; have c1 := q1.cell; go_simp; all_goals (with_reducible rfl)
            (try simp only [List.getElem_toArray, List.getElem_cons_succ, List.getElem_cons_zero, put_at, List.set])
            refine wpAnyL_take (i := 6) (v := ?_) rfl (by kernel_rfl) (by kernel_rfl) (by kernel_rfl) (by kernel_rfl) (fun _ _ _ h => h) (by kernel_rfl) hClosed (Or.inl ⟨by rfl, ?_⟩) hHeld (fun hClosed => ?_)
            rotate_left
            · intro wv hSw; go_simp; all_goals (with_reducible rfl)
            (try simp only [List.getElem_toArray, List.getElem_cons_succ, List.getElem_cons_zero, put_at, List.set])
            refine wpAnyL_one (i := 2) rfl (by kernel_rfl) (by kernel_rfl) hClosed (fun KK hK => ?_)
            go_simp
            refine (elig_as ⟨0, 0, 0, 0, fl, 1, 10, 9000, 4, 700, 0, 0, 99, ByteArray.empty⟩ ⟨n1, G2, E2, F2, S2, T2, 0, 0, 0, 99, false, false, none, 0, 0, dl⟩ v3 HV3.out _).mono ?_
            rintro e w' ⟨rfl, hb⟩
            go_wp2_with fail
            refine hK.out _ _ ?_ (fun hClosed hHeld => ?_)
            · exact ⟨hHeld.1.trans (hb.mono hHeld.1.size), hHeld.2.1.later hb, hHeld.2.2.later hb⟩
            clear hK KK
            (first | simp only [List.getElem_toArray, List.getElem_cons_succ, List.getElem_cons_zero, put_at, List.set] | (try simp only [put_at, List.set]))
            refine wpAnyL_take (i := 7) (v := ?_) rfl (by kernel_rfl) (by kernel_rfl) (by kernel_rfl) (by kernel_rfl) (fun _ _ _ h => h) (by kernel_rfl) hClosed (Or.inl ⟨by rfl, ?_⟩) hHeld (fun hClosed => ?_)
            rotate_left
            · intro wv hSw; go_simp; all_goals (with_reducible rfl)
            (try simp only [List.getElem_toArray, List.getElem_cons_succ, List.getElem_cons_zero, put_at, List.set])
            refine wpAnyL_take (i := 8) (v := ?_) rfl (by kernel_rfl) (by kernel_rfl) (by kernel_rfl) (by kernel_rfl) (fun _ _ _ h => h) (by kernel_rfl) hClosed (Or.inl ⟨by rfl, ?_⟩) hHeld (fun hClosed => ?_)
            rotate_left
            · intro wv hSw; go_simp; all_goals (with_reducible rfl)
            (try simp only [List.getElem_toArray, List.getElem_cons_succ, List.getElem_cons_zero, put_at, List.set])
            refine wpAnyL_take (i := 9) (v := (.agg #[.int .i64 0, .int .i64 0, .int .i64 0, .int .i64 0, .int .i64 fl, .int .i64 1, .int .i64 10, .int .i64 9000, .int .i64 4, .int .i64 700, .int .i64 0, .int .i64 0, .int .i64 99, .string ByteArray.empty])) rfl (by kernel_rfl) (by kernel_rfl) (by kernel_rfl) (by kernel_rfl) (fun _ _ _ h => h) (by kernel_rfl) hClosed (Or.inl ⟨by rfl, ?_⟩) hHeld (fun hClosed => ?_)
            · intro wv hSw; exact exec_load_box (by rfl) (by rfl) hSw.2.1 Try.underlying23 rfl (by kernel_rfl)
            (try simp only [List.getElem_toArray, List.getElem_cons_succ, List.getElem_cons_zero, put_at, List.set])
            refine wpAnyL_take (i := 10) (v := (.agg #[.int .i64 n1, .int .i64 G2, .int .i64 E2, .int .i64 F2, .int .i64 S2, .int .i64 T2, .int .i64 0, .int .i64 0, .int .i64 0, .int .i64 99, .bool false, .bool false, .slice none 0 0, .int .i64 dl])) rfl (by kernel_rfl) (by kernel_rfl) (by kernel_rfl) (by kernel_rfl) (fun _ _ _ h => h) (by kernel_rfl) hClosed (Or.inl ⟨by rfl, ?_⟩) hHeld (fun hClosed => ?_)
            · intro wv hSw; exact exec_load_box (by rfl) (by rfl) hSw.2.2 Try.underlying28 rfl (by kernel_rfl)
            (try simp only [List.getElem_toArray, List.getElem_cons_succ, List.getElem_cons_zero, put_at, List.set])
            refine wpAnyL_take (i := 12) (v := ?_) rfl (by kernel_rfl) (by kernel_rfl) (by kernel_rfl) (by kernel_rfl) (fun _ _ _ h => h) (by kernel_rfl) hClosed (Or.inl ⟨by rfl, ?_⟩) hHeld (fun hClosed => ?_)
            rotate_left
            · intro wv hSw; go_simp; all_goals (with_reducible rfl)
            (try simp only [List.getElem_toArray, List.getElem_cons_succ, List.getElem_cons_zero, put_at, List.set])
            refine wpAnyL_take (i := 13) (v := ?_) rfl (by kernel_rfl) (by kernel_rfl) (by kernel_rfl) (by kernel_rfl) (fun _ _ _ h => h) (by kernel_rfl) hClosed (Or.inl ⟨by rfl, ?_⟩) hHeld (fun hClosed => ?_)
            rotate_left
            · intro wv hSw; go_simp; all_goals (with_reducible rfl)
            (try simp only [List.getElem_toArray, List.getElem_cons_succ, List.getElem_cons_zero, put_at, List.set])
            refine wpAnyL_take (i := 14) (v := ?_) rfl (by kernel_rfl) (by kernel_rfl) (by kernel_rfl) (by kernel_rfl) (fun _ _ _ h => h) (by kernel_rfl) hClosed (Or.inl ⟨by rfl, ?_⟩) hHeld (fun hClosed => ?_)
            rotate_left
            · intro wv hSw; go_simp; all_goals (with_reducible rfl)
            (try simp only [List.getElem_toArray, List.getElem_cons_succ, List.getElem_cons_zero, put_at, List.set])
            refine wpAnyL_take (i := 15) (v := ?_) rfl (by kernel_rfl) (by kernel_rfl) (by kernel_rfl) (by kernel_rfl) (fun _ _ _ h => h) (by kernel_rfl) hClosed (Or.inl ⟨by rfl, ?_⟩) hHeld (fun hClosed => ?_)
            rotate_left
            · intro wv hSw; go_simp; all_goals (with_reducible rfl)
            (try simp only [List.getElem_toArray, List.getElem_cons_succ, List.getElem_cons_zero, put_at, List.set])
            refine wpAnyL_one (i := 11) rfl (by kernel_rfl) (by kernel_rfl) hClosed (fun KK hK => ?_)
            go_simp
            refine (elig_as ⟨0, 0, 0, 0, fl, 1, 10, 9000, 4, 700, 0, 0, 99, ByteArray.empty⟩ ⟨n1, G2, E2, F2, S2, T2, 0, 0, 0, 99, false, false, none, 0, 0, dl⟩ v3 HV3.out _).mono ?_
            rintro e w' ⟨rfl, hb⟩
            go_wp2_with fail
            refine hK.out _ _ ?_ (fun hClosed hHeld => ?_)
            · exact ⟨hHeld.1.trans (hb.mono hHeld.1.size), hHeld.2.1.later hb, hHeld.2.2.later hb⟩
            clear hK KK
            (first | simp only [List.getElem_toArray, List.getElem_cons_succ, List.getElem_cons_zero, put_at, List.set] | (try simp only [put_at, List.set]))
            refine wpAnyL_take (i := 16) (v := ?_) rfl (by kernel_rfl) (by kernel_rfl) (by kernel_rfl) (by kernel_rfl) (fun _ _ _ h => h) (by kernel_rfl) hClosed (Or.inl ⟨by rfl, ?_⟩) hHeld (fun hClosed => ?_)
            rotate_left
            · intro wv hSw; go_simp; all_goals (with_reducible rfl)
            (try simp only [List.getElem_toArray, List.getElem_cons_succ, List.getElem_cons_zero, put_at, List.set])
            refine wpAnyL_last rfl (by kernel_rfl) (by kernel_rfl) (fun KK hK => ?_)
            go_simp
            refine hK.out _ _ ?_
            (try simp only [put_at, List.set])
            clear wdl wn1 wn2
            go_wp2_with fail
            go_roundw
            case rel => (first | exact ⟨k + 1, n1, n1, G2, E2, F2, S2, T2, by omega, by go_num, rfl, by omega, by omega, by omega, by omega, by omega, by omega, by omega, by omega, by omega, Lib.hid hHeld⟩ | ((repeat apply Exists.intro); exact ⟨⟨k + 1, n1, n1, G2, E2, F2, S2, T2, by omega, by go_num, rfl, by omega, by omega, by omega, by omega, by omega, by omega, by omega, by omega, by omega, Lib.hid hHeld⟩, rfl⟩))
            case measure => simp [intOf]; omega
      · have hd : decide ((k : Int) < fs % 30) = false := decide_eq_false hlt
        obtain ⟨n2, hn2⟩ : ∃ x, x = now + 100000 := ⟨_, rfl⟩
        have n2a : 0 ≤ n2 := by omega
        have n2b : n2 ≤ 10000000 := by omega
        obtain ⟨S3, hS3⟩ : ∃ x, sendS st ti n2 = x := ⟨_, rfl⟩
        have HS3 := Lib.hid hS3
        have HN2 := Lib.hid hn2
        clear hS3 hn2
        go_upto_region 18 with fail
        rw [← HN2.out]
        go_cut [] (fun w' => Below w.heap.size w w' ∧ Box w' (w.heap.size) #[.int .i64 0, .int .i64 0, .int .i64 0, .int .i64 0, .int .i64 fl, .int .i64 1, .int .i64 10, .int .i64 9000, .int .i64 4, .int .i64 700, .int .i64 0, .int .i64 0, .int .i64 99, .string ByteArray.empty] 23 ∧ Box w' g #[.int .i64 n2, .int .i64 D, .int .i64 0, .int .i64 0, .int .i64 0, .int .i64 0, .int .i64 0, .int .i64 0, .int .i64 0, .int .i64 99, .bool false, .bool false, .slice none 0 0, .int .i64 dl] 28)
        case first =>
          have wn5 : IntKind.i64.wrap (n2 + 5) = n2 + 5 := IntWalk.i64_in _ (by omega)
          refine wp_region_last 10 (fun w' => Below w.heap.size w w' ∧ Box w' (w.heap.size) #[.int .i64 0, .int .i64 0, .int .i64 0, .int .i64 0, .int .i64 fl, .int .i64 1, .int .i64 10, .int .i64 9000, .int .i64 4, .int .i64 700, .int .i64 0, .int .i64 0, .int .i64 99, .string ByteArray.empty] 23 ∧ Box w' g #[.int .i64 la, .int .i64 ga, .int .i64 ex, .int .i64 fa, .int .i64 st, .int .i64 ti, .int .i64 0, .int .i64 0, .int .i64 0, .int .i64 99, .bool false, .bool false, .slice none 0 0, .int .i64 dl] 28) (by kernel_rfl) (⟨B.drew, b0.drew, bq.drew⟩) (fun hHeld hClosed => ?_)
          clear B b0 bq
          refine wpAnyL_take (i := 0) (v := (.agg #[.int .i64 0, .int .i64 0, .int .i64 0, .int .i64 0, .int .i64 fl, .int .i64 1, .int .i64 10, .int .i64 9000, .int .i64 4, .int .i64 700, .int .i64 0, .int .i64 0, .int .i64 99, .string ByteArray.empty])) rfl (by kernel_rfl) (by kernel_rfl) (by kernel_rfl) (by kernel_rfl) (fun _ _ _ h => h) (by kernel_rfl) hClosed (Or.inl ⟨by rfl, ?_⟩) hHeld (fun hClosed => ?_)
          · intro wv hSw; exact exec_load_box (by rfl) (by rfl) hSw.2.1 Try.underlying23 rfl (by kernel_rfl)
          (try simp only [List.getElem_toArray, List.getElem_cons_zero, put_at, List.set])
          refine wpAnyL_take (i := 1) (v := (.agg #[.int .i64 0, .int .i64 0, .int .i64 0, .int .i64 0, .int .i64 fl, .int .i64 1, .int .i64 10, .int .i64 9000, .int .i64 4, .int .i64 700, .int .i64 0, .int .i64 0, .int .i64 99, .string ByteArray.empty])) rfl (by kernel_rfl) (by kernel_rfl) (by kernel_rfl) (by kernel_rfl) (fun _ _ _ h => h) (by kernel_rfl) hClosed (Or.inl ⟨by rfl, ?_⟩) hHeld (fun hClosed => ?_)
          · intro wv hSw; exact exec_load_box (by rfl) (by rfl) hSw.2.1 Try.underlying23 rfl (by kernel_rfl)
          (try simp only [List.getElem_toArray, List.getElem_cons_succ, List.getElem_cons_zero, put_at, List.set])
          refine wpAnyL_take (i := 2) (v := (.agg #[.int .i64 la, .int .i64 ga, .int .i64 ex, .int .i64 fa, .int .i64 st, .int .i64 ti, .int .i64 0, .int .i64 0, .int .i64 0, .int .i64 99, .bool false, .bool false, .slice none 0 0, .int .i64 dl])) rfl (by kernel_rfl) (by kernel_rfl) (by kernel_rfl) (by kernel_rfl) (fun _ _ _ h => h) (by kernel_rfl) hClosed (Or.inl ⟨by rfl, ?_⟩) hHeld (fun hClosed => ?_)
          · intro wv hSw; exact exec_load_box (by rfl) (by rfl) hSw.2.2 Try.underlying28 rfl (by kernel_rfl)
          (try simp only [List.getElem_toArray, List.getElem_cons_succ, List.getElem_cons_zero, put_at, List.set])
          refine wpAnyL_take (i := 3) (v := ?_) rfl (by kernel_rfl) (by kernel_rfl) (by kernel_rfl) (by kernel_rfl) (fun _ _ _ h => h) (by kernel_rfl) hClosed (Or.inl ⟨by rfl, ?_⟩) hHeld (fun hClosed => ?_)
          rotate_left
          · intro wv hSw; go_simp; all_goals (with_reducible rfl)
          (try simp only [List.getElem_toArray, List.getElem_cons_succ, List.getElem_cons_zero, put_at, List.set])
          refine wpAnyL_take (i := 5) (v := ?_) rfl (by kernel_rfl) (by kernel_rfl) (by kernel_rfl) (by kernel_rfl) (fun _ _ _ h => h) (by kernel_rfl) hClosed (Or.inl ⟨by rfl, ?_⟩) hHeld (fun hClosed => ?_)
          rotate_left
          · intro wv hSw; go_simp; all_goals (with_reducible rfl)
          (try simp only [List.getElem_toArray, List.getElem_cons_succ, List.getElem_cons_zero, put_at, List.set])
          refine wpAnyL_take (i := 6) (v := ?_) rfl (by kernel_rfl) (by kernel_rfl) (by kernel_rfl) (by kernel_rfl) (fun _ _ _ h => h) (by kernel_rfl) hClosed (Or.inl ⟨by rfl, ?_⟩) hHeld (fun hClosed => ?_)
          rotate_left
          · intro wv hSw; go_simp; all_goals (with_reducible rfl)
          (try simp only [List.getElem_toArray, List.getElem_cons_succ, List.getElem_cons_zero, put_at, List.set])
          refine wpAnyL_take (i := 7) (v := ?_) rfl (by kernel_rfl) (by kernel_rfl) (by kernel_rfl) (by kernel_rfl) (fun _ _ _ h => h) (by kernel_rfl) hClosed (Or.inl ⟨by rfl, ?_⟩) hHeld (fun hClosed => ?_)
          rotate_left
          · intro wv hSw; go_simp; all_goals (with_reducible rfl)
          (try simp only [List.getElem_toArray, List.getElem_cons_succ, List.getElem_cons_zero, put_at, List.set])
          refine wpAnyL_take (i := 8) (v := ?_) rfl (by kernel_rfl) (by kernel_rfl) (by kernel_rfl) (by kernel_rfl) (fun _ _ _ h => h) (by kernel_rfl) hClosed (Or.inl ⟨by rfl, ?_⟩) hHeld (fun hClosed => ?_)
          rotate_left
          · intro wv hSw; go_simp; all_goals (with_reducible rfl)
          (try simp only [List.getElem_toArray, List.getElem_cons_succ, List.getElem_cons_zero, put_at, List.set])
          refine wpAnyL_one (i := 4) rfl (by kernel_rfl) (by kernel_rfl) hClosed (fun KK hK => ?_)
          go_simp
          refine (psend_as ⟨0, 0, 0, 0, fl, 1, 10, 9000, 4, 700, 0, 0, 99, ByteArray.empty⟩ ⟨la, ga, ex, fa, st, ti, 0, 0, 0, 99, false, false, none, 0, 0, dl⟩ n2 S3 1 (by simp) (by simp) HS3.out (by simp) _).mono ?_
          rintro e w' ⟨rfl, hb⟩
          go_wp2_with fail
          refine hK.out _ _ ?_ (fun hClosed hHeld => ?_)
          · exact ⟨hHeld.1.trans (hb.mono hHeld.1.size), hHeld.2.1.later hb, hHeld.2.2.later hb⟩
          clear hK KK
          (first | simp only [List.getElem_toArray, List.getElem_cons_succ, List.getElem_cons_zero, put_at, List.set] | (try simp only [put_at, List.set]))
          refine wpAnyL_one (i := 9) rfl (by kernel_rfl) (by kernel_rfl) hClosed (fun KK hK => ?_)
          go_simp
          refine (pans0 ⟨0, 0, 0, 0, fl, 1, 10, 9000, 4, 700, 0, 0, 99, ByteArray.empty⟩ ⟨n2, ga, ex, fa, S3, ti, 0, 0, 1, 99, false, false, none, 0, 0, dl⟩ ⟨1, 0, 0⟩ (n2 + 5) dr D 0 0 0 (by simp) (by simp) (by simp) (by simp) ⟨by simp, by simp⟩ HD.out _).mono ?_
          rintro e w' ⟨rfl, hb⟩
          go_wp2_with fail
          refine hK.out _ _ ?_ (fun hClosed hHeld => ?_)
          · exact ⟨hHeld.1.trans (hb.mono hHeld.1.size), hHeld.2.1.later hb, hHeld.2.2.later hb⟩
          clear hK KK
          (first | simp only [List.getElem_toArray, List.getElem_cons_succ, List.getElem_cons_zero, put_at, List.set] | (try simp only [put_at, List.set]))
          refine wpAnyL_last rfl (by kernel_rfl) (by kernel_rfl) (fun KK hK => ?_)
          obtain ⟨l1, c1, f1⟩ := hHeld.2.2.facts
          go_simp
          refine hK.out _ _ ?_
          (try simp only [put_at, List.set])
          clear wn5
          go_wp2_with fail
          go_meet
          exact ⟨below14 hHeld.1 (by omega) _ _ _ _ _ _ _ _ _ _ _ _ _ _, hHeld.2.1.other14 (by omega) _ _ _ _ _ _ _ _ _ _ _ _ _ _, hHeld.2.2.set14 _ _ _ _ _ _ _ _ _ _ _ _ _ _⟩
        case rest =>
          obtain ⟨B2, b2, bq2⟩ := hcut
          clear B b0 bq
          have B := B2
          have b0 := b2
          have bq := bq2
          clear B2 b2 bq2
          obtain ⟨l0, c0, f0⟩ := b0.facts
          obtain ⟨l1, c1, f1⟩ := bq.facts
          have HDm2 := HDm.out
          by_cases hc : fl < dl
          · have dc : decide (fl < dl) = true := decide_eq_true hc
            have HE : Hid (D = dl) := Lib.hid (by omega)
            clear HDm2
            as_aux_lemma =>
              go_wp2_with fail
              refine (awake20 _).mono ?_
              rintro e w9 ⟨rfl, hb⟩
              clear l0 c0 f0 l1 c1 f1
              have B' := B.trans (hb.mono B.size)
              clear B
              have B := B'
              clear B'
              have d0 := b0.later hb
              have d1 := bq.later hb
              clear b0 bq hb
              have b0 := d0
              have bq := d1
              clear d0 d1
              obtain ⟨l0, c0, f0⟩ := b0.facts
              obtain ⟨l1, c1, f1⟩ := bq.facts
              go_wp2_with fail
              refine (elig_as ⟨0, 0, 0, 0, fl, 1, 10, 9000, 4, 700, 0, 0, 99, ByteArray.empty⟩ ⟨n2, D, 0, 0, 0, 0, 0, 0, 0, 99, false, false, none, 0, 0, dl⟩ (n2 + dl) (by rw [HE.out]; show eligP _ _ (addI n2 dl) = _; rw [addI_in n2 dl (by omega) (by omega) (by omega) (by omega)]; unfold eligP; rw [if_neg (by simp), if_neg (by simp), if_pos (by simpa using n2a)]; show max (max (max 0 0) 0) _ = _; omega) _).mono ?_
              rintro e w9 ⟨rfl, hb⟩
              go_wp2_with fail
              go_ret
              exact ⟨rfl, B.trans (hb.mono B.size)⟩
          · have dc : decide (fl < dl) = false := decide_eq_false hc
            have HE : Hid (D = fl) := Lib.hid (by omega)
            clear HDm2
            as_aux_lemma =>
              go_wp2_with fail
              refine (awake20 _).mono ?_
              rintro e w9 ⟨rfl, hb⟩
              clear l0 c0 f0 l1 c1 f1
              have B' := B.trans (hb.mono B.size)
              clear B
              have B := B'
              clear B'
              have d0 := b0.later hb
              have d1 := bq.later hb
              clear b0 bq hb
              have b0 := d0
              have bq := d1
              clear d0 d1
              obtain ⟨l0, c0, f0⟩ := b0.facts
              obtain ⟨l1, c1, f1⟩ := bq.facts
              go_wp2_with fail
              refine (elig_as ⟨0, 0, 0, 0, fl, 1, 10, 9000, 4, 700, 0, 0, 99, ByteArray.empty⟩ ⟨n2, D, 0, 0, 0, 0, 0, 0, 0, 99, false, false, none, 0, 0, dl⟩ (n2 + fl) (by rw [HE.out]; show eligP _ _ (addI n2 fl) = _; rw [addI_in n2 fl (by omega) (by omega) (by omega) (by omega)]; unfold eligP; rw [if_neg (by simp), if_neg (by simp), if_pos (by simpa using n2a)]; show max (max (max 0 0) 0) _ = _; omega) _).mono ?_
              rintro e w9 ⟨rfl, hb⟩
              go_wp2_with fail
              go_ret
              exact ⟨rfl, B.trans (hb.mono B.size)⟩
end Go.Proofs.Ytelakgbpfnlpiaa
