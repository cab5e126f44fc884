/- The laws of layer 1 on clocks and buckets, walked. -/
import Derived.Test.YtjclllmdaoapeaaTickLaws
import Derived.Test.YtjclllmdaoapeaaFrame
namespace Go.Proofs.Ytjclllmdaoapeaa
open Go.RowKit

theorem mulI_id (a b : Int) (a1 : -4611686018427387903 ≤ a) (a2 : a ≤ 4611686018427387903) (b1 : -4611686018427387903 ≤ b) (b2 : b ≤ 4611686018427387903) (h1 : -4611686018427387903 ≤ a * b) (h2 : a * b ≤ 4611686018427387903) : mulI a b = a * b := by
  unfold mulI; rw [clampI_id a1 a2, clampI_id b1 b2, clampI_id h1 h2]
theorem addI_id (a b : Int) (a1 : -4611686018427387903 ≤ a) (a2 : a ≤ 4611686018427387903) (b1 : -4611686018427387903 ≤ b) (b2 : b ≤ 4611686018427387903) (h1 : -4611686018427387903 ≤ a + b) (h2 : a + b ≤ 4611686018427387903) : addI a b = a + b := by
  unfold addI; rw [clampI_id a1 a2, clampI_id b1 b2, clampI_id h1 h2]

/-- Small buckets fill without saturation. -/
theorem fillI_small (l r b m : Int) (hl : 0 ≤ l ∧ l ≤ 1000000000000) (hr : 0 ≤ r ∧ r ≤ 65535) (hb : 0 ≤ b ∧ b ≤ 1048576) (hm : m ≤ 200000) : fillI l r b m = min (l + r * max m 0) (1000 * b) := by
  unfold fillI
  have p0 : 0 ≤ r * max m 0 := Int.mul_nonneg hr.1 (by omega)
  have p1 : r * max m 0 ≤ 65535 * 200000 := Int.mul_le_mul hr.2 (by omega) (by omega) (by omega)
  rw [show max l 0 = l by omega, show max r 0 = r by omega, show max b 0 = b by omega, mulI_id r _ (by omega) (by omega) (by omega) (by omega) (by omega) (by omega),
    addI_id _ _ (by omega) (by omega) (by omega) (by omega) (by omega) (by omega), mulI_id 1000 b (by omega) (by omega) (by omega) (by omega) (by omega) (by omega)]

set_option maxHeartbeats 400000 in
theorem tickClocks_walk (a : Option Addr) (len cap : Nat) (zs : List Int) (w : World) (hrow : IsRow .i64 w a len cap zs) :
    Calls Try.prog 6 #[.slice a len cap] w fun e w' => e = .returned (.bool true) ∧ Below w.heap.size w w' := by
  by_cases hl0 : len = 0
  · subst hl0
    clear hrow
    go_enter Try.func6, Try.ntmps6
    go_wp2
    go_loop [3, 4] (fun x i => x = .int .i64 0 ∧ i = .int .i64 0) (fun _ _ => 0)
    case atStart => exact ⟨rfl, rfl⟩
    case round =>
      obtain ⟨rfl, rfl⟩ := hrel
      go_wp2_with (go_at_call 16; refine (awake1 _).mono ?_; rintro e w' ⟨rfl, rfl⟩)
      go_ret
      exact ⟨rfl, Below.refl _ _⟩
  · rcases hrow with ⟨_, h0, _, _⟩ | ⟨x, rfl, hlc, hcm, hz, hcell, hwf⟩
    · exact absurd h0 hl0
    · obtain ⟨b, off, rfl, hc⟩ := ints_at hcell (by omega)
      have hlz : len ≤ zs.length := by omega
      unfold maxLen at hcm
      have hlm : len ≤ 9223372036854775807 := by omega
      clear hcell hwf hlc hz hl0
      go_enter Try.func6, Try.ntmps6
      go_wp2
      go_loop [3, 4] (fun x i => ∃ k : Nat, k ≤ len ∧ i = .int .i64 k ∧ ∃ v : Int, 0 ≤ v ∧ v ≤ 1099511627776 ∧ x = .int .i64 v) (fun _ i => len - (intOf i).toNat)
      case atStart => exact ⟨0, by omega, rfl, 0, by omega, by omega, rfl⟩
      case round =>
        obtain ⟨k, hk, rfl, v, v0, v1, rfl⟩ := hrel
        by_cases hlt : k < len
        · by_cases h100 : k < 100
          · have hck := hc k (by omega)
            generalize zs.getD k 0 = z at hck
            clear hc
            have hd1 : decide ((k : Int) < len) = true := decide_eq_true (by omega)
            have hx : clockI v z = if z ≤ v then v else if 1099511627776 < z then 1099511627776 else z := by
              unfold clockI; split
              · omega
              · split <;> omega
            by_cases hzv : z ≤ v
            · rw [if_pos hzv] at hx
              have HX := Lib.hid hx
              clear hx
              go_wp2_with (go_at_call 23; refine (clock_as _ _ _ HX.out _).mono ?_; rintro e w' ⟨rfl, rfl⟩)
              go_round
              case rel => exact ⟨k + 1, by omega, by go_num, v, v0, v1, rfl⟩
              case measure => simp [intOf]; omega
            · rw [if_neg hzv] at hx
              by_cases hzt : 1099511627776 < z
              · rw [if_pos hzt] at hx
                have HX := Lib.hid hx
                clear hx
                go_wp2_with (go_at_call 23; refine (clock_as _ _ _ HX.out _).mono ?_; rintro e w' ⟨rfl, rfl⟩)
                go_round
                case rel => exact ⟨k + 1, by omega, by go_num, _, by omega, by omega, rfl⟩
                case measure => simp [intOf]; omega
              · rw [if_neg hzt] at hx
                have HX := Lib.hid hx
                clear hx
                go_wp2_with (go_at_call 23; refine (clock_as _ _ _ HX.out _).mono ?_; rintro e w' ⟨rfl, rfl⟩)
                go_round
                case rel => exact ⟨k + 1, by omega, by go_num, z, by omega, by omega, rfl⟩
                case measure => simp [intOf]; omega
          · have hd1 : decide ((k : Int) < len) = true := decide_eq_true (by omega)
            clear hc
            go_wp2_with (go_at_call 16; refine (awake1 _).mono ?_; rintro e w' ⟨rfl, rfl⟩)
            go_ret
            exact ⟨rfl, Below.refl _ _⟩
        · have hd1 : decide ((k : Int) < len) = false := decide_eq_false (by omega)
          clear hc
          go_wp2_with (go_at_call 16; refine (awake1 _).mono ?_; rintro e w' ⟨rfl, rfl⟩)
          go_ret
          exact ⟨rfl, Below.refl _ _⟩

theorem radd_as (a b v : Int) (h : addI a b = v) (w : World) :
    Calls Try.prog 18 #[.int .i64 a, .int .i64 b] w fun e w' => e = .returned (.int .i64 v) ∧ w = w' := h ▸ radd_any a b w

set_option maxHeartbeats 400000 in
theorem tickWaits_walk (l r : Int) (w : World) (wl : (Lit.int .u16 l).wf = true) (wr : (Lit.int .u16 r).wf = true) :
    Calls Try.prog 8 #[.int .u16 l, .int .u16 r] w fun e w' => e = .returned (.bool true) ∧ Below w.heap.size w w' := by
  obtain ⟨l0, l1⟩ := bounds_u16 wl
  obtain ⟨r0, r1⟩ := bounds_u16 wr
  clear wl wr
  by_cases hl : l < 1000
  · by_cases hr : r = 0
    · subst hr
      have HW := Lib.hid (show waitI l 0 = 4611686018427387903 by unfold waitI; rw [if_neg (by omega), if_pos (by omega)])
      go_enter Try.func8, Try.ntmps8
      go_wp2_with (first
        | (go_at_call 16; refine (awake1 _).mono ?_; rintro e w' ⟨rfl, rfl⟩)
        | (go_at_call 26; refine (wait_as _ _ _ HW.out _).mono ?_; rintro e w' ⟨rfl, rfl⟩))
      go_ret
      exact ⟨rfl, Below.refl _ _⟩
    · obtain ⟨n, hn⟩ : ∃ n, waitI l r = n := ⟨_, rfl⟩
      have hw : n = (999 - l) / r + 1 := by rw [← hn]; unfold waitI; rw [if_neg (by omega), if_neg (by omega), show 1000 - max l 0 - 1 = 999 - l by omega]
      have q0 : 0 ≤ (999 - l) / r := Int.ediv_nonneg (by omega) (by omega)
      have q1 : (999 - l) / r ≤ 999 - l := Int.ediv_le_self _ (by omega)
      have q2 := Int.mul_ediv_self_le (x := 999 - l) (k := r) hr
      have q3 := Int.lt_mul_ediv_self_add (x := 999 - l) (k := r) (by omega)
      have e1 := fillI_small l r 1048576 n (by omega) (by omega) (by omega) (by omega)
      have e2 := fillI_small l r 1048576 (n - 1) (by omega) (by omega) (by omega) (by omega)
      rw [show max n 0 = (999 - l) / r + 1 by omega, Int.mul_add, Int.mul_one] at e1
      rw [show max (n - 1) 0 = (999 - l) / r by omega] at e2
      obtain ⟨x, hx⟩ : ∃ x, fillI l r 1048576 n = x := ⟨_, rfl⟩
      obtain ⟨y, hy⟩ : ∃ y, fillI l r 1048576 (n - 1) = y := ⟨_, rfl⟩
      have x0 : 1000 ≤ x := by omega
      have x1 : x ≤ 9223372036854775807 := by omega
      have y0 : y < 1000 := by omega
      have n0 : 1 ≤ n := by omega
      have n1 : n ≤ 1000 := by omega
      have hr' : (r == 0) = false := by simpa using hr
      have HW := Lib.hid hn
      have HX := Lib.hid hx
      have HY := Lib.hid hy
      clear hn hx hy hw q0 q1 q2 q3 e1 e2 hr
      go_enter Try.func8, Try.ntmps8
      go_wp2_with (first
        | (go_at_call 16; refine (awake1 _).mono ?_; rintro e w' ⟨rfl, rfl⟩)
        | (go_at_call 26; refine (wait_as _ _ _ HW.out _).mono ?_; rintro e w' ⟨rfl, rfl⟩)
        | (go_at_call 25; (first | (with_reducible refine (fill_as _ _ _ _ _ HX.out _).mono ?_) | (with_reducible refine (fill_as _ _ _ _ _ HY.out _).mono ?_)); rintro e w' ⟨rfl, rfl⟩)
        | (go_at_call 24; (first | (with_reducible refine (take_high x x0 x1 _).mono ?_) | (with_reducible refine (take_low y y0 _).mono ?_)); rintro e w' ⟨rfl, rfl⟩))
      go_ret
      exact ⟨rfl, Below.refl _ _⟩
  · by_cases hr : r = 0
    · subst hr
      have e1 := fillI_small l 0 1048576 0 (by omega) (by omega) (by omega) (by omega)
      have e2 := fillI_small l 0 1048576 (-1) (by omega) (by omega) (by omega) (by omega)
      have HW := Lib.hid (show waitI l 0 = 0 by unfold waitI; rw [if_pos (by omega)])
      have HX := Lib.hid (show fillI l 0 1048576 0 = l by rw [e1, show max (0 : Int) 0 = 0 by decide, Int.mul_zero]; omega)
      have HY := Lib.hid (show fillI l 0 1048576 (-1) = l by rw [e2, show max (-1 : Int) 0 = 0 by decide, Int.mul_zero]; omega)
      have hl' : 1000 ≤ l := by omega
      have l2 : l ≤ 9223372036854775807 := by omega
      have hd : decide (l < 1000) = false := decide_eq_false hl
      clear e1 e2 hl r0 r1
      go_enter Try.func8, Try.ntmps8
      go_wp2_with (first
        | (go_at_call 16; refine (awake1 _).mono ?_; rintro e w' ⟨rfl, rfl⟩)
        | (go_at_call 26; refine (wait_as _ _ _ HW.out _).mono ?_; rintro e w' ⟨rfl, rfl⟩)
        | (go_at_call 25; (first | (with_reducible refine (fill_as _ _ _ _ _ HX.out _).mono ?_) | (with_reducible refine (fill_as _ _ _ _ _ HY.out _).mono ?_)); rintro e w' ⟨rfl, rfl⟩)
        | (go_at_call 24; refine (take_high l hl' l2 _).mono ?_; rintro e w' ⟨rfl, rfl⟩))
      go_ret
      exact ⟨rfl, Below.refl _ _⟩
    · have hr' : (r == 0) = false := by simpa using hr
      have e1 := fillI_small l r 1048576 0 (by omega) (by omega) (by omega) (by omega)
      have e2 := fillI_small l r 1048576 (-1) (by omega) (by omega) (by omega) (by omega)
      have HW := Lib.hid (show waitI l r = 0 by unfold waitI; rw [if_pos (by omega)])
      have HX := Lib.hid (show fillI l r 1048576 0 = l by rw [e1, show max (0 : Int) 0 = 0 by decide, Int.mul_zero]; omega)
      have HY := Lib.hid (show fillI l r 1048576 (-1) = l by rw [e2, show max (-1 : Int) 0 = 0 by decide, Int.mul_zero]; omega)
      have hl' : 1000 ≤ l := by omega
      have l2 : l ≤ 9223372036854775807 := by omega
      have hd : decide (l < 1000) = false := decide_eq_false hl
      clear e1 e2 hl hr
      go_enter Try.func8, Try.ntmps8
      go_wp2_with (first
        | (go_at_call 16; refine (awake1 _).mono ?_; rintro e w' ⟨rfl, rfl⟩)
        | (go_at_call 26; refine (wait_as _ _ _ HW.out _).mono ?_; rintro e w' ⟨rfl, rfl⟩)
        | (go_at_call 25; (first | (with_reducible refine (fill_as _ _ _ _ _ HX.out _).mono ?_) | (with_reducible refine (fill_as _ _ _ _ _ HY.out _).mono ?_)); rintro e w' ⟨rfl, rfl⟩)
        | (go_at_call 24; refine (take_high l hl' l2 _).mono ?_; rintro e w' ⟨rfl, rfl⟩))
      go_ret
      exact ⟨rfl, Below.refl _ _⟩

set_option maxHeartbeats 400000 in
theorem tickParts_walk (l r m a b : Int) (w : World) (wl : (Lit.int .u16 l).wf = true) (wr : (Lit.int .u16 r).wf = true) (wm : (Lit.int .u16 m).wf = true) (wa : (Lit.int .u16 a).wf = true) (wb : (Lit.int .u16 b).wf = true) :
    Calls Try.prog 9 #[.int .u16 l, .int .u16 r, .int .u16 m, .int .u16 a, .int .u16 b] w fun e w' => e = .returned (.bool true) ∧ Below w.heap.size w w' := by
  obtain ⟨l0, l1⟩ := bounds_u16 wl
  obtain ⟨r0, r1⟩ := bounds_u16 wr
  obtain ⟨m0, m1⟩ := bounds_u16 wm
  obtain ⟨a0, a1⟩ := bounds_u16 wa
  obtain ⟨b0, b1⟩ := bounds_u16 wb
  clear wl wr wm wa wb
  have e1 := fillI_small l r m a (by omega) (by omega) (by omega) (by omega)
  have e2 := fillI_small l r m (a + b) (by omega) (by omega) (by omega) (by omega)
  have p0 : 0 ≤ r * a := Int.mul_nonneg r0 a0
  have p1 : 0 ≤ r * b := Int.mul_nonneg r0 b0
  have p2 : r * a ≤ 65535 * 65535 := Int.mul_le_mul r1 a1 a0 (by omega)
  rw [show max a 0 = a by omega] at e1
  rw [show max (a + b) 0 = a + b by omega, Int.mul_add] at e2
  obtain ⟨x, hx⟩ : ∃ x, fillI l r m a = x := ⟨_, rfl⟩
  have e3 := fillI_small x r m b (by omega) (by omega) (by omega) (by omega)
  rw [show max b 0 = b by omega] at e3
  obtain ⟨y, hy⟩ : ∃ y, fillI x r m b = y := ⟨_, rfl⟩
  have hz : fillI l r m (a + b) = y := by omega
  have hy1 : y ≤ 1000 * m := by omega
  have HX := Lib.hid hx
  have HY := Lib.hid hy
  have HZ := Lib.hid hz
  clear hx hy hz e1 e2 e3 p0 p1 p2
  go_enter Try.func9, Try.ntmps9
  go_wp2_with (first
    | (go_at_call 16; refine (awake1 _).mono ?_; rintro e w' ⟨rfl, rfl⟩)
    | (go_at_call 25; (first | (with_reducible refine (fill_as _ _ _ _ _ HX.out _).mono ?_) | (with_reducible refine (fill_as _ _ _ _ _ HY.out _).mono ?_) | (with_reducible refine (fill_as _ _ _ _ _ HZ.out _).mono ?_)); rintro e w' ⟨rfl, rfl⟩))
  go_ret
  exact ⟨ret_bool (by simp), Below.refl _ _⟩

theorem tmod_bd (n : Int) : -100 < n.tmod 100 ∧ n.tmod 100 < 100 := by
  rcases Int.le_total 0 n with h | h
  · rw [Int.tmod_eq_emod_of_nonneg h]; omega
  · obtain ⟨m, rfl⟩ : ∃ m, n = -m := ⟨-n, by omega⟩
    rw [Int.neg_tmod, Int.tmod_eq_emod_of_nonneg (by omega)]; omega
theorem addI_comm (a b : Int) : addI a b = addI b a := by unfold addI; rw [Int.add_comm]
theorem mulI_comm (a b : Int) : mulI a b = mulI b a := by unfold mulI; rw [Int.mul_comm]
theorem subI_self (a : Int) : subI a a = 0 := by unfold subI; rw [Int.sub_self]; rfl
theorem mulI_one (a : Int) : mulI a 1 = addI a 0 := by
  unfold mulI addI
  rw [show clampI 1 = 1 from rfl, show clampI 0 = 0 from rfl, Int.mul_one, Int.add_zero]
theorem shl_lo (a n : Int) : -4611686018427387903 ≤ shl a n := shlI_lo _ _
theorem shl_hi (a n : Int) : shl a n ≤ 4611686018427387903 := shlI_hi _ _

set_option maxHeartbeats 1000000 in
theorem tickEnds_walk (a b n : Int) (w : World) (_wa : (Lit.int .i64 a).wf = true) (_wb : (Lit.int .i64 b).wf = true) (wn : (Lit.int .i64 n).wf = true) :
    Calls Try.prog 10 #[.int .i64 a, .int .i64 b, .int .i64 n] w fun e w' => e = .returned (.bool true) ∧ Below w.heap.size w w' := by
  obtain ⟨n0, n1⟩ := bounds_i64 wn
  clear wn _wa _wb
  obtain ⟨t2, t3⟩ := tmod_bd n
  have x1 := addI_lo a b
  have x2 := addI_hi a b
  have x3 : -4611686018427387903 ≤ subI a b := clampI_lo _
  have x4 : subI a b ≤ 4611686018427387903 := clampI_hi _
  have x5 := mulI_lo a b
  have x6 := mulI_hi a b
  have x7 := shl_lo a (n.tmod 100)
  have x8 := shl_hi a (n.tmod 100)
  have HA := Lib.hid (addI_comm b a)
  have HM := Lib.hid (mulI_comm b a)
  have HS := Lib.hid (subI_self a)
  have HO := Lib.hid (mulI_one a)
  go_enter Try.func10, Try.ntmps10
  go_wp2_with (first
    | (go_at_call 17; refine (add_any _ _ _).mono ?_; rintro e w' ⟨rfl, rfl⟩)
    | (go_at_call 19; refine (sub_any _ _ _).mono ?_; rintro e w' ⟨rfl, rfl⟩)
    | (go_at_call 20; refine (mul_any _ _ _).mono ?_; rintro e w' ⟨rfl, rfl⟩)
    | (go_at_call 22; refine (shl_any _ _ (by omega) _).mono ?_; rintro e w' ⟨rfl, rfl⟩))
  go_loop [8] (fun i => ∃ k : Nat, k ≤ 4 ∧ i = .int .i64 k) (fun i => 4 - (intOf i).toNat)
  case atStart => exact ⟨0, by omega, rfl⟩
  case round =>
    obtain ⟨k, hk, rfl⟩ := hrel
    rcases (show k = 0 ∨ k = 1 ∨ k = 2 ∨ k = 3 ∨ k = 4 by omega) with rfl | rfl | rfl | rfl | rfl
    · go_wp2
      go_round
      case rel => exact ⟨1, by omega, rfl⟩
      case measure => simp [intOf]
    · go_wp2
      go_round
      case rel => exact ⟨2, by omega, rfl⟩
      case measure => simp [intOf]
    · go_wp2
      go_round
      case rel => exact ⟨3, by omega, rfl⟩
      case measure => simp [intOf]
    · go_wp2
      go_round
      case rel => exact ⟨4, by omega, rfl⟩
      case measure => simp [intOf]
    · go_wp2_with (first
        | (go_at_call 16; refine (awake1 _).mono ?_; rintro e w' ⟨rfl, rfl⟩)
        | (go_at_call 17; (first | (with_reducible refine (add_any a b _).mono ?_) | (with_reducible refine (add_as b a _ HA.out _).mono ?_) | (with_reducible refine (add_any a 0 _).mono ?_)); rintro e w' ⟨rfl, rfl⟩)
        | (go_at_call 19; refine (sub_as _ _ _ HS.out _).mono ?_; rintro e w' ⟨rfl, rfl⟩)
        | (go_at_call 20; (first | (with_reducible refine (mul_any a b _).mono ?_) | (with_reducible refine (mul_as b a _ HM.out _).mono ?_) | (with_reducible refine (mul_as a 1 _ HO.out _).mono ?_)); rintro e w' ⟨rfl, rfl⟩))
      go_ret
      exact ⟨rfl, (Below.refl _ _).alloc (Nat.le_refl _) _⟩

end Go.Proofs.Ytjclllmdaoapeaa
