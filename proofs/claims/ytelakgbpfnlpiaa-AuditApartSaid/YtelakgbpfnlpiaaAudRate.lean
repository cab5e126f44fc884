/- Package audit: rates. -/
import Derived.Test.YtelakgbpfnlpiaaAudCnt
namespace Go.Proofs.Ytelakgbpfnlpiaa
open Go.RowKit Go.Maps Go.WideMaps

def rateIn (full rate t0 : Int) : Nat → List Ev → Bool
  | _, [] => true
  | n, e :: r => if addI full (mulI rate (subI e.time t0)) < mulI 1000 ((n : Int) + 1) then false else rateIn full rate t0 (n + 1) r
def rateL (full rate : Int) : List Ev → Bool
  | [] => true
  | e :: r => if rateIn full rate e.time 0 (e :: r) = true then rateL full rate r else false
theorem mul_as (a b v : Int) (h : mulI a b = v) (w : World) : Calls Try.prog 53 #[.int .i64 a, .int .i64 b] w fun e w' => e = .returned (.int .i64 v) ∧ w = w' := by
  subst h
  exact mul_any a b w
theorem addA_as (a b v : Int) (h : addI a b = v) (w : World) : Calls Try.prog 40 #[.int .i64 a, .int .i64 b] w fun e w' => e = .returned (.int .i64 v) ∧ w = w' := by
  subst h
  exact add_any a b w

set_option maxHeartbeats 2000000 in
theorem rate_at (es : List Ev) (a : Option Addr) (cap : Nat) (rate burst : Int) (w : World) (hr : Rd w a es) (hl : es.length < 1000000) :
    Calls Try.prog 37 #[.slice a es.length cap, .int .i64 rate, .int .i64 burst] w fun e w' => e = .returned (.bool (rateL (mulI 1000 burst) rate (es.filter wentE))) ∧ Below w.heap.size w w' := by
  go_enter Try.func37, Try.ntmps37
  go_wp2_with fail
  refine (trans_at es a cap _ hr hl).mono ?_
  rintro e w1 ⟨a', cap', rfl, hrd, hcap, hb⟩
  have hfl : (es.filter wentE).length < 1000000 := by have := List.length_filter_le wentE es; omega
  generalize hts : es.filter wentE = ts at *
  have HTS := Lib.hid hts
  have HB1 : Hid (Below w.heap.size w w1) := Lib.hid hb
  obtain ⟨b, off, ha, hc⟩ := hrd.row
  have HA := Lib.hid ha
  have HC := Lib.hid hc
  obtain ⟨full, hf⟩ : ∃ full, mulI 1000 burst = full := ⟨_, rfl⟩
  have HF := Lib.hid hf
  clear ha hc hb hrd hts hf hr
  go_wp2_with fail
  refine (mul_as _ _ full HF.out _).mono ?_
  rintro e w2 ⟨rfl, rfl⟩
  go_wp2_with fail
  go_loopw [20] (fun vk wx => ∃ k : Nat, k ≤ ts.length ∧ vk = .int .i64 k ∧ Hid (Below w.heap.size w wx) ∧ Hid (RdB wx b off ts) ∧ Hid (rateL full rate ts = rateL full rate (ts.drop k))) (fun vk _ => ts.length - (intOf vk).toNat)
  case atStart => exact ⟨0, by omega, rfl, HB1, HC, Lib.hid rfl⟩
  case round =>
    obtain ⟨k, hk, rfl, HB, HCR, HG⟩ := hrel
    clear HB1 HC
    have hbs := HB.out.size
    by_cases hlt : k < ts.length
    · have hd1 : decide ((k : Int) < ts.length) = true := decide_eq_true (by omega)
      have ha := HA.out (by omega)
      subst ha
      obtain ⟨⟨kd, tm, id, ho, pa, pr, la⟩, he⟩ : ∃ e, ts[k]? = some e := ⟨_, List.getElem?_eq_getElem hlt⟩
      obtain ⟨c0, c1, c2, c3, c4, c5, c6⟩ := HCR.out.at he
      simp only at c0 c1 c2 c3 c4 c5 c6
      have hgd := HG.out
      rw [drop_at he, rateL] at hgd
      simp only at hgd
      rw [← drop_at he] at hgd
      have HGD := Lib.hid hgd
      have hc1 : ¬ cap' = k := by omega
      have hc2 : (k : Int) ≤ (ts.length : Int) := by omega
      have HCR1 := Lib.hid (HCR.out.later ((Below.refl _ _).alloc (Nat.le_refl _) (.cells #[.int .i64 kd, .int .i64 tm, .int .i64 id, .string ho, .string pa, .int .i64 pr, .int .i64 la] 58)))
      have HX1 := Lib.hid (Box.new wr #[.int .i64 kd, .int .i64 tm, .int .i64 id, .string ho, .string pa, .int .i64 pr, .int .i64 la] 58)
      have HB2 := Lib.hid (HB.out.alloc hbs (.cells #[.int .i64 kd, .int .i64 tm, .int .i64 id, .string ho, .string pa, .int .i64 pr, .int .i64 la] 58))
      clear hgd HG he
      go_wp2_with fail
      go_loopw [29] (fun vm wx => ∃ m : Nat, m ≤ ts.length - k ∧ vm = .int .i64 m ∧ Hid (Below w.heap.size w wx) ∧ Hid (RdB wx b off ts) ∧ Hid (Box wx wr.heap.size #[.int .i64 kd, .int .i64 tm, .int .i64 id, .string ho, .string pa, .int .i64 pr, .int .i64 la] 58) ∧ Hid (rateIn full rate tm 0 (ts.drop k) = rateIn full rate tm m (ts.drop (k + m)))) (fun vm _ => ts.length - k - (intOf vm).toNat)
      case atStart => exact ⟨0, by omega, rfl, HB2, HCR1, HX1, Lib.hid rfl⟩
      case round =>
        clear HB HCR c0 c1 c2 c3 c4 c5 c6 HB2 HCR1 HX1
        obtain ⟨m, hm, rfl, HB, HCR, HX, HG⟩ := hrel
        have hbs2 := HB.out.size
        by_cases hlm : m < ts.length - k
        · have hd2 : decide ((m : Int) < ((ts.length - k : Nat) : Int)) = true := decide_eq_true (by omega)
          obtain ⟨⟨kd2, tm2, id2, ho2, pa2, pr2, la2⟩, he⟩ : ∃ e, ts[k + m]? = some e := ⟨_, List.getElem?_eq_getElem (by omega)⟩
          obtain ⟨c0, c1, c2, c3, c4, c5, c6⟩ := HCR.out.at he
          simp only at c0 c1 c2 c3 c4 c5 c6
          rw [show off + (k + m) * 7 = off + k * 7 + m * 7 by omega] at c0 c1 c2 c3 c4 c5 c6
          have hgd := HG.out
          rw [drop_at he, rateIn] at hgd
          simp only at hgd
          obtain ⟨s, hs⟩ : ∃ s, subI tm2 tm = s := ⟨_, rfl⟩
          obtain ⟨q, hq⟩ : ∃ q, mulI rate s = q := ⟨_, rfl⟩
          obtain ⟨u, hu⟩ : ∃ u, addI full q = u := ⟨_, rfl⟩
          obtain ⟨v, hv⟩ : ∃ v, mulI 1000 ((m : Int) + 1) = v := ⟨_, rfl⟩
          rw [hs, hq, hu, hv] at hgd
          have HS := Lib.hid hs
          have HQ := Lib.hid hq
          have HU := Lib.hid hu
          have HV := Lib.hid hv
          obtain ⟨lx, cx, fx⟩ := HX.out.facts
          by_cases huv : u < v
          · rw [if_pos huv] at hgd
            have hd3 : decide (u < v) = true := decide_eq_true huv
            have HR : Hid (rateL full rate ts = false) := Lib.hid (by rw [HGD.out, hgd]; rfl)
            clear hgd hs hq hu hv he HG
            go_wp2_with fail
            refine (sub_as _ _ s HS.out _).mono ?_
            rintro e w2 ⟨rfl, rfl⟩
            go_wp2_with fail
            refine (mul_as rate s q HQ.out _).mono ?_
            rintro e w2 ⟨rfl, rfl⟩
            go_wp2_with fail
            refine (mul_as 1000 _ v HV.out _).mono ?_
            rintro e w2 ⟨rfl, rfl⟩
            go_wp2_with fail
            refine (addA_as _ _ u HU.out _).mono ?_
            rintro e w2 ⟨rfl, rfl⟩
            go_wp2_with fail
            exact bodyPost_ret (v := .bool false) (by simp [results, Try.results37, go_sem]) rfl ⟨by rw [HTS.out, HF.out, HR.out], HB.out.alloc hbs2 _⟩
          · rw [if_neg huv] at hgd
            have hd3 : decide (u < v) = false := decide_eq_false huv
            have HG2 := Lib.hid hgd
            clear hgd hs hq hu hv he HG
            go_wp2_with fail
            refine (sub_as _ _ s HS.out _).mono ?_
            rintro e w2 ⟨rfl, rfl⟩
            go_wp2_with fail
            refine (mul_as rate s q HQ.out _).mono ?_
            rintro e w2 ⟨rfl, rfl⟩
            go_wp2_with fail
            refine (mul_as 1000 _ v HV.out _).mono ?_
            rintro e w2 ⟨rfl, rfl⟩
            go_wp2_with fail
            refine (addA_as _ _ u HU.out _).mono ?_
            rintro e w2 ⟨rfl, rfl⟩
            go_wp2_with fail
            go_roundw
            case rel => exact ⟨m + 1, by omega, by go_num, Lib.hid (HB.out.alloc hbs2 _), Lib.hid (HCR.out.later ((Below.refl _ _).alloc (Nat.le_refl _) _)), Lib.hid (HX.out.alloc _), HG2⟩
            case measure => simp [intOf]; omega
        · have hd2 : decide ((m : Int) < ((ts.length - k : Nat) : Int)) = false := decide_eq_false (by omega)
          have HG2 : Hid (rateL full rate ts = rateL full rate (ts.drop (k + 1))) := Lib.hid (by rw [HGD.out, HG.out, List.drop_eq_nil_of_le (by omega), rateIn, if_pos rfl])
          clear HG
          go_wp2_with fail
          go_roundw
          case rel => exact ⟨k + 1, by omega, by go_num, HB, HCR, HG2⟩
          case measure => simp [intOf]; omega
    · have hd1 : decide ((k : Int) < ts.length) = false := decide_eq_false (by omega)
      have HG2 : Hid (rateL full rate ts = true) := Lib.hid (by rw [HG.out, List.drop_eq_nil_of_le (by omega), rateL])
      go_wp2_with fail
      exact bodyPost_ret (v := .bool true) (by simp [results, Try.results37, go_sem]) rfl ⟨by rw [HTS.out, HF.out, HG2.out], HB.out⟩
end Go.Proofs.Ytelakgbpfnlpiaa
