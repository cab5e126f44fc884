/- Whether hosts were left alone. -/
import Derived.Test.YtelakgbpfnlpiaaAudGapM
import Derived.Test.YtelakgbpfnlpiaaLast
import Derived.BigQuiet
import Derived.Deep.QuietTactic
import Derived.Deep.RegionWith
import Derived.Deep.Cut
import Derived.Deep.CutRange
import Derived.Deep.DeepCutAuto
namespace Go.Proofs.Ytelakgbpfnlpiaa
open Go.RowKit Go.Maps Go.WideMaps

theorem below_drewN {B : Nat} {a w : World} (h : Below B a w) (n : Nat) : Below B a (w.drewN n) := ⟨h.os, h.tape, h.output, h.size, h.block⟩
theorem radd_sub (a b n v : Int) (hn : -clampI b = n) (h : subI a b = v) (w : World) : Calls Try.prog 32 #[.int .i64 a, .int .i64 n] w fun e w' => e = .returned (.int .i64 v) ∧ w = w' := by
  subst hn
  subst h
  rw [← sub_ref]
  exact radd_any a _ w

theorem next_end {floor : Int} {h : ByteArray} {t : Int} {es : List Ev} {m : Nat} (hm : es.length ≤ m) : nextOk floor h t (es.drop m) := by
  rw [List.drop_eq_nil_of_le hm]
  trivial
theorem next_skip {floor : Int} {h : ByteArray} {t : Int} {es : List Ev} {m : Nat} {e : Ev} (he : es[m]? = some e) (hn : ¬ (wentE e = true ∧ e.host = h)) : nextOk floor h t (es.drop m) ↔ nextOk floor h t (es.drop (m + 1)) := by
  rw [drop_at he, nextOk, if_neg hn]
theorem next_hit {floor : Int} {h : ByteArray} {t : Int} {es : List Ev} {m : Nat} {e : Ev} (he : es[m]? = some e) (hw : wentE e = true) (hh : e.host = h) : nextOk floor h t (es.drop m) ↔ ¬ subI e.time t < floor := by
  rw [drop_at he, nextOk, if_pos ⟨hw, hh⟩]
theorem ne_toList {x y : ByteArray} (h : x ≠ y) : (x.toList == y.toList) = false := by
  rw [beq_eq_false_iff_ne]
  intro e
  apply h
  rw [ByteArray.toList_eq, ByteArray.toList_eq] at e
  exact ByteArray.ext (Array.toList_inj.1 e)

set_option maxRecDepth 100000 in
set_option maxHeartbeats 6000000 in
theorem auditGaps_walk (x : Option Addr × Nat × Nat) (floor : Int) (w : World) (hx : IsEvs w x) (_ : (Lit.int .i64 floor).wf = true) :
    Calls Try.prog 9 #[.slice x.1 x.2.1 x.2.2, .int .i64 floor] w fun e w' => e = .returned (.bool true) ∧ Below w.heap.size w w' := by
  obtain ⟨a, len, cap⟩ := x
  obtain ⟨es0, hlen, hmax, hcap, hrd0, hok0⟩ := hx
  simp only at hlen hcap hrd0
  show Calls Try.prog 9 #[.slice a len cap, .int .i64 floor] w _
  obtain ⟨es, hes⟩ : ∃ es, es0.take 60 = es := ⟨_, rfl⟩
  have HES := Lib.hid hes
  have hl60 : es.length ≤ 60 := by rw [← hes, List.length_take]; omega
  have HRD0 := Lib.hid hrd0
  have HRD := Lib.hid (show Rd w a es by rw [← hes]; exact hrd0.take 60)
  have HOK := Lib.hid (show ∀ e, e ∈ es → EvOk e from fun e he => hok0 e (List.mem_of_mem_take (by rw [hes]; exact he)))
  clear hes hrd0 hok0
  go_enter Try.func9, Try.ntmps9
  go_wp2_with fail
  refine (cut_as es0 es HES.out a len cap hlen _ HRD0.out hmax (by omega)).mono ?_
  rintro e w0 ⟨rfl, rfl⟩
  clear HES HRD0 hlen hmax hcap
  go_wp2_with fail
  obtain ⟨b, off, ha, hc⟩ := HRD.out.row
  have HA := Lib.hid ha
  have HC := Lib.hid hc
  clear ha hc
  go_loopw [5, 6] (fun vo vk wx => ∃ (k : Nat) (ob : Bool), k ≤ es.length ∧ vk = .int .i64 k ∧ vo = .bool ob ∧ Hid (Below w0.heap.size w0 wx) ∧ Hid (ob = true ↔ WantK floor es k)) (fun _ vk _ => es.length - (intOf vk).toNat)
  case atStart => exact ⟨0, true, by omega, rfl, rfl, Lib.hid (Below.refl _ _), Lib.hid ⟨fun _ i e hi => absurd hi (Nat.not_lt_zero i), fun _ => rfl⟩⟩
  case round =>
    obtain ⟨k, ob, hk, rfl, rfl, HB, HO⟩ := hrel
    by_cases hlt : k < es.length
    · have hd1 : decide ((k : Int) < es.length) = true := decide_eq_true (by omega)
      have ha := HA.out (by omega)
      subst ha
      obtain ⟨⟨kd, tm, id, ho, pa, pr, la⟩, he⟩ : ∃ e, es[k]? = some e := ⟨_, List.getElem?_eq_getElem hlt⟩
      have HE := Lib.hid he
      clear he
      obtain ⟨wv, hwv⟩ : ∃ v, wentE ⟨kd, tm, id, ho, pa, pr, la⟩ = v := ⟨_, rfl⟩
      have HWV := Lib.hid hwv
      clear hwv
      go_wp2_with fail
      -- number k against those behind it, from m on: nothing of its host went in between
      go_loopw [5, 7] (fun vo vm wx => ∃ m : Nat, k + 1 ≤ m ∧ m ≤ es.length ∧ vm = .int .i64 m ∧ vo = .bool ob ∧ Hid (Below w0.heap.size w0 wx) ∧ Hid (nextOk floor ho tm (es.drop (k + 1)) ↔ nextOk floor ho tm (es.drop m))) (fun _ vm _ => es.length - (intOf vm).toNat)
      case atStart => exact ⟨k + 1, by omega, by omega, rfl, rfl, HB, Lib.hid Iff.rfl⟩
      case round =>
        clear HB
        obtain ⟨m, hm1, hm2, rfl, rfl, HB, HN⟩ := hrel
        obtain ⟨c0, c1, c2, c3, c4, c5, c6⟩ := (RdB.later HC.out HB.out).at HE.out
        simp only at c0 c1 c2 c3 c4 c5 c6
        by_cases hml : m < es.length
        · have hd2 : decide ((m : Int) < es.length) = true := decide_eq_true (by omega)
          go_wp2_with fail
          refine (went_at kd tm id ho pa pr la wv HWV.out _).mono ?_
          rintro e w1 ⟨rfl, hb1⟩
          have HB1 := Lib.hid (HB.out.trans (hb1.mono HB.out.size))
          clear hb1 c0 c1 c2 c3 c4 c5 c6 HB
          cases wv with
          | false =>
            have HO2 := Lib.hid (show ob = true ↔ WantK floor es (k + 1) by rw [wantK_step HE.out, HO.out]; exact ⟨fun h => ⟨h, fun hw => (by rw [HWV.out] at hw; cases hw)⟩, fun h => h.1⟩)
            go_wp2_with fail
            go_roundw
            case rel => exact ⟨k + 1, ob, by omega, by go_num, rfl, HB1, HO2⟩
            case measure => simp [intOf]; omega
          | true =>
            go_wp2_with fail
            obtain ⟨⟨kd2, tm2, id2, ho2, pa2, pr2, la2⟩, he2⟩ : ∃ e, es[m]? = some e := ⟨_, List.getElem?_eq_getElem hml⟩
            have HE2 := Lib.hid he2
            clear he2
            obtain ⟨r9, hr9⟩ : ∃ r : Bool, r = !(wentE ⟨kd2, tm2, id2, ho2, pa2, pr2, la2⟩ && decide (ho2 = ho)) := ⟨_, rfl⟩
            go_upto_region 9 with fail
            go_cut [51] (fun v wx => v = .bool r9 ∧ Hid (Below w0.heap.size w0 wx))
            case first =>
              have hB := HB1.out.drew
              obtain ⟨g0, g1, g2, g3, g4, g5, g6⟩ := (RdB.later HC.out HB1.out).at HE2.out
              simp only at g0 g1 g2 g3 g4 g5 g6
              obtain ⟨v2, hv2⟩ : ∃ v, wentE ⟨kd2, tm2, id2, ho2, pa2, pr2, la2⟩ = v := ⟨_, rfl⟩
              rw [hv2] at hr9
              have HV2 := Lib.hid hv2
              clear hv2
              cases v2 with
              | false =>
                simp at hr9
                subst hr9
                clear g0 g1 g2 g3 g4 g5 g6
                refine wp_region_last 20 (fun w' => Below w0.heap.size w0 w' ∧ RdB w' b off es) (by kernel_rfl) (⟨HB1.out.drew, RdB.later (RdB.later HC.out HB1.out) ((Below.refl _ _).drew)⟩) (fun hHeld hClosed => ?_)
                refine wpAnyL_take (i := 0) (v := ?_) rfl (by kernel_rfl) (by kernel_rfl) (by kernel_rfl) (by kernel_rfl) (fun _ _ _ h => h) (by kernel_rfl) hClosed (Or.inl ⟨by rfl, ?_⟩) hHeld (fun hClosed => ?_)
                rotate_left
                · intro wv hSw; go_simp; all_goals (with_reducible rfl)
                (try simp only [List.getElem_toArray, List.getElem_cons_zero, put_at, List.set])
                refine wpAnyL_take (i := 1) (v := ?_) rfl (by kernel_rfl) (by kernel_rfl) (by kernel_rfl) (by kernel_rfl) (fun _ _ _ h => h) (by kernel_rfl) hClosed (Or.inl ⟨by rfl, ?_⟩) hHeld (fun hClosed => ?_)
                rotate_left
                · intro wv hSw; go_simp; all_goals (with_reducible rfl)
                (try simp only [List.getElem_toArray, List.getElem_cons_succ, List.getElem_cons_zero, put_at, List.set])
                refine wpAnyL_take (i := 2) (v := ?_) rfl (by kernel_rfl) (by kernel_rfl) (by kernel_rfl) (by kernel_rfl) (fun _ _ _ h => h) (by kernel_rfl) hClosed (Or.inl ⟨by rfl, ?_⟩) hHeld (fun hClosed => ?_)
                rotate_left
                · intro wv hSw; go_simp; all_goals (with_reducible rfl)
                (try simp only [List.getElem_toArray, List.getElem_cons_succ, List.getElem_cons_zero, put_at, List.set])
                refine wpAnyL_take (i := 3) (v := ?_) rfl (by kernel_rfl) (by kernel_rfl) (by kernel_rfl) (by kernel_rfl) (fun _ _ _ h => h) (by kernel_rfl) hClosed (Or.inl ⟨by rfl, ?_⟩) hHeld (fun hClosed => ?_)
                rotate_left
                · intro wv hSw; obtain ⟨g0, g1, g2, g3, g4, g5, g6⟩ := hSw.2.at HE2.out; simp only at g0 g1 g2 g3 g4 g5 g6; go_simp; all_goals (with_reducible rfl)
                (try simp only [List.getElem_toArray, List.getElem_cons_succ, List.getElem_cons_zero, put_at, List.set])
                refine wpAnyL_one (i := 4) rfl (by kernel_rfl) (by kernel_rfl) hClosed (fun KK hK => ?_)
                go_simp
                refine (went_at kd2 tm2 id2 ho2 pa2 pr2 la2 false HV2.out _).mono ?_
                rintro e w' ⟨rfl, hb⟩
                go_wp2_with fail
                refine hK.out _ _ ?_ (fun hClosed hHeld => ?_)
                · exact ⟨hHeld.1.trans (hb.mono hHeld.1.size), hHeld.2.later hb⟩
                clear hK KK
                (first | simp only [List.getElem_toArray, List.getElem_cons_succ, List.getElem_cons_zero, put_at, List.set] | (try simp only [put_at, List.set]))
                refine wpAnyL_take (i := 5) (v := ?_) rfl (by kernel_rfl) (by kernel_rfl) (by kernel_rfl) (by kernel_rfl) (fun _ _ _ h => h) (by kernel_rfl) hClosed (Or.inl ⟨by rfl, ?_⟩) hHeld (fun hClosed => ?_)
                rotate_left
                · intro wv hSw; go_simp; all_goals (with_reducible rfl)
                (try simp only [List.getElem_toArray, List.getElem_cons_succ, List.getElem_cons_zero, put_at, List.set])
                refine wpAnyL_take (i := 6) (v := ?_) rfl (by kernel_rfl) (by kernel_rfl) (by kernel_rfl) (by kernel_rfl) (fun _ _ _ h => h) (by kernel_rfl) hClosed (Or.inl ⟨by rfl, ?_⟩) hHeld (fun hClosed => ?_)
                rotate_left
                · intro wv hSw; go_simp; all_goals (with_reducible rfl)
                (try simp only [List.getElem_toArray, List.getElem_cons_succ, List.getElem_cons_zero, put_at, List.set])
                refine wpAnyL_take (i := 7) (v := undef) rfl (by kernel_rfl) (by kernel_rfl) (by kernel_rfl) (by kernel_rfl) (fun _ _ _ h => h) (by kernel_rfl) hClosed (Or.inr ⟨by rfl, rfl⟩) hHeld (fun hClosed => ?_)
                (try simp only [List.getElem_toArray, List.getElem_cons_succ, List.getElem_cons_zero, put_at, List.set])
                refine wpAnyL_take (i := 8) (v := undef) rfl (by kernel_rfl) (by kernel_rfl) (by kernel_rfl) (by kernel_rfl) (fun _ _ _ h => h) (by kernel_rfl) hClosed (Or.inr ⟨by rfl, rfl⟩) hHeld (fun hClosed => ?_)
                (try simp only [List.getElem_toArray, List.getElem_cons_succ, List.getElem_cons_zero, put_at, List.set])
                refine wpAnyL_take (i := 9) (v := undef) rfl (by kernel_rfl) (by kernel_rfl) (by kernel_rfl) (by kernel_rfl) (fun _ _ _ h => h) (by kernel_rfl) hClosed (Or.inr ⟨by rfl, rfl⟩) hHeld (fun hClosed => ?_)
                (try simp only [List.getElem_toArray, List.getElem_cons_succ, List.getElem_cons_zero, put_at, List.set])
                refine wpAnyL_take (i := 10) (v := undef) rfl (by kernel_rfl) (by kernel_rfl) (by kernel_rfl) (by kernel_rfl) (fun _ _ _ h => h) (by kernel_rfl) hClosed (Or.inr ⟨by rfl, rfl⟩) hHeld (fun hClosed => ?_)
                (try simp only [List.getElem_toArray, List.getElem_cons_succ, List.getElem_cons_zero, put_at, List.set])
                refine wpAnyL_take (i := 11) (v := undef) rfl (by kernel_rfl) (by kernel_rfl) (by kernel_rfl) (by kernel_rfl) (fun _ _ _ h => h) (by kernel_rfl) hClosed (Or.inr ⟨by rfl, rfl⟩) hHeld (fun hClosed => ?_)
                (try simp only [List.getElem_toArray, List.getElem_cons_succ, List.getElem_cons_zero, put_at, List.set])
                refine wpAnyL_take (i := 12) (v := undef) rfl (by kernel_rfl) (by kernel_rfl) (by kernel_rfl) (by kernel_rfl) (fun _ _ _ h => h) (by kernel_rfl) hClosed (Or.inr ⟨by rfl, rfl⟩) hHeld (fun hClosed => ?_)
                (try simp only [List.getElem_toArray, List.getElem_cons_succ, List.getElem_cons_zero, put_at, List.set])
                refine wpAnyL_take (i := 13) (v := undef) rfl (by kernel_rfl) (by kernel_rfl) (by kernel_rfl) (by kernel_rfl) (fun _ _ _ h => h) (by kernel_rfl) hClosed (Or.inr ⟨by rfl, rfl⟩) hHeld (fun hClosed => ?_)
                (try simp only [List.getElem_toArray, List.getElem_cons_succ, List.getElem_cons_zero, put_at, List.set])
                refine wpAnyL_take (i := 14) (v := undef) rfl (by kernel_rfl) (by kernel_rfl) (by kernel_rfl) (by kernel_rfl) (fun _ _ _ h => h) (by kernel_rfl) hClosed (Or.inr ⟨by rfl, rfl⟩) hHeld (fun hClosed => ?_)
                (try simp only [List.getElem_toArray, List.getElem_cons_succ, List.getElem_cons_zero, put_at, List.set])
                refine wpAnyL_take (i := 15) (v := undef) rfl (by kernel_rfl) (by kernel_rfl) (by kernel_rfl) (by kernel_rfl) (fun _ _ _ h => h) (by kernel_rfl) hClosed (Or.inr ⟨by rfl, rfl⟩) hHeld (fun hClosed => ?_)
                (try simp only [List.getElem_toArray, List.getElem_cons_succ, List.getElem_cons_zero, put_at, List.set])
                refine wpAnyL_take (i := 16) (v := undef) rfl (by kernel_rfl) (by kernel_rfl) (by kernel_rfl) (by kernel_rfl) (fun _ _ _ h => h) (by kernel_rfl) hClosed (Or.inr ⟨by rfl, rfl⟩) hHeld (fun hClosed => ?_)
                (try simp only [List.getElem_toArray, List.getElem_cons_succ, List.getElem_cons_zero, put_at, List.set])
                refine wpAnyL_take (i := 17) (v := undef) rfl (by kernel_rfl) (by kernel_rfl) (by kernel_rfl) (by kernel_rfl) (fun _ _ _ h => h) (by kernel_rfl) hClosed (Or.inr ⟨by rfl, rfl⟩) hHeld (fun hClosed => ?_)
                (try simp only [List.getElem_toArray, List.getElem_cons_succ, List.getElem_cons_zero, put_at, List.set])
                refine wpAnyL_take (i := 18) (v := undef) rfl (by kernel_rfl) (by kernel_rfl) (by kernel_rfl) (by kernel_rfl) (fun _ _ _ h => h) (by kernel_rfl) hClosed (Or.inr ⟨by rfl, rfl⟩) hHeld (fun hClosed => ?_)
                (try simp only [List.getElem_toArray, List.getElem_cons_succ, List.getElem_cons_zero, put_at, List.set])
                refine wpAnyL_take (i := 19) (v := undef) rfl (by kernel_rfl) (by kernel_rfl) (by kernel_rfl) (by kernel_rfl) (fun _ _ _ h => h) (by kernel_rfl) hClosed (Or.inr ⟨by rfl, rfl⟩) hHeld (fun hClosed => ?_)
                (try simp only [List.getElem_toArray, List.getElem_cons_succ, List.getElem_cons_zero, put_at, List.set])
                refine wpAnyL_last rfl (by kernel_rfl) (by kernel_rfl) (fun KK hK => ?_)
                go_simp
                refine hK.out _ _ ?_
                (try simp only [put_at, List.set])
                go_wp2_with fail
                go_meet
                exact ⟨rfl, Lib.hid hHeld.1⟩
              | true =>
                by_cases hh : ho2 = ho
                · subst hh
                  simp at hr9
                  subst hr9
                  clear g0 g1 g2 g3 g4 g5 g6
                  refine wp_region_last 20 (fun w' => Below w0.heap.size w0 w' ∧ RdB w' b off es) (by kernel_rfl) (⟨HB1.out.drew, RdB.later (RdB.later HC.out HB1.out) ((Below.refl _ _).drew)⟩) (fun hHeld hClosed => ?_)
                  refine wpAnyL_take (i := 0) (v := ?_) rfl (by kernel_rfl) (by kernel_rfl) (by kernel_rfl) (by kernel_rfl) (fun _ _ _ h => h) (by kernel_rfl) hClosed (Or.inl ⟨by rfl, ?_⟩) hHeld (fun hClosed => ?_)
                  rotate_left
                  · intro wv hSw; go_simp; all_goals (with_reducible rfl)
                  (try simp only [List.getElem_toArray, List.getElem_cons_zero, put_at, List.set])
                  refine wpAnyL_take (i := 1) (v := ?_) rfl (by kernel_rfl) (by kernel_rfl) (by kernel_rfl) (by kernel_rfl) (fun _ _ _ h => h) (by kernel_rfl) hClosed (Or.inl ⟨by rfl, ?_⟩) hHeld (fun hClosed => ?_)
                  rotate_left
                  · intro wv hSw; go_simp; all_goals (with_reducible rfl)
                  (try simp only [List.getElem_toArray, List.getElem_cons_succ, List.getElem_cons_zero, put_at, List.set])
                  refine wpAnyL_take (i := 2) (v := ?_) rfl (by kernel_rfl) (by kernel_rfl) (by kernel_rfl) (by kernel_rfl) (fun _ _ _ h => h) (by kernel_rfl) hClosed (Or.inl ⟨by rfl, ?_⟩) hHeld (fun hClosed => ?_)
                  rotate_left
                  · intro wv hSw; go_simp; all_goals (with_reducible rfl)
                  (try simp only [List.getElem_toArray, List.getElem_cons_succ, List.getElem_cons_zero, put_at, List.set])
                  refine wpAnyL_take (i := 3) (v := ?_) rfl (by kernel_rfl) (by kernel_rfl) (by kernel_rfl) (by kernel_rfl) (fun _ _ _ h => h) (by kernel_rfl) hClosed (Or.inl ⟨by rfl, ?_⟩) hHeld (fun hClosed => ?_)
                  rotate_left
                  · intro wv hSw; obtain ⟨g0, g1, g2, g3, g4, g5, g6⟩ := hSw.2.at HE2.out; obtain ⟨f0, f1, f2, f3, f4, f5, f6⟩ := hSw.2.at HE.out; simp only at g0 g1 g2 g3 g4 g5 g6 f0 f1 f2 f3 f4 f5 f6; go_simp; all_goals (with_reducible rfl)
                  (try simp only [List.getElem_toArray, List.getElem_cons_succ, List.getElem_cons_zero, put_at, List.set])
                  refine wpAnyL_one (i := 4) rfl (by kernel_rfl) (by kernel_rfl) hClosed (fun KK hK => ?_)
                  go_simp
                  refine (went_at kd2 tm2 id2 ho2 pa2 pr2 la2 true HV2.out _).mono ?_
                  rintro e w' ⟨rfl, hb⟩
                  go_wp2_with fail
                  refine hK.out _ _ ?_ (fun hClosed hHeld => ?_)
                  · exact ⟨hHeld.1.trans (hb.mono hHeld.1.size), hHeld.2.later hb⟩
                  clear hK KK
                  (first | simp only [List.getElem_toArray, List.getElem_cons_succ, List.getElem_cons_zero, put_at, List.set] | (try simp only [put_at, List.set]))
                  refine wpAnyL_take (i := 5) (v := ?_) rfl (by kernel_rfl) (by kernel_rfl) (by kernel_rfl) (by kernel_rfl) (fun _ _ _ h => h) (by kernel_rfl) hClosed (Or.inl ⟨by rfl, ?_⟩) hHeld (fun hClosed => ?_)
                  rotate_left
                  · intro wv hSw; go_simp; all_goals (with_reducible rfl)
                  (try simp only [List.getElem_toArray, List.getElem_cons_succ, List.getElem_cons_zero, put_at, List.set])
                  refine wpAnyL_take (i := 6) (v := ?_) rfl (by kernel_rfl) (by kernel_rfl) (by kernel_rfl) (by kernel_rfl) (fun _ _ _ h => h) (by kernel_rfl) hClosed (Or.inl ⟨by rfl, ?_⟩) hHeld (fun hClosed => ?_)
                  rotate_left
                  · intro wv hSw; go_simp; all_goals (with_reducible rfl)
                  (try simp only [List.getElem_toArray, List.getElem_cons_succ, List.getElem_cons_zero, put_at, List.set])
                  refine wpAnyL_take (i := 7) (v := ?_) rfl (by kernel_rfl) (by kernel_rfl) (by kernel_rfl) (by kernel_rfl) (fun _ _ _ h => h) (by kernel_rfl) hClosed (Or.inl ⟨by rfl, ?_⟩) hHeld (fun hClosed => ?_)
                  rotate_left
                  · intro wv hSw; go_simp; all_goals (with_reducible rfl)
                  (try simp only [List.getElem_toArray, List.getElem_cons_succ, List.getElem_cons_zero, put_at, List.set])
                  refine wpAnyL_take (i := 8) (v := ?_) rfl (by kernel_rfl) (by kernel_rfl) (by kernel_rfl) (by kernel_rfl) (fun _ _ _ h => h) (by kernel_rfl) hClosed (Or.inl ⟨by rfl, ?_⟩) hHeld (fun hClosed => ?_)
                  rotate_left
                  · intro wv hSw; go_simp; all_goals (with_reducible rfl)
                  (try simp only [List.getElem_toArray, List.getElem_cons_succ, List.getElem_cons_zero, put_at, List.set])
                  refine wpAnyL_take (i := 9) (v := ?_) rfl (by kernel_rfl) (by kernel_rfl) (by kernel_rfl) (by kernel_rfl) (fun _ _ _ h => h) (by kernel_rfl) hClosed (Or.inl ⟨by rfl, ?_⟩) hHeld (fun hClosed => ?_)
                  rotate_left
                  · intro wv hSw; go_simp; all_goals (with_reducible rfl)
                  (try simp only [List.getElem_toArray, List.getElem_cons_succ, List.getElem_cons_zero, put_at, List.set])
                  refine wpAnyL_take (i := 10) (v := ?_) rfl (by kernel_rfl) (by kernel_rfl) (by kernel_rfl) (by kernel_rfl) (fun _ _ _ h => h) (by kernel_rfl) hClosed (Or.inl ⟨by rfl, ?_⟩) hHeld (fun hClosed => ?_)
                  rotate_left
                  · intro wv hSw; go_simp; all_goals (with_reducible rfl)
                  (try simp only [List.getElem_toArray, List.getElem_cons_succ, List.getElem_cons_zero, put_at, List.set])
                  refine wpAnyL_take (i := 11) (v := ?_) rfl (by kernel_rfl) (by kernel_rfl) (by kernel_rfl) (by kernel_rfl) (fun _ _ _ h => h) (by kernel_rfl) hClosed (Or.inl ⟨by rfl, ?_⟩) hHeld (fun hClosed => ?_)
                  rotate_left
                  · intro wv hSw; go_simp; all_goals (with_reducible rfl)
                  (try simp only [List.getElem_toArray, List.getElem_cons_succ, List.getElem_cons_zero, put_at, List.set])
                  refine wpAnyL_take (i := 12) (v := ?_) rfl (by kernel_rfl) (by kernel_rfl) (by kernel_rfl) (by kernel_rfl) (fun _ _ _ h => h) (by kernel_rfl) hClosed (Or.inl ⟨by rfl, ?_⟩) hHeld (fun hClosed => ?_)
                  rotate_left
                  · intro wv hSw; obtain ⟨g0, g1, g2, g3, g4, g5, g6⟩ := hSw.2.at HE2.out; obtain ⟨f0, f1, f2, f3, f4, f5, f6⟩ := hSw.2.at HE.out; simp only at g0 g1 g2 g3 g4 g5 g6 f0 f1 f2 f3 f4 f5 f6; go_simp; all_goals (with_reducible rfl)
                  (try simp only [List.getElem_toArray, List.getElem_cons_succ, List.getElem_cons_zero, put_at, List.set])
                  refine wpAnyL_take (i := 13) (v := ?_) rfl (by kernel_rfl) (by kernel_rfl) (by kernel_rfl) (by kernel_rfl) (fun _ _ _ h => h) (by kernel_rfl) hClosed (Or.inl ⟨by rfl, ?_⟩) hHeld (fun hClosed => ?_)
                  rotate_left
                  · intro wv hSw; go_simp; all_goals (with_reducible rfl)
                  (try simp only [List.getElem_toArray, List.getElem_cons_succ, List.getElem_cons_zero, put_at, List.set])
                  refine wpAnyL_take (i := 14) (v := ?_) rfl (by kernel_rfl) (by kernel_rfl) (by kernel_rfl) (by kernel_rfl) (fun _ _ _ h => h) (by kernel_rfl) hClosed (Or.inl ⟨by rfl, ?_⟩) hHeld (fun hClosed => ?_)
                  rotate_left
                  · intro wv hSw; go_simp; all_goals (with_reducible rfl)
                  (try simp only [List.getElem_toArray, List.getElem_cons_succ, List.getElem_cons_zero, put_at, List.set])
                  refine wpAnyL_take (i := 15) (v := ?_) rfl (by kernel_rfl) (by kernel_rfl) (by kernel_rfl) (by kernel_rfl) (fun _ _ _ h => h) (by kernel_rfl) hClosed (Or.inl ⟨by rfl, ?_⟩) hHeld (fun hClosed => ?_)
                  rotate_left
                  · intro wv hSw; go_simp; all_goals (with_reducible rfl)
                  (try simp only [List.getElem_toArray, List.getElem_cons_succ, List.getElem_cons_zero, put_at, List.set])
                  refine wpAnyL_take (i := 16) (v := ?_) rfl (by kernel_rfl) (by kernel_rfl) (by kernel_rfl) (by kernel_rfl) (fun _ _ _ h => h) (by kernel_rfl) hClosed (Or.inl ⟨by rfl, ?_⟩) hHeld (fun hClosed => ?_)
                  rotate_left
                  · intro wv hSw; go_simp; all_goals (with_reducible rfl)
                  (try simp only [List.getElem_toArray, List.getElem_cons_succ, List.getElem_cons_zero, put_at, List.set])
                  refine wpAnyL_take (i := 17) (v := ?_) rfl (by kernel_rfl) (by kernel_rfl) (by kernel_rfl) (by kernel_rfl) (fun _ _ _ h => h) (by kernel_rfl) hClosed (Or.inl ⟨by rfl, ?_⟩) hHeld (fun hClosed => ?_)
                  rotate_left
                  · intro wv hSw; go_simp; all_goals (with_reducible rfl)
                  (try simp only [List.getElem_toArray, List.getElem_cons_succ, List.getElem_cons_zero, put_at, List.set])
                  refine wpAnyL_take (i := 18) (v := ?_) rfl (by kernel_rfl) (by kernel_rfl) (by kernel_rfl) (by kernel_rfl) (fun _ _ _ h => h) (by kernel_rfl) hClosed (Or.inl ⟨by rfl, ?_⟩) hHeld (fun hClosed => ?_)
                  rotate_left
                  · intro wv hSw; obtain ⟨g0, g1, g2, g3, g4, g5, g6⟩ := hSw.2.at HE2.out; obtain ⟨f0, f1, f2, f3, f4, f5, f6⟩ := hSw.2.at HE.out; simp only at g0 g1 g2 g3 g4 g5 g6 f0 f1 f2 f3 f4 f5 f6; go_simp; all_goals (with_reducible rfl)
                  (try simp only [List.getElem_toArray, List.getElem_cons_succ, List.getElem_cons_zero, put_at, List.set])
                  refine wpAnyL_take (i := 19) (v := ?_) rfl (by kernel_rfl) (by kernel_rfl) (by kernel_rfl) (by kernel_rfl) (fun _ _ _ h => h) (by kernel_rfl) hClosed (Or.inl ⟨by rfl, ?_⟩) hHeld (fun hClosed => ?_)
                  rotate_left
                  · intro wv hSw; go_simp; all_goals (with_reducible rfl)
                  (try simp only [List.getElem_toArray, List.getElem_cons_succ, List.getElem_cons_zero, put_at, List.set])
                  refine wpAnyL_last rfl (by kernel_rfl) (by kernel_rfl) (fun KK hK => ?_)
                  go_simp
                  refine hK.out _ _ ?_
                  (try simp only [put_at, List.set])
                  go_wp2_with fail
                  go_meet
                  exact ⟨rfl, Lib.hid hHeld.1⟩
                · have n1 := ne_toList hh
                  have n2 := ne_toList (Ne.symm hh)
                  simp [hh] at hr9
                  subst hr9
                  clear hh
                  clear g0 g1 g2 g3 g4 g5 g6
                  refine wp_region_last 20 (fun w' => Below w0.heap.size w0 w' ∧ RdB w' b off es) (by kernel_rfl) (⟨HB1.out.drew, RdB.later (RdB.later HC.out HB1.out) ((Below.refl _ _).drew)⟩) (fun hHeld hClosed => ?_)
                  refine wpAnyL_take (i := 0) (v := ?_) rfl (by kernel_rfl) (by kernel_rfl) (by kernel_rfl) (by kernel_rfl) (fun _ _ _ h => h) (by kernel_rfl) hClosed (Or.inl ⟨by rfl, ?_⟩) hHeld (fun hClosed => ?_)
                  rotate_left
                  · intro wv hSw; go_simp; all_goals (with_reducible rfl)
                  (try simp only [List.getElem_toArray, List.getElem_cons_zero, put_at, List.set])
                  refine wpAnyL_take (i := 1) (v := ?_) rfl (by kernel_rfl) (by kernel_rfl) (by kernel_rfl) (by kernel_rfl) (fun _ _ _ h => h) (by kernel_rfl) hClosed (Or.inl ⟨by rfl, ?_⟩) hHeld (fun hClosed => ?_)
                  rotate_left
                  · intro wv hSw; go_simp; all_goals (with_reducible rfl)
                  (try simp only [List.getElem_toArray, List.getElem_cons_succ, List.getElem_cons_zero, put_at, List.set])
                  refine wpAnyL_take (i := 2) (v := ?_) rfl (by kernel_rfl) (by kernel_rfl) (by kernel_rfl) (by kernel_rfl) (fun _ _ _ h => h) (by kernel_rfl) hClosed (Or.inl ⟨by rfl, ?_⟩) hHeld (fun hClosed => ?_)
                  rotate_left
                  · intro wv hSw; go_simp; all_goals (with_reducible rfl)
                  (try simp only [List.getElem_toArray, List.getElem_cons_succ, List.getElem_cons_zero, put_at, List.set])
                  refine wpAnyL_take (i := 3) (v := ?_) rfl (by kernel_rfl) (by kernel_rfl) (by kernel_rfl) (by kernel_rfl) (fun _ _ _ h => h) (by kernel_rfl) hClosed (Or.inl ⟨by rfl, ?_⟩) hHeld (fun hClosed => ?_)
                  rotate_left
                  · intro wv hSw; obtain ⟨g0, g1, g2, g3, g4, g5, g6⟩ := hSw.2.at HE2.out; obtain ⟨f0, f1, f2, f3, f4, f5, f6⟩ := hSw.2.at HE.out; simp only at g0 g1 g2 g3 g4 g5 g6 f0 f1 f2 f3 f4 f5 f6; go_simp; all_goals (with_reducible rfl)
                  (try simp only [List.getElem_toArray, List.getElem_cons_succ, List.getElem_cons_zero, put_at, List.set])
                  refine wpAnyL_one (i := 4) rfl (by kernel_rfl) (by kernel_rfl) hClosed (fun KK hK => ?_)
                  go_simp
                  refine (went_at kd2 tm2 id2 ho2 pa2 pr2 la2 true HV2.out _).mono ?_
                  rintro e w' ⟨rfl, hb⟩
                  go_wp2_with fail
                  refine hK.out _ _ ?_ (fun hClosed hHeld => ?_)
                  · exact ⟨hHeld.1.trans (hb.mono hHeld.1.size), hHeld.2.later hb⟩
                  clear hK KK
                  (first | simp only [List.getElem_toArray, List.getElem_cons_succ, List.getElem_cons_zero, put_at, List.set] | (try simp only [put_at, List.set]))
                  refine wpAnyL_take (i := 5) (v := ?_) rfl (by kernel_rfl) (by kernel_rfl) (by kernel_rfl) (by kernel_rfl) (fun _ _ _ h => h) (by kernel_rfl) hClosed (Or.inl ⟨by rfl, ?_⟩) hHeld (fun hClosed => ?_)
                  rotate_left
                  · intro wv hSw; go_simp; all_goals (with_reducible rfl)
                  (try simp only [List.getElem_toArray, List.getElem_cons_succ, List.getElem_cons_zero, put_at, List.set])
                  refine wpAnyL_take (i := 6) (v := ?_) rfl (by kernel_rfl) (by kernel_rfl) (by kernel_rfl) (by kernel_rfl) (fun _ _ _ h => h) (by kernel_rfl) hClosed (Or.inl ⟨by rfl, ?_⟩) hHeld (fun hClosed => ?_)
                  rotate_left
                  · intro wv hSw; go_simp; all_goals (with_reducible rfl)
                  (try simp only [List.getElem_toArray, List.getElem_cons_succ, List.getElem_cons_zero, put_at, List.set])
                  refine wpAnyL_take (i := 7) (v := ?_) rfl (by kernel_rfl) (by kernel_rfl) (by kernel_rfl) (by kernel_rfl) (fun _ _ _ h => h) (by kernel_rfl) hClosed (Or.inl ⟨by rfl, ?_⟩) hHeld (fun hClosed => ?_)
                  rotate_left
                  · intro wv hSw; go_simp; all_goals (with_reducible rfl)
                  (try simp only [List.getElem_toArray, List.getElem_cons_succ, List.getElem_cons_zero, put_at, List.set])
                  refine wpAnyL_take (i := 8) (v := ?_) rfl (by kernel_rfl) (by kernel_rfl) (by kernel_rfl) (by kernel_rfl) (fun _ _ _ h => h) (by kernel_rfl) hClosed (Or.inl ⟨by rfl, ?_⟩) hHeld (fun hClosed => ?_)
                  rotate_left
                  · intro wv hSw; go_simp; all_goals (with_reducible rfl)
                  (try simp only [List.getElem_toArray, List.getElem_cons_succ, List.getElem_cons_zero, put_at, List.set])
                  refine wpAnyL_take (i := 9) (v := ?_) rfl (by kernel_rfl) (by kernel_rfl) (by kernel_rfl) (by kernel_rfl) (fun _ _ _ h => h) (by kernel_rfl) hClosed (Or.inl ⟨by rfl, ?_⟩) hHeld (fun hClosed => ?_)
                  rotate_left
                  · intro wv hSw; go_simp; all_goals (with_reducible rfl)
                  (try simp only [List.getElem_toArray, List.getElem_cons_succ, List.getElem_cons_zero, put_at, List.set])
                  refine wpAnyL_take (i := 10) (v := ?_) rfl (by kernel_rfl) (by kernel_rfl) (by kernel_rfl) (by kernel_rfl) (fun _ _ _ h => h) (by kernel_rfl) hClosed (Or.inl ⟨by rfl, ?_⟩) hHeld (fun hClosed => ?_)
                  rotate_left
                  · intro wv hSw; go_simp; all_goals (with_reducible rfl)
                  (try simp only [List.getElem_toArray, List.getElem_cons_succ, List.getElem_cons_zero, put_at, List.set])
                  refine wpAnyL_take (i := 11) (v := ?_) rfl (by kernel_rfl) (by kernel_rfl) (by kernel_rfl) (by kernel_rfl) (fun _ _ _ h => h) (by kernel_rfl) hClosed (Or.inl ⟨by rfl, ?_⟩) hHeld (fun hClosed => ?_)
                  rotate_left
                  · intro wv hSw; go_simp; all_goals (with_reducible rfl)
                  (try simp only [List.getElem_toArray, List.getElem_cons_succ, List.getElem_cons_zero, put_at, List.set])
                  refine wpAnyL_take (i := 12) (v := ?_) rfl (by kernel_rfl) (by kernel_rfl) (by kernel_rfl) (by kernel_rfl) (fun _ _ _ h => h) (by kernel_rfl) hClosed (Or.inl ⟨by rfl, ?_⟩) hHeld (fun hClosed => ?_)
                  rotate_left
                  · intro wv hSw; obtain ⟨g0, g1, g2, g3, g4, g5, g6⟩ := hSw.2.at HE2.out; obtain ⟨f0, f1, f2, f3, f4, f5, f6⟩ := hSw.2.at HE.out; simp only at g0 g1 g2 g3 g4 g5 g6 f0 f1 f2 f3 f4 f5 f6; go_simp; all_goals (with_reducible rfl)
                  (try simp only [List.getElem_toArray, List.getElem_cons_succ, List.getElem_cons_zero, put_at, List.set])
                  refine wpAnyL_take (i := 13) (v := ?_) rfl (by kernel_rfl) (by kernel_rfl) (by kernel_rfl) (by kernel_rfl) (fun _ _ _ h => h) (by kernel_rfl) hClosed (Or.inl ⟨by rfl, ?_⟩) hHeld (fun hClosed => ?_)
                  rotate_left
                  · intro wv hSw; go_simp; all_goals (with_reducible rfl)
                  (try simp only [List.getElem_toArray, List.getElem_cons_succ, List.getElem_cons_zero, put_at, List.set])
                  refine wpAnyL_take (i := 14) (v := ?_) rfl (by kernel_rfl) (by kernel_rfl) (by kernel_rfl) (by kernel_rfl) (fun _ _ _ h => h) (by kernel_rfl) hClosed (Or.inl ⟨by rfl, ?_⟩) hHeld (fun hClosed => ?_)
                  rotate_left
                  · intro wv hSw; go_simp; all_goals (with_reducible rfl)
                  (try simp only [List.getElem_toArray, List.getElem_cons_succ, List.getElem_cons_zero, put_at, List.set])
                  refine wpAnyL_take (i := 15) (v := ?_) rfl (by kernel_rfl) (by kernel_rfl) (by kernel_rfl) (by kernel_rfl) (fun _ _ _ h => h) (by kernel_rfl) hClosed (Or.inl ⟨by rfl, ?_⟩) hHeld (fun hClosed => ?_)
                  rotate_left
                  · intro wv hSw; go_simp; all_goals (with_reducible rfl)
                  (try simp only [List.getElem_toArray, List.getElem_cons_succ, List.getElem_cons_zero, put_at, List.set])
                  refine wpAnyL_take (i := 16) (v := ?_) rfl (by kernel_rfl) (by kernel_rfl) (by kernel_rfl) (by kernel_rfl) (fun _ _ _ h => h) (by kernel_rfl) hClosed (Or.inl ⟨by rfl, ?_⟩) hHeld (fun hClosed => ?_)
                  rotate_left
                  · intro wv hSw; go_simp; all_goals (with_reducible rfl)
                  (try simp only [List.getElem_toArray, List.getElem_cons_succ, List.getElem_cons_zero, put_at, List.set])
                  refine wpAnyL_take (i := 17) (v := ?_) rfl (by kernel_rfl) (by kernel_rfl) (by kernel_rfl) (by kernel_rfl) (fun _ _ _ h => h) (by kernel_rfl) hClosed (Or.inl ⟨by rfl, ?_⟩) hHeld (fun hClosed => ?_)
                  rotate_left
                  · intro wv hSw; go_simp; all_goals (with_reducible rfl)
                  (try simp only [List.getElem_toArray, List.getElem_cons_succ, List.getElem_cons_zero, put_at, List.set])
                  refine wpAnyL_take (i := 18) (v := ?_) rfl (by kernel_rfl) (by kernel_rfl) (by kernel_rfl) (by kernel_rfl) (fun _ _ _ h => h) (by kernel_rfl) hClosed (Or.inl ⟨by rfl, ?_⟩) hHeld (fun hClosed => ?_)
                  rotate_left
                  · intro wv hSw; obtain ⟨g0, g1, g2, g3, g4, g5, g6⟩ := hSw.2.at HE2.out; obtain ⟨f0, f1, f2, f3, f4, f5, f6⟩ := hSw.2.at HE.out; simp only at g0 g1 g2 g3 g4 g5 g6 f0 f1 f2 f3 f4 f5 f6; go_simp; all_goals (with_reducible rfl)
                  (try simp only [List.getElem_toArray, List.getElem_cons_succ, List.getElem_cons_zero, put_at, List.set])
                  refine wpAnyL_take (i := 19) (v := ?_) rfl (by kernel_rfl) (by kernel_rfl) (by kernel_rfl) (by kernel_rfl) (fun _ _ _ h => h) (by kernel_rfl) hClosed (Or.inl ⟨by rfl, ?_⟩) hHeld (fun hClosed => ?_)
                  rotate_left
                  · intro wv hSw; go_simp; all_goals (with_reducible rfl)
                  (try simp only [List.getElem_toArray, List.getElem_cons_succ, List.getElem_cons_zero, put_at, List.set])
                  refine wpAnyL_last rfl (by kernel_rfl) (by kernel_rfl) (fun KK hK => ?_)
                  go_simp
                  refine hK.out _ _ ?_
                  (try simp only [put_at, List.set])
                  go_wp2_with fail
                  go_meet
                  exact ⟨rfl, Lib.hid hHeld.1⟩
            case rest =>
              clear HB1
              obtain ⟨rfl, HB⟩ := hcut
              cases r9 with
              | true =>
                have HN2 := Lib.hid (HN.out.trans (next_skip HE2.out (fun h => by rw [h.1, decide_eq_true h.2] at hr9; cases hr9)))
                clear hr9
                go_wp2_with fail
                go_roundw
                case rel => exact ⟨m + 1, by omega, by omega, by go_num, rfl, HB, HN2⟩
                case measure => simp [intOf]; omega
              | false =>
                have hwh : wentE ⟨kd2, tm2, id2, ho2, pa2, pr2, la2⟩ = true ∧ ho2 = ho := by
                  have h1 : (wentE ⟨kd2, tm2, id2, ho2, pa2, pr2, la2⟩ && decide (ho2 = ho)) = true := by simpa using hr9.symm
                  rw [Bool.and_eq_true] at h1
                  exact ⟨h1.1, of_decide_eq_true h1.2⟩
                have HN2 := Lib.hid (HN.out.trans (next_hit HE2.out hwh.1 hwh.2))
                clear hr9 hwh HN
                obtain ⟨q, hq⟩ : ∃ q, clampI tm = q := ⟨_, rfl⟩
                obtain ⟨s, hs⟩ : ∃ s, subI tm2 tm = s := ⟨_, rfl⟩
                have HQ := Lib.hid hq
                have HS := Lib.hid hs
                have HM := Lib.hid (show -clampI tm = -q by rw [hq])
                have q1 := clampI_lo tm
                have q2 := clampI_hi tm
                rw [hq] at q1 q2
                clear hq hs
                go_upto_region 10 with fail
                obtain ⟨lf, hlf⟩ : ∃ lf : Bool, lf = decide (s < floor) := ⟨_, rfl⟩
                go_cut [66] (fun v wx => v = .bool lf ∧ Hid (Below w0.heap.size w0 wx))
                case first =>
                  have hwq : IntKind.i64.wrap (-q) = -q := IntWalk.i64_in _ (by omega)
                  refine wp_region_last 14 (fun w' => Below w0.heap.size w0 w' ∧ RdB w' b off es) (by kernel_rfl) (⟨HB.out.drew, RdB.later (RdB.later HC.out HB.out) ((Below.refl _ _).drew)⟩) (fun hHeld hClosed => ?_)
                  refine wpAnyL_take (i := 0) (v := ?_) rfl (by kernel_rfl) (by kernel_rfl) (by kernel_rfl) (by kernel_rfl) (fun _ _ _ h => h) (by kernel_rfl) hClosed (Or.inl ⟨by rfl, ?_⟩) hHeld (fun hClosed => ?_)
                  rotate_left
                  · intro wv hSw; go_simp; all_goals (with_reducible rfl)
                  (try simp only [List.getElem_toArray, List.getElem_cons_zero, put_at, List.set])
                  refine wpAnyL_take (i := 1) (v := ?_) rfl (by kernel_rfl) (by kernel_rfl) (by kernel_rfl) (by kernel_rfl) (fun _ _ _ h => h) (by kernel_rfl) hClosed (Or.inl ⟨by rfl, ?_⟩) hHeld (fun hClosed => ?_)
                  rotate_left
                  · intro wv hSw; go_simp; all_goals (with_reducible rfl)
                  (try simp only [List.getElem_toArray, List.getElem_cons_succ, List.getElem_cons_zero, put_at, List.set])
                  refine wpAnyL_take (i := 2) (v := ?_) rfl (by kernel_rfl) (by kernel_rfl) (by kernel_rfl) (by kernel_rfl) (fun _ _ _ h => h) (by kernel_rfl) hClosed (Or.inl ⟨by rfl, ?_⟩) hHeld (fun hClosed => ?_)
                  rotate_left
                  · intro wv hSw; go_simp; all_goals (with_reducible rfl)
                  (try simp only [List.getElem_toArray, List.getElem_cons_succ, List.getElem_cons_zero, put_at, List.set])
                  refine wpAnyL_take (i := 3) (v := ?_) rfl (by kernel_rfl) (by kernel_rfl) (by kernel_rfl) (by kernel_rfl) (fun _ _ _ h => h) (by kernel_rfl) hClosed (Or.inl ⟨by rfl, ?_⟩) hHeld (fun hClosed => ?_)
                  rotate_left
                  · intro wv hSw; go_simp; all_goals (with_reducible rfl)
                  (try simp only [List.getElem_toArray, List.getElem_cons_succ, List.getElem_cons_zero, put_at, List.set])
                  refine wpAnyL_take (i := 4) (v := ?_) rfl (by kernel_rfl) (by kernel_rfl) (by kernel_rfl) (by kernel_rfl) (fun _ _ _ h => h) (by kernel_rfl) hClosed (Or.inl ⟨by rfl, ?_⟩) hHeld (fun hClosed => ?_)
                  rotate_left
                  · intro wv hSw; obtain ⟨g0, g1, g2, g3, g4, g5, g6⟩ := hSw.2.at HE2.out; obtain ⟨f0, f1, f2, f3, f4, f5, f6⟩ := hSw.2.at HE.out; simp only at g0 g1 g2 g3 g4 g5 g6 f0 f1 f2 f3 f4 f5 f6; go_simp; all_goals (with_reducible rfl)
                  (try simp only [List.getElem_toArray, List.getElem_cons_succ, List.getElem_cons_zero, put_at, List.set])
                  refine wpAnyL_take (i := 5) (v := ?_) rfl (by kernel_rfl) (by kernel_rfl) (by kernel_rfl) (by kernel_rfl) (fun _ _ _ h => h) (by kernel_rfl) hClosed (Or.inl ⟨by rfl, ?_⟩) hHeld (fun hClosed => ?_)
                  rotate_left
                  · intro wv hSw; go_simp; all_goals (with_reducible rfl)
                  (try simp only [List.getElem_toArray, List.getElem_cons_succ, List.getElem_cons_zero, put_at, List.set])
                  refine wpAnyL_take (i := 6) (v := ?_) rfl (by kernel_rfl) (by kernel_rfl) (by kernel_rfl) (by kernel_rfl) (fun _ _ _ h => h) (by kernel_rfl) hClosed (Or.inl ⟨by rfl, ?_⟩) hHeld (fun hClosed => ?_)
                  rotate_left
                  · intro wv hSw; go_simp; all_goals (with_reducible rfl)
                  (try simp only [List.getElem_toArray, List.getElem_cons_succ, List.getElem_cons_zero, put_at, List.set])
                  refine wpAnyL_take (i := 7) (v := ?_) rfl (by kernel_rfl) (by kernel_rfl) (by kernel_rfl) (by kernel_rfl) (fun _ _ _ h => h) (by kernel_rfl) hClosed (Or.inl ⟨by rfl, ?_⟩) hHeld (fun hClosed => ?_)
                  rotate_left
                  · intro wv hSw; go_simp; all_goals (with_reducible rfl)
                  (try simp only [List.getElem_toArray, List.getElem_cons_succ, List.getElem_cons_zero, put_at, List.set])
                  refine wpAnyL_take (i := 8) (v := ?_) rfl (by kernel_rfl) (by kernel_rfl) (by kernel_rfl) (by kernel_rfl) (fun _ _ _ h => h) (by kernel_rfl) hClosed (Or.inl ⟨by rfl, ?_⟩) hHeld (fun hClosed => ?_)
                  rotate_left
                  · intro wv hSw; go_simp; all_goals (with_reducible rfl)
                  (try simp only [List.getElem_toArray, List.getElem_cons_succ, List.getElem_cons_zero, put_at, List.set])
                  refine wpAnyL_take (i := 9) (v := ?_) rfl (by kernel_rfl) (by kernel_rfl) (by kernel_rfl) (by kernel_rfl) (fun _ _ _ h => h) (by kernel_rfl) hClosed (Or.inl ⟨by rfl, ?_⟩) hHeld (fun hClosed => ?_)
                  rotate_left
                  · intro wv hSw; obtain ⟨g0, g1, g2, g3, g4, g5, g6⟩ := hSw.2.at HE2.out; obtain ⟨f0, f1, f2, f3, f4, f5, f6⟩ := hSw.2.at HE.out; simp only at g0 g1 g2 g3 g4 g5 g6 f0 f1 f2 f3 f4 f5 f6; go_simp; all_goals (with_reducible rfl)
                  (try simp only [List.getElem_toArray, List.getElem_cons_succ, List.getElem_cons_zero, put_at, List.set])
                  refine wpAnyL_take (i := 13) (v := ?_) rfl (by kernel_rfl) (by kernel_rfl) (by kernel_rfl) (by kernel_rfl) (fun _ _ _ h => h) (by kernel_rfl) hClosed (Or.inl ⟨by rfl, ?_⟩) hHeld (fun hClosed => ?_)
                  rotate_left
                  · intro wv hSw; go_simp; all_goals (with_reducible rfl)
                  (try simp only [List.getElem_toArray, List.getElem_cons_succ, List.getElem_cons_zero, put_at, List.set])
                  refine wpAnyL_one (i := 10) rfl (by kernel_rfl) (by kernel_rfl) hClosed (fun KK hK => ?_)
                  go_simp
                  refine (held_as tm q HQ.out _).mono ?_
                  rintro e w' ⟨rfl, rfl⟩
                  go_wp2_with fail
                  refine hK.out _ _ ?_ (fun hClosed hHeld => ?_)
                  · exact hHeld
                  clear hK KK
                  (first | simp only [List.getElem_toArray, List.getElem_cons_succ, List.getElem_cons_zero, put_at, List.set] | (try simp only [put_at, List.set]))
                  refine wpAnyL_take (i := 11) (v := ?_) rfl (by kernel_rfl) (by kernel_rfl) (by kernel_rfl) (by kernel_rfl) (fun _ _ _ h => h) (by kernel_rfl) hClosed (Or.inl ⟨by rfl, ?_⟩) hHeld (fun hClosed => ?_)
                  rotate_left
                  · intro wv hSw; go_simp; all_goals (with_reducible rfl)
                  (try simp only [List.getElem_toArray, List.getElem_cons_succ, List.getElem_cons_zero, put_at, List.set])
                  refine wpAnyL_one (i := 12) rfl (by kernel_rfl) (by kernel_rfl) hClosed (fun KK hK => ?_)
                  go_simp
                  refine (radd_sub tm2 tm (-q) s HM.out HS.out _).mono ?_
                  rintro e w' ⟨rfl, rfl⟩
                  go_wp2_with fail
                  refine hK.out _ _ ?_ (fun hClosed hHeld => ?_)
                  · exact hHeld
                  clear hK KK
                  (first | simp only [List.getElem_toArray, List.getElem_cons_succ, List.getElem_cons_zero, put_at, List.set] | (try simp only [put_at, List.set]))
                  refine wpAnyL_last rfl (by kernel_rfl) (by kernel_rfl) (fun KK hK => ?_)
                  go_simp
                  refine hK.out _ _ ?_
                  (try simp only [put_at, List.set])
                  go_wp2_with fail
                  go_meet
                  exact ⟨by rw [hlf], Lib.hid hHeld.1⟩
                case rest =>
                  clear HB
                  obtain ⟨rfl, HB⟩ := hcut
                  have hs0 : subI tm2 tm = s := HS.out
                  have hn := HN2.out
                  simp only [hs0] at hn
                  cases lf with
                  | true =>
                    have hlt2 : s < floor := of_decide_eq_true hlf.symm
                    have HO2 := Lib.hid (show false = true ↔ WantK floor es (k + 1) from ⟨fun h => (by cases h), fun h => absurd hlt2 (hn.1 (((wantK_step HE.out).1 h).2 HWV.out))⟩)
                    clear hlf hlt2 hn hs0
                    go_wp2_with fail
                    go_roundw
                    case rel => exact ⟨k + 1, false, by omega, by go_num, rfl, HB, HO2⟩
                    case measure => simp [intOf]; omega
                  | false =>
                    have hlt2 : ¬ s < floor := of_decide_eq_false hlf.symm
                    have HO2 := Lib.hid (show ob = true ↔ WantK floor es (k + 1) by rw [wantK_step HE.out, HO.out]; exact ⟨fun h => ⟨h, fun _ => hn.2 hlt2⟩, fun h => h.1⟩)
                    clear hlf hlt2 hn hs0
                    go_wp2_with fail
                    go_roundw
                    case rel => exact ⟨k + 1, ob, by omega, by go_num, rfl, HB, HO2⟩
                    case measure => simp [intOf]; omega
        · have hd2 : decide ((m : Int) < es.length) = false := decide_eq_false (by omega)
          have HO2 := Lib.hid (show ob = true ↔ WantK floor es (k + 1) by rw [wantK_step HE.out, HO.out]; exact ⟨fun h => ⟨h, fun _ => HN.out.2 (next_end (by omega))⟩, fun h => h.1⟩)
          clear c0 c1 c2 c3 c4 c5 c6 HN
          go_wp2_with fail
          go_roundw
          case rel => exact ⟨k + 1, ob, by omega, by go_num, rfl, HB, HO2⟩
          case measure => simp [intOf]; omega
    · have hd1 : decide ((k : Int) < es.length) = false := decide_eq_false (by omega)
      obtain rfl : k = es.length := by omega
      have HON := Lib.hid (gaps_is (floor := floor) (HO.out.trans (wantK_all floor es)))
      go_wp2_with fail
      refine (awake22 _).mono ?_
      rintro e w1 ⟨rfl, hb1⟩
      have HB1 := Lib.hid (HB.out.trans (hb1.mono HB.out.size))
      have HRW := Lib.hid (HRD.out.later HB1.out)
      clear hb1 HB HO
      go_wp2_with fail
      refine (gaps_as es a cap floor floor ob _ HRW.out (by omega) HOK.out _ rfl rfl HON.out).mono ?_
      rintro e w2 ⟨rfl, hb2⟩
      have HB2 := Lib.hid (HB1.out.trans (hb2.mono HB1.out.size))
      cases ob with
      | true =>
        go_wp2_with fail
        exact bodyPost_ret (v := .bool true) (by simp [results, Try.results9, go_sem]) rfl ⟨rfl, HB2.out⟩
      | false =>
        go_wp2_with fail
        exact bodyPost_ret (v := .bool true) (by simp [results, Try.results9, go_sem]) rfl ⟨rfl, HB2.out⟩
end Go.Proofs.Ytelakgbpfnlpiaa
