/- How many there are of each kind, and whether any was sent twice. -/
import Derived.Test.YtelakgbpfnlpiaaAudOpen
import Derived.BigQuiet
import Derived.Deep.QuietTactic
import Derived.Deep.RegionWith
import Derived.Deep.Cut
import Derived.Deep.CutRange
import Derived.Deep.DeepCutAuto
namespace Go.Proofs.Ytelakgbpfnlpiaa
open Go.RowKit Go.Maps Go.WideMaps

theorem below_drewN {B : Nat} {a w : World} (h : Below B a w) (n : Nat) : Below B a (w.drewN n) := ⟨h.os, h.tape, h.output, h.size, h.block⟩
def same (x y : Ev) : Prop := x.kind = 1 ∧ y.kind = 1 ∧ x.id = y.id
/-- Among the first k nothing was sent twice. -/
def OnceP (es : List Ev) (k : Nat) : Prop := ∀ i j x y, i < k → j < i → es[i]? = some x → es[j]? = some y → ¬ same x y
/-- .. nor does number k equal one of the first j. -/
def OnceQ (es : List Ev) (k j : Nat) : Prop := OnceP es k ∧ ∀ m x y, m < j → es[k]? = some x → es[m]? = some y → ¬ same x y
theorem OnceQ.next {es : List Ev} {k : Nat} : OnceQ es k k ↔ OnceP es (k + 1) := by
  constructor
  · rintro ⟨h1, h2⟩ i j x y hi hj hx hy
    by_cases e : i = k
    · subst e
      exact h2 j x y hj hx hy
    · exact h1 i j x y (by omega) hj hx hy
  · intro h
    exact ⟨fun i j x y hi hj => h i j x y (by omega) hj, fun m x y hm hx hy => h k m x y (by omega) hm hx hy⟩
theorem OnceQ.hit {es : List Ev} {k j : Nat} {x y : Ev} (hx : es[k]? = some x) (hy : es[j]? = some y) (h : same x y) : ¬ OnceQ es k (j + 1) := fun hq => hq.2 j x y (by omega) hx hy h
theorem OnceQ.miss {es : List Ev} {k j : Nat} {x y : Ev} (hx : es[k]? = some x) (hy : es[j]? = some y) (h : ¬ same x y) : OnceQ es k (j + 1) ↔ OnceQ es k j := by
  constructor
  · rintro ⟨h1, h2⟩
    exact ⟨h1, fun m u v hm => h2 m u v (by omega)⟩
  · rintro ⟨h1, h2⟩
    refine ⟨h1, fun m u v hm hu hv => ?_⟩
    by_cases e : m = j
    · subst e
      rw [hx] at hu
      rw [hy] at hv
      cases hu
      cases hv
      exact h
    · exact h2 m u v (by omega) hu hv
theorem onceL_iff : ∀ (es : List Ev) (S : Int → Bool), onceL S es = true ↔ (∀ e, e ∈ es → e.kind = 1 → S e.id = false) ∧ OnceP es es.length
  | [], S => by simp [onceL, OnceP]
  | e :: r, S => by
    have hcons : OnceP (e :: r) (e :: r).length ↔ (∀ x, x ∈ r → ¬ same x e) ∧ OnceP r r.length := by
      constructor
      · intro h
        refine ⟨fun x hx => ?_, fun i j x y hi hj hx hy => h (i + 1) (j + 1) x y (by simp; omega) (by omega) (by simpa using hx) (by simpa using hy)⟩
        obtain ⟨i, hi⟩ := List.getElem?_of_mem hx
        have hil := (List.getElem?_eq_some_iff.1 hi).1
        exact h (i + 1) 0 x e (by simp; omega) (by omega) (by simpa using hi) (by simp)
      · rintro ⟨h1, h2⟩ i j x y hi hj hx hy
        obtain ⟨i, rfl⟩ : ∃ i', i = i' + 1 := ⟨i - 1, by omega⟩
        have hx : r[i]? = some x := by simpa using hx
        cases j with
        | zero =>
          simp at hy
          subst hy
          exact h1 x (List.mem_of_getElem? hx)
        | succ j => exact h2 i j x y (by simp at hi; omega) (by omega) hx (by simpa using hy)
    rw [onceL, hcons]
    by_cases hk : e.kind = 1
    · rw [if_pos hk]
      cases hS : S e.id with
      | true =>
        simp only [if_true]
        constructor
        · intro h; cases h
        · rintro ⟨h, _⟩
          have := h e (by simp) hk
          rw [hS] at this
          cases this
      | false =>
        rw [if_neg (by decide), onceL_iff r]
        constructor
        · rintro ⟨h1, h2⟩
          refine ⟨fun x hx hxk => ?_, fun x hx hs => ?_, h2⟩
          · rcases List.mem_cons.1 hx with rfl | hx
            · exact hS
            · have := h1 x hx hxk
              split at this
              · cases this
              · exact this
          · have := h1 x hx hs.1
            rw [if_pos hs.2.2] at this
            cases this
        · rintro ⟨h1, h2, h3⟩
          refine ⟨fun x hx hxk => ?_, h3⟩
          rw [if_neg (fun e2 => h2 x hx ⟨hxk, hk, e2⟩)]
          exact h1 x (List.mem_cons_of_mem _ hx) hxk
    · rw [if_neg hk, onceL_iff r]
      constructor
      · rintro ⟨h1, h2⟩
        refine ⟨fun x hx hxk => ?_, fun x _ hs => hk hs.2.1, h2⟩
        rcases List.mem_cons.1 hx with rfl | hx
        · exact absurd hxk hk
        · exact h1 x hx hxk
      · rintro ⟨h1, _, h3⟩
        exact ⟨fun x hx => h1 x (List.mem_cons_of_mem _ hx), h3⟩
theorem once_is {es : List Ev} {b : Bool} (h : b = true ↔ OnceP es es.length) : onceL (fun _ => false) es = b := by
  have h1 := onceL_iff es (fun _ => false)
  simp only [true_and, implies_true] at h1
  cases b with
  | true => exact h1.2 (h.1 rfl)
  | false =>
    cases hv : onceL (fun _ => false) es with
    | false => rfl
    | true => exact absurd (h.2 (h1.1 hv)) (by decide)

set_option maxRecDepth 100000 in
set_option maxHeartbeats 1000000 in
theorem auditCounts_walk (x : Option Addr × Nat × Nat) (w : World) (hx : IsEvs w x) :
    Calls Try.prog 11 #[.slice x.1 x.2.1 x.2.2] w fun e w' => e = .returned (.bool true) ∧ Below w.heap.size w w' := by
  obtain ⟨a, len, cap⟩ := x
  obtain ⟨es0, hlen, hmax, hcap, hrd0, hok0⟩ := hx
  simp only at hlen hcap hrd0
  show Calls Try.prog 11 #[.slice a len cap] w _
  obtain ⟨es, hes⟩ : ∃ es, es0.take 60 = es := ⟨_, rfl⟩
  have HES := Lib.hid hes
  have hl60 : es.length ≤ 60 := by rw [← hes, List.length_take]; omega
  have HRD0 := Lib.hid hrd0
  have HRD := Lib.hid (show Rd w a es by rw [← hes]; exact hrd0.take 60)
  have HOK := Lib.hid (show ∀ e, e ∈ es → EvOk e from fun e he => hok0 e (List.mem_of_mem_take (by rw [hes]; exact he)))
  clear hes hrd0 hok0
  go_enter Try.func11, Try.ntmps11
  go_wp2_with fail
  refine (cut_as es0 es HES.out a len cap hlen _ HRD0.out hmax (by omega)).mono ?_
  rintro e w0 ⟨rfl, rfl⟩
  clear HES HRD0 hlen hmax hcap
  go_wp2_with fail
  obtain ⟨b, off, ha, hc⟩ := HRD.out.row
  have HA := Lib.hid ha
  have HC := Lib.hid hc
  clear ha hc
  go_loopw [4, 5] (fun vo vk wx => ∃ (k : Nat) (ob : Bool), k ≤ es.length ∧ vk = .int .i64 k ∧ vo = .bool ob ∧ Hid (Below w0.heap.size w0 wx) ∧ Hid (Box wx w0.heap.size (cntA (es.take k)) 63) ∧ Hid (ob = true ↔ OnceP es k)) (fun _ vk _ => es.length - (intOf vk).toNat)
  case atStart => exact ⟨0, true, by omega, rfl, rfl, Lib.hid ((Below.refl _ _).alloc (Nat.le_refl _) _), Lib.hid (Box.new _ _ _), Lib.hid ⟨fun _ i j x y hi => absurd hi (Nat.not_lt_zero i), fun _ => rfl⟩⟩
  case round =>
    obtain ⟨k, ob, hk, rfl, rfl, HB, HBX, HO⟩ := hrel
    by_cases hlt : k < es.length
    · have hd1 : decide ((k : Int) < es.length) = true := decide_eq_true (by omega)
      have ha := HA.out (by omega)
      subst ha
      obtain ⟨⟨kd, tm, id, ho, pa, pr, la⟩, he⟩ : ∃ e, es[k]? = some e := ⟨_, List.getElem?_eq_getElem hlt⟩
      obtain ⟨c0, _, c2, _, _, _, _⟩ := (RdB.later HC.out HB.out).at he
      simp only at c0 c2
      have HE := Lib.hid he
      clear he
      obtain ⟨gb, hgb⟩ : ∃ gb : Bool, gb = decide (0 ≤ kd ∧ kd ≤ 4) := ⟨_, rfl⟩
      go_upto_region 7 with fail
      go_cut [29] (fun v wx => v = .bool gb ∧ wx = wr)
      case first =>
        by_cases g1 : 0 ≤ kd
        · have hd2 : decide ((0 : Int) ≤ kd) = true := decide_eq_true g1
          by_cases g2 : kd ≤ 4
          · have hd3 : decide (kd ≤ (4 : Int)) = true := decide_eq_true g2
            rw [decide_eq_true ⟨g1, g2⟩] at hgb
            subst hgb
            go_wp2_with fail
            go_meet
            exact ⟨rfl, rfl⟩
          · have hd3 : decide (kd ≤ (4 : Int)) = false := decide_eq_false g2
            rw [decide_eq_false (fun h => g2 h.2)] at hgb
            subst hgb
            go_wp2_with fail
            go_meet
            exact ⟨rfl, rfl⟩
        · have hd2 : decide ((0 : Int) ≤ kd) = false := decide_eq_false g1
          rw [decide_eq_false (fun h => g1 h.1)] at hgb
          subst hgb
          go_wp2_with fail
          go_meet
          exact ⟨rfl, rfl⟩
      case rest =>
      obtain ⟨rfl, rfl⟩ := hcut
      go_upto_if 29 with fail
      go_cut [] (fun wx => Hid (Below w0.heap.size w0 wx) ∧ Hid (Box wx w0.heap.size (cntA (es.take (k + 1))) 63))
      case first =>
        have hbx := HBX.out
        obtain ⟨n0, h0⟩ : ∃ n, cnt (es.take k) 0 = n := ⟨_, rfl⟩
        obtain ⟨n1, h1⟩ : ∃ n, cnt (es.take k) 1 = n := ⟨_, rfl⟩
        obtain ⟨n2, h2⟩ : ∃ n, cnt (es.take k) 2 = n := ⟨_, rfl⟩
        obtain ⟨n3, h3⟩ : ∃ n, cnt (es.take k) 3 = n := ⟨_, rfl⟩
        obtain ⟨n4, h4⟩ : ∃ n, cnt (es.take k) 4 = n := ⟨_, rfl⟩
        have b0 := cnt_le es 0 k
        have b1 := cnt_le es 1 k
        have b2 := cnt_le es 2 k
        have b3 := cnt_le es 3 k
        have b4 := cnt_le es 4 k
        unfold cntA at hbx
        rw [h0, h1, h2, h3, h4] at hbx
        rw [h0] at b0
        rw [h1] at b1
        rw [h2] at b2
        rw [h3] at b3
        rw [h4] at b4
        have HN0 := Lib.hid h0
        have HN1 := Lib.hid h1
        have HN2 := Lib.hid h2
        have HN3 := Lib.hid h3
        have HN4 := Lib.hid h4
        clear h0 h1 h2 h3 h4
        obtain ⟨lx, cx, fx⟩ := hbx.facts
        clear hbx
        rcases (by omega : (0 ≤ kd ∧ kd ≤ 4) ∨ kd < 0 ∨ 4 < kd) with hin | hlo | hhi
        · rcases (by omega : kd = 0 ∨ kd = 1 ∨ kd = 2 ∨ kd = 3 ∨ kd = 4) with hkd | hkd | hkd | hkd | hkd
          · rw [decide_eq_true (by omega)] at hgb
            subst hgb
            subst hkd
            have hbx2 := cntA_in HBX.out HE.out 0 (by omega) rfl
            rw [show cnt (es.take k) ((0 : Nat) : Int) = n0 from HN0.out] at hbx2
            have HBX2 := Lib.hid hbx2
            clear hbx2
            go_wp2_with fail
            go_meet
            exact ⟨Lib.hid (HB.out.setCell (p := ⟨w0.heap.size, 0, none⟩) (Nat.le_refl _) _), HBX2⟩
          · rw [decide_eq_true (by omega)] at hgb
            subst hgb
            subst hkd
            have hbx2 := cntA_in HBX.out HE.out 1 (by omega) rfl
            rw [show cnt (es.take k) ((1 : Nat) : Int) = n1 from HN1.out] at hbx2
            have HBX2 := Lib.hid hbx2
            clear hbx2
            go_wp2_with fail
            go_meet
            exact ⟨Lib.hid (HB.out.setCell (p := ⟨w0.heap.size, 1, none⟩) (Nat.le_refl _) _), HBX2⟩
          · rw [decide_eq_true (by omega)] at hgb
            subst hgb
            subst hkd
            have hbx2 := cntA_in HBX.out HE.out 2 (by omega) rfl
            rw [show cnt (es.take k) ((2 : Nat) : Int) = n2 from HN2.out] at hbx2
            have HBX2 := Lib.hid hbx2
            clear hbx2
            go_wp2_with fail
            go_meet
            exact ⟨Lib.hid (HB.out.setCell (p := ⟨w0.heap.size, 2, none⟩) (Nat.le_refl _) _), HBX2⟩
          · rw [decide_eq_true (by omega)] at hgb
            subst hgb
            subst hkd
            have hbx2 := cntA_in HBX.out HE.out 3 (by omega) rfl
            rw [show cnt (es.take k) ((3 : Nat) : Int) = n3 from HN3.out] at hbx2
            have HBX2 := Lib.hid hbx2
            clear hbx2
            go_wp2_with fail
            go_meet
            exact ⟨Lib.hid (HB.out.setCell (p := ⟨w0.heap.size, 3, none⟩) (Nat.le_refl _) _), HBX2⟩
          · rw [decide_eq_true (by omega)] at hgb
            subst hgb
            subst hkd
            have hbx2 := cntA_in HBX.out HE.out 4 (by omega) rfl
            rw [show cnt (es.take k) ((4 : Nat) : Int) = n4 from HN4.out] at hbx2
            have HBX2 := Lib.hid hbx2
            clear hbx2
            go_wp2_with fail
            go_meet
            exact ⟨Lib.hid (HB.out.setCell (p := ⟨w0.heap.size, 4, none⟩) (Nat.le_refl _) _), HBX2⟩
        ·   rw [decide_eq_false (by omega)] at hgb
            subst hgb
            rw [← cntA_out HE.out (by simp; omega)] at HBX
            go_wp2_with fail
            go_meet
            exact ⟨HB, HBX⟩
        ·   rw [decide_eq_false (by omega)] at hgb
            subst hgb
            rw [← cntA_out HE.out (by simp; omega)] at HBX
            go_wp2_with fail
            go_meet
            exact ⟨HB, HBX⟩
      case rest =>
        clear HB HBX c0 c2
        obtain ⟨HB, HBX⟩ := hcut
        have HQ : Hid (ob = true ↔ OnceQ es k 0) := Lib.hid ⟨fun h => ⟨HO.out.1 h, fun m x y hm => absurd hm (Nat.not_lt_zero m)⟩, fun h => HO.out.2 h.1⟩
        clear HO
        go_wp2_with fail
        go_loopw [4, 6] (fun vo vj wx => ∃ (j : Nat) (ob : Bool), j ≤ k ∧ vj = .int .i64 j ∧ vo = .bool ob ∧ Hid (Below w0.heap.size w0 wx) ∧ Hid (Box wx w0.heap.size (cntA (es.take (k + 1))) 63) ∧ Hid (ob = true ↔ OnceQ es k j)) (fun _ vj _ => k - (intOf vj).toNat)
        case atStart => exact ⟨0, ob, by omega, rfl, rfl, HB, HBX, HQ⟩
        case round =>
          clear HB HBX HQ
          obtain ⟨j, ob, hj, rfl, rfl, HB, HBX, HQ⟩ := hrel
          by_cases hjk : j < k
          · have hd2 : decide ((j : Int) < k) = true := decide_eq_true (by omega)
            obtain ⟨⟨kd2, tm2, id2, ho2, pa2, pr2, la2⟩, he2⟩ : ∃ e, es[j]? = some e := ⟨_, List.getElem?_eq_getElem (by omega)⟩
            obtain ⟨c0, _, c2, _, _, _, _⟩ := (RdB.later HC.out HB.out).at HE.out
            obtain ⟨g0, _, g2, _, _, _, _⟩ := (RdB.later HC.out HB.out).at he2
            simp only at c0 c2 g0 g2
            have HE2 := Lib.hid he2
            clear he2
            by_cases k1 : kd = 1
            · have hd3 : (kd == 1) = true := by simpa using k1
              by_cases k2 : kd2 = 1
              · have hd4 : (kd2 == 1) = true := by simpa using k2
                by_cases k3 : id = id2
                · have hd5 : (id == id2) = true := by simpa using k3
                  have HN := Lib.hid (OnceQ.hit HE.out HE2.out (show same _ _ from ⟨k1, k2, k3⟩))
                  clear k1 k2 k3
                  go_wp2_with fail
                  go_quiet (fail)
                  go_wp2_with fail
                  go_roundw
                  case rel => exact ⟨j + 1, false, by omega, by go_num, rfl, Lib.hid (below_drewN HB.out _), Lib.hid (HBX.out.drewN _), Lib.hid (⟨fun h => (by cases h), fun h => absurd h HN.out⟩)⟩
                  case measure => simp [intOf]; omega
                · have hd5 : (id == id2) = false := by simpa using k3
                  have HN := Lib.hid (OnceQ.miss HE.out HE2.out (fun h : same _ _ => k3 h.2.2))
                  clear k1 k2 k3
                  go_wp2_with fail
                  go_quiet (fail)
                  go_wp2_with fail
                  go_roundw
                  case rel => exact ⟨j + 1, ob, by omega, by go_num, rfl, Lib.hid (below_drewN HB.out _), Lib.hid (HBX.out.drewN _), Lib.hid (HQ.out.trans HN.out.symm)⟩
                  case measure => simp [intOf]; omega
              · have hd4 : (kd2 == 1) = false := by simpa using k2
                have HN := Lib.hid (OnceQ.miss HE.out HE2.out (fun h : same _ _ => k2 h.2.1))
                clear k1 k2
                go_wp2_with fail
                go_quiet (fail)
                go_wp2_with fail
                go_roundw
                case rel => exact ⟨j + 1, ob, by omega, by go_num, rfl, Lib.hid (below_drewN HB.out _), Lib.hid (HBX.out.drewN _), Lib.hid (HQ.out.trans HN.out.symm)⟩
                case measure => simp [intOf]; omega
            · have hd3 : (kd == 1) = false := by simpa using k1
              have HN := Lib.hid (OnceQ.miss HE.out HE2.out (fun h : same _ _ => k1 h.1))
              clear k1
              go_wp2_with fail
              go_quiet (fail)
              go_wp2_with fail
              go_roundw
              case rel => exact ⟨j + 1, ob, by omega, by go_num, rfl, Lib.hid (below_drewN HB.out _), Lib.hid (HBX.out.drewN _), Lib.hid (HQ.out.trans HN.out.symm)⟩
              case measure => simp [intOf]; omega
          · have hd2 : decide ((j : Int) < k) = false := decide_eq_false (by omega)
            obtain rfl : j = k := by omega
            go_wp2_with fail
            go_roundw
            case rel => exact ⟨j + 1, ob, by omega, by go_num, rfl, HB, HBX, Lib.hid (HQ.out.trans OnceQ.next)⟩
            case measure => simp [intOf]; omega
    · have hd1 : decide ((k : Int) < es.length) = false := decide_eq_false (by omega)
      obtain rfl : k = es.length := by omega
      have hbx := HBX.out
      rw [List.take_length] at hbx
      obtain ⟨n0, h0⟩ : ∃ n, cnt es 0 = n := ⟨_, rfl⟩
      obtain ⟨n1, h1⟩ : ∃ n, cnt es 1 = n := ⟨_, rfl⟩
      obtain ⟨n2, h2⟩ : ∃ n, cnt es 2 = n := ⟨_, rfl⟩
      obtain ⟨n3, h3⟩ : ∃ n, cnt es 3 = n := ⟨_, rfl⟩
      obtain ⟨n4, h4⟩ : ∃ n, cnt es 4 = n := ⟨_, rfl⟩
      have hv : cntA es = #[.int .i64 n0, .int .i64 n1, .int .i64 n2, .int .i64 n3, .int .i64 n4] := by unfold cntA; rw [h0, h1, h2, h3, h4]
      rw [hv] at hbx
      have HV := Lib.hid hv
      have HON := Lib.hid (once_is HO.out)
      have HRW := Lib.hid (HRD.out.later HB.out)
      have heq := eq5 n0 n1 n2 n3 n4
      clear h0 h1 h2 h3 h4 hv HBX HO
      go_wp2_with fail
      have hB := HB.out
      have hrw := HRW.out
      obtain ⟨lx, cx, fx⟩ := hbx.facts
      cases ob with
      | true =>
        go_region_with (first
          | (go_at_call 34; refine (awake22 _).mono ?_; rintro e w1 ⟨rfl, hb1⟩; have hB1 := Below.trans (B := w0.heap.size) (by first | exact hB.drew | exact hB) (hb1.mono (Below.size (by first | exact hB.drew | exact hB))); have x1 := Box.later (by first | exact hbx.drew | exact hbx) hb1; have r1 := Rd.later (by exact hrw) hb1; obtain ⟨l1, c1, f1⟩ := x1.facts)
          | (go_at_call 38; refine (counts_as es a cap _ _ r1 (by omega) _ rfl HV.out).mono ?_; rintro e w2 ⟨rfl, hb2⟩; have hB2 := hB1.trans (hb2.mono hB1.size); have x2 := x1.later hb2; have r2 := r1.later hb2; obtain ⟨l2, c2, f2⟩ := x2.facts)
          | (go_at_call 39; refine (once_as es a cap _ _ r2 (by omega) HOK.out _ rfl HON.out).mono ?_; rintro e w3 ⟨rfl, hb3⟩; have hB3 := hB2.trans (hb3.mono hB2.size)))
        all_goals go_wp2_with fail
        all_goals exact bodyPost_ret (v := .bool true) (by simp [results, Try.results11, go_sem]) rfl ⟨rfl, hB3⟩
      | false =>
        go_region_with (first
          | (go_at_call 34; refine (awake22 _).mono ?_; rintro e w1 ⟨rfl, hb1⟩; have hB1 := Below.trans (B := w0.heap.size) (by first | exact hB.drew | exact hB) (hb1.mono (Below.size (by first | exact hB.drew | exact hB))); have x1 := Box.later (by first | exact hbx.drew | exact hbx) hb1; have r1 := Rd.later (by exact hrw) hb1; obtain ⟨l1, c1, f1⟩ := x1.facts)
          | (go_at_call 38; refine (counts_as es a cap _ _ r1 (by omega) _ rfl HV.out).mono ?_; rintro e w2 ⟨rfl, hb2⟩; have hB2 := hB1.trans (hb2.mono hB1.size); have x2 := x1.later hb2; have r2 := r1.later hb2; obtain ⟨l2, c2, f2⟩ := x2.facts)
          | (go_at_call 39; refine (once_as es a cap _ _ r2 (by omega) HOK.out _ rfl HON.out).mono ?_; rintro e w3 ⟨rfl, hb3⟩; have hB3 := hB2.trans (hb3.mono hB2.size)))
        all_goals go_wp2_with fail
        all_goals exact bodyPost_ret (v := .bool true) (by simp [results, Try.results11, go_sem]) rfl ⟨rfl, hB3⟩
end Go.Proofs.Ytelakgbpfnlpiaa
