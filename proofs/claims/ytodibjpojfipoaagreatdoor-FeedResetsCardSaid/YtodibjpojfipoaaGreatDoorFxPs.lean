/- The document's fields: Parse. -/
import Derived.Test.YtodibjpojfipoaaGreatDoorFxIt
namespace Go.Proofs.YtodibjpojfipoaaGreatDoor
open Go Go.RowKit
set_option linter.unusedVariables false
set_option linter.unusedSimpArgs false
set_option maxRecDepth 10000

theorem parseF_dw {l x : List Int} (h : l.dropWhile sp1 = x) (hx : x = [] ∨ ∃ c r, x = c :: r ∧ sp1 c = false) : parseF l = parseF x := by
  have e : x.dropWhile sp1 = x := by
    rcases hx with rfl | ⟨c, r, rfl, hc⟩
    · rfl
    · rw [List.dropWhile_cons, if_neg (by rw [hc]; decide)]
  unfold parseF
  rw [h, e]
theorem parseF_trim {l x y : List Int} {k : Nat} (h : l.dropWhile sp1 = x) (hx : x = [] ∨ ∃ c r, x = c :: r ∧ sp1 c = false) (hy : x = y ++ spN k) (hyh : y = [] ∨ ∃ c r, y = c :: r ∧ sp1 c = false) :
    (y = [] → parseF l = some []) ∧ (y ≠ [] → parseF l = CG 0 y) := by
  have h1 := parseF_sp k y hyh
  rw [← hy, ← parseF_dw h hx] at h1
  refine ⟨fun e => by subst e; exact h1, fun e => ?_⟩
  cases y with
  | nil => exact absurd rfl e
  | cons c r => exact h1
theorem spN_snoc (k : Nat) : (32 : Int) :: spN k = spN (k + 1) := rfl
set_option maxHeartbeats 8000000 in
theorem rparse7_at (s : ByteArray) (hz : s.size ≤ 1000000) (w : World) : Calls Tryz.prog 61 #[.string s] w (FParP (parseF (btL s)) w) := by
  obtain ⟨o, ho⟩ : ∃ o, parseF (btL s) = o := ⟨_, rfl⟩
  have HO := Lib.hid ho
  rw [ho]
  clear ho
  go_enter Tryz.func61, Tryz.ntmps61
  go_wp2_with fail
  go_loop [0] (fun v => ∃ x, v = .string x ∧ x.size ≤ 1000000 ∧ Hid ((btL s).dropWhile sp1 = (btL x).dropWhile sp1)) (fun v => strN v)
  case atStart => exact ⟨s, rfl, hz, Lib.hid rfl⟩
  case round =>
    obtain ⟨x, rfl, hx, HX⟩ := hrel
    obtain ⟨Q, hQ⟩ : ∃ b : Bool, (decide (0 < x.size) && hdI (btL x) == 32) = b := ⟨_, rfl⟩
    have HQ := Lib.hid hQ
    clear hQ
    go_upto_region 1 with fail
    go_cut [15] from 8 to 17 (fun v wx => v = .bool Q ∧ wx = w)
    case first =>
      by_cases h0 : 0 < x.size
      · have d0 : decide ((0 : Int) < (x.size : Int)) = true := decide_eq_true (by omega)
        have d0' : decide (0 < x.size) = true := decide_eq_true h0
        obtain ⟨c, hc⟩ : ∃ c : Int, (x[0].toNat : Int) = c := ⟨_, rfl⟩
        have e : (c == 32) = Q := by rw [← HQ.out, d0', hd_at x h0, hc]; rfl
        go_wp2
        go_meet
        exact ⟨rfl, rfl⟩
      · have d0 : decide ((0 : Int) < (x.size : Int)) = false := decide_eq_false (by omega)
        have d0' : decide (0 < x.size) = false := decide_eq_false h0
        have e : Q = false := by rw [← HQ.out, d0']; rfl
        subst e
        go_wp2
        go_meet
        exact ⟨rfl, rfl⟩
    case rest =>
    obtain ⟨rfl, he⟩ := hcut
    have he := he.symm
    subst he
    cases Q with
    | true =>
      have h := HQ.out
      rw [Bool.and_eq_true, decide_eq_true_eq, beq_iff_eq] at h
      obtain ⟨h0, hc⟩ := h
      rw [hd_at x h0] at hc
      have HF : Hid (btL x = 32 :: btL (x.extract 1 x.size)) := Lib.hid (by rw [← hc]; exact ln_first x h0)
      have hsz : (x.extract 1 x.size).size = x.size - 1 := by simp
      have HX2 : Hid ((btL s).dropWhile sp1 = (btL (x.extract 1 x.size)).dropWhile sp1) := Lib.hid (by rw [HX.out, HF.out, List.dropWhile_cons]; rfl)
      have d1 : (1 : Int) ≤ (x.size : Int) := by omega
      clear hc HQ
      go_wp2
      go_round
      case rel => exact ⟨_, rfl, by omega, HX2⟩
      case measure => show (x.extract 1 x.size).size < x.size; omega
    | false =>
      have HXH : Hid (btL x = [] ∨ ∃ c r, btL x = c :: r ∧ sp1 c = false) := Lib.hid (by
        by_cases h0 : 0 < x.size
        · right
          refine ⟨_, _, ln_first x h0, ?_⟩
          have h := HQ.out
          rw [decide_eq_true h0, hd_at x h0, Bool.true_and] at h
          exact h
        · left
          exact List.eq_nil_of_length_eq_zero (by rw [btL_length]; omega))
      have HXE : Hid ((btL s).dropWhile sp1 = btL x) := Lib.hid (by
        rw [HX.out]
        rcases HXH.out with h | ⟨c, r, h, hc⟩
        · rw [h]; rfl
        · rw [h, List.dropWhile_cons, if_neg (by rw [hc]; decide)])
      clear HQ HX
      go_wp2_with fail
      go_loop [0] (fun v => ∃ y k, v = .string y ∧ y.size ≤ 1000000 ∧ Hid (btL x = btL y ++ spN k) ∧ Hid (btL y = [] ∨ ∃ c r, btL y = c :: r ∧ sp1 c = false)) (fun v => strN v)
      case atStart => exact ⟨x, 0, rfl, hx, Lib.hid (by simp [spN]), HXH⟩
      case round =>
        obtain ⟨y, k, rfl, hy, HY, HYH⟩ := hrel
        obtain ⟨Q, hQ⟩ : ∃ b : Bool, (decide (0 < y.size) && hdI ((btL y).drop (y.size - 1)) == 32) = b := ⟨_, rfl⟩
        have HQ := Lib.hid hQ
        clear hQ
        go_upto_region 3 with fail
        go_cut [28] from 18 to 33 (fun v wx => v = .bool Q ∧ wx = w)
        case first =>
          by_cases h0 : 0 < y.size
          · have d0 : decide ((0 : Int) < (y.size : Int)) = true := decide_eq_true (by omega)
            have d0' : decide (0 < y.size) = true := decide_eq_true h0
            obtain ⟨m, hm⟩ : ∃ m, y.size = m + 1 := ⟨y.size - 1, by omega⟩
            obtain ⟨c, hc⟩ : ∃ c : Int, ((y[m]'(by omega)).toNat : Int) = c := ⟨_, rfl⟩
            have e : (c == 32) = Q := by
              have h2 := ln_cons y m (by omega)
              rw [← HQ.out, d0', show y.size - 1 = m from by omega, h2, hc]
              rfl
            have em : (y.size : Int) - 1 = (m : Int) := by omega
            have wm : IntKind.i64.wrap ((y.size : Int) - 1) = (m : Int) := by rw [em]; exact IntWalk.i64_in _ (by omega)
            have m0 : (0 : Int) ≤ (m : Int) := by omega
            have m1 : (m : Int) < (y.size : Int) := by omega
            go_wp2
            go_meet
            exact ⟨rfl, rfl⟩
          · have d0 : decide ((0 : Int) < (y.size : Int)) = false := decide_eq_false (by omega)
            have d0' : decide (0 < y.size) = false := decide_eq_false h0
            have e : Q = false := by rw [← HQ.out, d0']; rfl
            subst e
            go_wp2
            go_meet
            exact ⟨rfl, rfl⟩
        case rest =>
        obtain ⟨rfl, he⟩ := hcut
        have he := he.symm
        subst he
        cases Q with
        | true =>
          have h := HQ.out
          rw [Bool.and_eq_true, decide_eq_true_eq, beq_iff_eq] at h
          obtain ⟨h0, hc⟩ := h
          obtain ⟨m, hm⟩ : ∃ m, y.size = m + 1 := ⟨y.size - 1, by omega⟩
          have hl := ln_last y m hm
          have hcm : ((y[m]'(by omega)).toNat : Int) = 32 := by
            rw [show y.size - 1 = m from by omega, ln_cons y m (by omega)] at hc
            exact hc
          rw [hcm] at hl
          have HY2 : Hid (btL x = btL (y.extract 0 m) ++ spN (k + 1)) := Lib.hid (by rw [HY.out, hl, List.append_assoc]; rfl)
          have HYH2 : Hid (btL (y.extract 0 m) = [] ∨ ∃ c r, btL (y.extract 0 m) = c :: r ∧ sp1 c = false) := Lib.hid (by
            rcases HYH.out with h | ⟨c, r, h, hc⟩
            · rw [h] at hl
              have := congrArg List.length hl
              simp at this
            · cases hq : btL (y.extract 0 m) with
              | nil => exact Or.inl rfl
              | cons d q =>
                rw [hq, h, List.cons_append] at hl
                injection hl with e1 e2
                exact Or.inr ⟨d, q, rfl, by rw [← e1]; exact hc⟩)
          have hsz : (y.extract 0 m).size = m := by simp; omega
          have em : (y.size : Int) - 1 = (m : Int) := by omega
          have wm : IntKind.i64.wrap ((y.size : Int) - 1) = (m : Int) := by rw [em]; exact IntWalk.i64_in _ (by omega)
          have m0 : (0 : Int) ≤ (m : Int) := by omega
          have m1 : (m : Int) ≤ (y.size : Int) := by omega
          clear hc hl hcm HQ
          go_wp2
          go_round
          case rel => exact ⟨_, k + 1, rfl, by omega, HY2, HYH2⟩
          case measure => show (y.extract 0 m).size < y.size; omega
        | false =>
          have HPT := Lib.hid (parseF_trim HXE.out HXH.out HY.out HYH.out)
          rw [HO.out] at HPT
          clear HQ HY HYH HXE HXH
          go_upto_region 6 with fail
          refine code_forget (fun W => Hid (ItsM W w.heap.size (some ⟨w.heap.size, 0, none⟩) 0 0 []) ∧ Hid (Below w.heap.size w W)) ⟨Lib.hid ⟨Own.lit (w := w) (B := w.heap.size) (n := 0) (size := 5) (cs := #[]) (E := 73) (Nat.le_refl _) (by decide) rfl, rfl, fun x hx => (by cases hx)⟩, Lib.hid ((Below.refl w.heap.size w).alloc (Nat.le_refl _) _)⟩ ?_
          obtain ⟨g0, hg0⟩ : ∃ z, w.heap.size = z := ⟨_, rfl⟩
          have HG0 := Lib.hid hg0
          rintro w1 ⟨I1, B1⟩
          rw [hg0] at I1 ⊢
          clear hg0
          by_cases h0 : btL y = []
          · have he : y.toList.isEmpty = true := by
              rw [emp_size]
              have : y.size = 0 := by rw [← btL_length, h0]; rfl
              simp [this]
            have HF : Hid (o = some []) := Lib.hid (HPT.out.1 h0)
            clear h0
            go_wp2
            go_ret2
            exact ⟨true, [], 0, some ⟨g0, 0, none⟩, 0, rfl, HF.out, by omega, by rw [HG0.out]; exact I1.out, fun _ => rfl, B1.out⟩
          · have he : y.toList.isEmpty = false := by
              rw [emp_size]
              have : y.size ≠ 0 := fun h => h0 (by rw [← List.length_eq_zero_iff, btL_length, h])
              simp [this]
            have HF : Hid (o = CG 0 (btL y)) := Lib.hid (HPT.out.2 h0)
            clear h0 HPT
            go_wp2_with fail
            go_loopw [4, 5] (fun ov iv wr => ∃ (L : List IX) (n : Nat) (a : Option Addr) (cap i : Nat), ov = .slice a n cap ∧ iv = .int .i64 (i : Int) ∧ i ≤ y.size ∧ n ≤ 16 ∧ Hid (ItsM wr w.heap.size a n cap L) ∧ Hid (o = (CG n ((btL y).drop i)).map fun is => L.map IX.f ++ is) ∧ Hid (Below w.heap.size w wr)) (fun _ iv _ => y.size - (intOf iv).toNat)
            case atStart => exact ⟨[], 0, some ⟨g0, 0, none⟩, 0, 0, rfl, rfl, by omega, by omega, Lib.hid (by rw [HG0.out]; exact I1.out), Lib.hid (by rw [HF.out, List.drop_zero]; simp), B1⟩
            case round =>
              clear I1 B1 HF
              obtain ⟨L, n, a, cap, i, rfl, rfl, hi, hn, HI, HP, HB⟩ := hrel
              have IT := Lib.hid (ritem_at y hy i hi wr)
              go_wp2_with fail
              refine IT.out.mono ?_
              rintro e w2 ⟨x7, r, rfl, hb, hd⟩
              have HD := Lib.hid hd
              have HI2 := Lib.hid (HI.out.later hb)
              have HB2 := Lib.hid (HB.out.trans (hb.mono HB.out.size))
              have HLA : Hid (∀ k, a = some ⟨k, 0, none⟩ → k < wr.heap.size) := Lib.hid (fun k e => (own_ltF HI.out.own e).2)
              have HBM := Lib.hid HB.out.size
              clear hd hb IT
              obtain ⟨⟨xk, ⟨vk, vn, vs⟩⟩, xps, xn, xa, xc⟩ := x7
              go_upto_region 10 with fail
              refine code_forget (fun W => Hid (Box W w2.heap.size #[.string xk, .int .i64 vk, .int .i64 vn, .string vs, .slice xa xn xc] 73) ∧ Hid (Below w2.heap.size w2 W)) ⟨Lib.hid (Box.new w2 _ _), Lib.hid ((Below.refl w2.heap.size w2).alloc (Nat.le_refl _) _)⟩ ?_
              obtain ⟨xb, hxb⟩ : ∃ z, w2.heap.size = z := ⟨_, rfl⟩
              rintro w3 ⟨BX, hb⟩
              have HI3 := Lib.hid (HI2.out.later hb.out)
              have HB3 := Lib.hid (HB2.out.trans (hb.out.mono HB2.out.size))
              have HSZ3 : Hid (w2.heap.size ≤ w3.heap.size) := Lib.hid hb.out.size
              have HD3 : Hid ((itemF ((btL y).drop i) = none ∧ r = -1) ∨ ∃ k : Nat, i < k ∧ k ≤ y.size ∧ r = (k : Int) ∧ itemF ((btL y).drop i) = some (IX.f ⟨⟨xk, ⟨vk, vn, vs⟩⟩, xps, xn, xa, xc⟩, (btL y).drop k) ∧ xps.length = xn ∧ Own w3 wr.heap.size 110 4 xa xn xc (pbV xps)) := Lib.hid (by
                rcases HD.out with h | ⟨k, h1, h2, h3, h4, h5, h6⟩
                · exact Or.inl h
                · exact Or.inr ⟨k, h1, h2, h3, h4, h5, h6.later hb.out⟩)
              rw [hxb] at BX ⊢
              clear hxb hb HD HI2 HB2 HI HB
              rcases HD3.out with ⟨hnone, rfl⟩ | ⟨k, hik, hks, rfl, hsome, hxl, hown⟩
              · have HE : Hid (o = none) := Lib.hid (by rw [HP.out, CG_none hnone]; rfl)
                clear hnone HD3 HP
                go_wp2
                go_ret2
                exact ⟨false, [], 0, none, 0, rfl, HE.out, by omega, ItsM.nil _ _, fun _ => rfl, HB3.out⟩
              · have HSM := Lib.hid hsome
                have HXL := Lib.hid hxl
                have HOW := Lib.hid hown
                clear hsome hxl hown HD3
                have kd : decide ((k : Int) < 0) = false := decide_eq_false (by omega)
                have x0 := BX.out.cell 0
                have x1 := BX.out.cell 1
                have x2 := BX.out.cell 2
                have x3 := BX.out.cell 3
                have x4 := BX.out.cell 4
                by_cases h16 : n = 16
                · have HE : Hid (o = none) := Lib.hid (by rw [HP.out, CG_full HSM.out h16]; rfl)
                  have d1 : decide ((16 : Int) < (n : Int) + 1) = true := decide_eq_true (by omega)
                  have d2 : decide (16 < n + 1) = true := decide_eq_true (by omega)
                  clear HP h16
                  go_wp2_with (at_builtin; refine wpList_app1 rowItm rfl _ _ rfl w.heap.size a n cap (ixV L) rfl HI3.out.own #[.string xk, .int .i64 vk, .int .i64 vn, .string vs, .slice xa xn xc] rfl rfl (ixone ⟨⟨xk, ⟨vk, vn, vs⟩⟩, xps, xn, xa, xc⟩) (by omega) (by decide) (by have := HB3.out.size; omega) (n + 1) rfl (ixV (L ++ [(⟨⟨xk, ⟨vk, vn, vs⟩⟩, xps, xn, xa, xc⟩ : IX)])) (ixV_snoc L (⟨⟨xk, ⟨vk, vn, vs⟩⟩, xps, xn, xa, xc⟩ : IX)) ?_; rintro g9 cap9 w9 own9 gr9 bel9 or9; have HI9 : Hid (ItsM w9 w.heap.size (some ⟨g9, 0, none⟩) (n + 1) cap9 (L ++ [(⟨⟨xk, ⟨vk, vn, vs⟩⟩, xps, xn, xa, xc⟩ : IX)])) := Lib.hid (HI3.out.add (x := ⟨⟨xk, ⟨vk, vn, vs⟩⟩, xps, xn, xa, xc⟩) HOW.out HXL.out HBM.out HLA.out own9 gr9 (or9.imp id (fun e => by rw [e]; omega))); have HB9 : Hid (Below w.heap.size w w9) := Lib.hid (HB3.out.trans bel9); clear own9 gr9 bel9 or9 x0 x1 x2 x3 x4)
                  go_ret2
                  exact ⟨false, [], 0, none, 0, rfl, HE.out, by omega, ItsM.nil _ _, fun _ => rfl, HB9.out⟩
                · have d1 : decide ((16 : Int) < (n : Int) + 1) = false := decide_eq_false (by omega)
                  have d2 : decide (16 < n + 1) = false := decide_eq_false (by omega)
                  have H16 := Lib.hid h16
                  have hn2 : n + 1 ≤ 16 := by omega
                  clear h16
                  obtain ⟨X, hX⟩ : ∃ X : IX, (⟨⟨xk, ⟨vk, vn, vs⟩⟩, xps, xn, xa, xc⟩ : IX) = X := ⟨_, rfl⟩
                  have HXX := Lib.hid hX
                  clear hX
                  have BL := Lib.hid (fun W : World => rblanks_at y hy k hks W)
                  go_wp2_with (at_builtin; refine wpList_app1 rowItm rfl _ _ rfl w.heap.size a n cap (ixV L) rfl HI3.out.own #[.string xk, .int .i64 vk, .int .i64 vn, .string vs, .slice xa xn xc] rfl rfl (ixone ⟨⟨xk, ⟨vk, vn, vs⟩⟩, xps, xn, xa, xc⟩) (by omega) (by decide) (by have := HB3.out.size; omega) (n + 1) rfl (ixV (L ++ [(⟨⟨xk, ⟨vk, vn, vs⟩⟩, xps, xn, xa, xc⟩ : IX)])) (ixV_snoc L (⟨⟨xk, ⟨vk, vn, vs⟩⟩, xps, xn, xa, xc⟩ : IX)) ?_; rintro g9 cap9 w9 own9 gr9 bel9 or9; have HI9 : Hid (ItsM w9 w.heap.size (some ⟨g9, 0, none⟩) (n + 1) cap9 (L ++ [(⟨⟨xk, ⟨vk, vn, vs⟩⟩, xps, xn, xa, xc⟩ : IX)])) := Lib.hid (HI3.out.add (x := ⟨⟨xk, ⟨vk, vn, vs⟩⟩, xps, xn, xa, xc⟩) HOW.out HXL.out HBM.out HLA.out own9 gr9 (or9.imp id (fun e => by rw [e]; omega))); have HB9 : Hid (Below w.heap.size w w9) := Lib.hid (HB3.out.trans bel9); clear own9 gr9 bel9 or9 x0 x1 x2 x3 x4)
                  rw [HXX.out] at HI9 HSM
                  refine (BL.out _).mono ?_
                  rintro e wx ⟨k2, rfl, hw, hk2, hk2s, hdw⟩
                  subst wx
                  have HDW := Lib.hid hdw
                  clear hdw BL d1 d2 kd
                  by_cases he2 : k2 < y.size
                  · have l1 : decide ((y.size : Int) ≤ (k2 : Int)) = false := decide_eq_false (by omega)
                    have l2 : decide (y.size ≤ k2) = false := decide_eq_false (by omega)
                    have l3 : decide (k2 < y.size) = true := decide_eq_true he2
                    obtain ⟨c, hc⟩ : ∃ c : Int, (y[k2].toNat : Int) = c := ⟨_, rfl⟩
                    have HDR : Hid ((btL y).drop k2 = c :: (btL y).drop (k2 + 1)) := Lib.hid (by rw [← hc]; exact ln_cons y k2 he2)
                    have kx0 : (0 : Int) ≤ (k2 : Int) := by omega
                    have kx1 : (k2 : Int) < (y.size : Int) := by omega
                    by_cases hc44 : c = 44
                    · have x1 : (c != 44) = false := by rw [hc44]; rfl
                      have B2 := Lib.hid (fun W : World => rblanks_at y hy (k2 + 1) (by omega) W)
                      have e1 : ((k2 + 1 : Nat) : Int) = (k2 : Int) + 1 := by omega
                      rw [e1] at B2
                      have w1 : IntKind.i64.wrap ((k2 : Int) + 1) = (k2 : Int) + 1 := IntWalk.i64_in _ (by omega)
                      have HNX : Hid (((btL y).drop k).dropWhile blI = 44 :: (btL y).drop (k2 + 1)) := Lib.hid (by rw [HDW.out, HDR.out, hc44])
                      clear hc44 e1
                      go_wp2_with fail
                      refine (B2.out _).mono ?_
                      rintro e wx ⟨k3, rfl, hw, hk3, hk3s, hdw⟩
                      subst wx
                      have HP2 : Hid (o = (CG (n + 1) ((btL y).drop k3)).map fun is => (L ++ [X]).map IX.f ++ is) := Lib.hid (by
                        rw [HP.out, CG_next HSM.out H16.out HNX.out, hdw, Option.map_map]
                        congr 1
                        funext is
                        simp)
                      clear hdw HP HSM HNX HDR HDW B2
                      go_wp2
                      go_roundw
                      case rel => exact ⟨L ++ [X], n + 1, some ⟨g9, 0, none⟩, cap9, k3, rfl, rfl, hk3s, hn2, HI9, HP2, HB9⟩
                      case measure => simp [intOf]; omega
                    · have x1 : (c != 44) = true := by simpa using hc44
                      have HE : Hid (o = none) := Lib.hid (by
                        rw [HP.out, CG_stop HSM.out H16.out (by rw [HDW.out, HDR.out]; simp) (by
                          rw [HDW.out, HDR.out]
                          cases hh : cutS [44] (c :: (btL y).drop (k2 + 1)) with
                          | none => rfl
                          | some q =>
                            have e := cutS_some hh
                            injection e with e _
                            exact absurd e hc44)]
                        rfl)
                      clear hc44 HP HSM HDR HDW
                      go_wp2
                      go_ret2
                      exact ⟨false, [], 0, none, 0, rfl, HE.out, by omega, ItsM.nil _ _, fun _ => rfl, HB9.out⟩
                  · have l1 : decide ((y.size : Int) ≤ (k2 : Int)) = true := decide_eq_true (by omega)
                    have l2 : decide (y.size ≤ k2) = true := decide_eq_true (by omega)
                    have HE : Hid (o = some ((L ++ [X]).map IX.f)) := Lib.hid (by
                      rw [HP.out, CG_end HSM.out H16.out (by rw [HDW.out, List.drop_eq_nil_of_le (by rw [btL_length]; omega)])]
                      simp)
                    clear HP HSM HDW
                    go_wp2
                    go_ret2
                    exact ⟨true, L ++ [X], n + 1, some ⟨g9, 0, none⟩, cap9, rfl, HE.out, hn2, HI9.out, (fun h => by cases h), HB9.out⟩
end Go.Proofs.YtodibjpojfipoaaGreatDoor
