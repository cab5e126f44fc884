/- The document's Parse of a second text. -/
import Derived.Test.YtcbllfbhifimnaaDoorDtPart
import Derived.Test.YtcbllfbhifimnaaDoorDtYr
import Derived.Test.YtcbllfbhifimnaaDoorDtSec
namespace Go.Proofs.YtcbllfbhifimnaaDoor
open Go.RowKit
set_option linter.unusedVariables false
set_option linter.unusedSimpArgs false
set_option maxRecDepth 10000

theorem first_other {a1 a2 a3 a4 a5 a6 : Int} {o : Option Int} {x : ByteArray} (ho : rsecI a1 a2 a3 a4 a5 a6 = o) (hx : 30 ≤ x.size) (n : Int) (hn : o = some n) :
    ∃ t : ByteArray, (t.toList == x.toList) = false ∧ ∀ W, Calls Tryd.prog 10 #[.agg #[.int .i64 a1, .int .i64 a2, .int .i64 a3, .int .i64 a4, .int .i64 a5, .int .i64 a6]] W fun e w' => e = .returned (.string t) ∧ Below W.heap.size W w' := by
  rw [hn] at ho
  unfold rsecI at ho
  split at ho
  · rename_i hh
    obtain ⟨hv, k1, k2, k3⟩ := hh
    have hm : MoOk ⟨(num a1 a2 a3 + 3) % 7, a1, a2, a3, a4, a5, a6⟩ := by
      have b := lenI_bd a1 a2
      obtain ⟨h1, h2, h3, h4, h5, h6⟩ := hv
      exact ⟨by dsimp only; omega, by dsimp only; omega, by dsimp only; omega, by dsimp only; omega, ⟨k1, k2, k3⟩⟩
    refine ⟨strL (firstL ⟨(num a1 a2 a3 + 3) % 7, a1, a2, a3, a4, a5, a6⟩), ?_, fun W => rfirst_at _ a1 a2 a3 a4 a5 a6 _ hv hm.clk rfl rfl W⟩
    cases hb : ((strL (firstL ⟨(num a1 a2 a3 + 3) % 7, a1, a2, a3, a4, a5, a6⟩)).toList == x.toList) with
    | false => rfl
    | true =>
      have h1 := congrArg List.length (byt_eq.1 hb)
      rw [btL_strL (first_byts hm), first_len hm, btL_length] at h1
      omega
  · cases ho
theorem third_other {a1 a2 a3 a4 a5 a6 : Int} {o : Option Int} {x : ByteArray} (ho : rsecI a1 a2 a3 a4 a5 a6 = o) (hx : 30 ≤ x.size) (n : Int) (hn : o = some n) :
    ∃ t : ByteArray, (t.toList == x.toList) = false ∧ ∀ W, Calls Tryd.prog 11 #[.agg #[.int .i64 a1, .int .i64 a2, .int .i64 a3, .int .i64 a4, .int .i64 a5, .int .i64 a6]] W fun e w' => e = .returned (.string t) ∧ Below W.heap.size W w' := by
  rw [hn] at ho
  unfold rsecI at ho
  split at ho
  · rename_i hh
    obtain ⟨hv, k1, k2, k3⟩ := hh
    have hm : MoOk ⟨(num a1 a2 a3 + 3) % 7, a1, a2, a3, a4, a5, a6⟩ := by
      have b := lenI_bd a1 a2
      obtain ⟨h1, h2, h3, h4, h5, h6⟩ := hv
      exact ⟨by dsimp only; omega, by dsimp only; omega, by dsimp only; omega, by dsimp only; omega, ⟨k1, k2, k3⟩⟩
    refine ⟨strL (thirdL ⟨(num a1 a2 a3 + 3) % 7, a1, a2, a3, a4, a5, a6⟩), ?_, fun W => rthird_at _ a1 a2 a3 a4 a5 a6 _ hv hm.clk rfl rfl W⟩
    cases hb : ((strL (thirdL ⟨(num a1 a2 a3 + 3) % 7, a1, a2, a3, a4, a5, a6⟩)).toList == x.toList) with
    | false => rfl
    | true =>
      have h1 := congrArg List.length (byt_eq.1 hb)
      rw [btL_strL (third_byts hm), third_len hm, btL_length] at h1
      omega
  · cases ho
theorem second_back {wd y mo d h mi s F : Int} {o : Option Int} {x : ByteArray} (hm : MoOk ⟨wd, y, mo, d, h, mi, s⟩) (hx : btL x = secondL ⟨wd, y, mo, d, h, mi, s⟩) (f0 : 0 ≤ F) (f1 : F < 10000) (hF : F % 100 = y % 100) (ho : rsecI F mo d h mi s = o) :
    (o = none → secI ⟨wd, F, mo, d, h, mi, s⟩ = none) ∧ (∀ n, o = some n → ∃ (t : ByteArray) (b : Bool), (t.toList == x.toList) = b ∧ secI ⟨wd, F, mo, d, h, mi, s⟩ = (if b = true then some n else none) ∧ ∀ W, Calls Tryd.prog 13 #[.agg #[.int .i64 F, .int .i64 mo, .int .i64 d, .int .i64 h, .int .i64 mi, .int .i64 s]] W fun e w' => e = .returned (.string t) ∧ Below W.heap.size W w') := by
  have hc : ClkIn h mi s := ⟨hm.clk.h, hm.clk.mi, hm.clk.s⟩
  by_cases hv : Valid F mo d
  · have h1 : rsecI F mo d h mi s = some (num F mo d * 86400 + h * 3600 + mi * 60 + s) := by
      unfold rsecI
      rw [if_pos ⟨hv, hc⟩]
    rw [h1] at ho
    subst ho
    constructor
    · intro e
      cases e
    · intro n hn
      injection hn with hn
      obtain ⟨wd', hwd'⟩ : ∃ wd', (num F mo d + 3) % 7 = wd' := ⟨_, rfl⟩
      have hm' : MoOk ⟨wd', F, mo, d, h, mi, s⟩ := ⟨by dsimp only; omega, ⟨f0, f1⟩, hm.mo, hm.d, ⟨hm.clk.h, hm.clk.mi, hm.clk.s⟩⟩
      have hb : btL (strL (secondL ⟨wd', F, mo, d, h, mi, s⟩)) = secondL ⟨wd', F, mo, d, h, mi, s⟩ := btL_strL (second_byts hm')
      refine ⟨strL (secondL ⟨wd', F, mo, d, h, mi, s⟩), _, rfl, ?_, fun W => rsecond_at wd' F mo d h mi s _ hv hm'.clk hwd' rfl W⟩
      unfold secI
      dsimp only
      rw [hwd']
      by_cases he : wd' = wd
      · subst he
        have heq : secondL ⟨wd', F, mo, d, h, mi, s⟩ = secondL ⟨wd', y, mo, d, h, mi, s⟩ := by
          rw [second_tail, second_tail]
          unfold tailL clkL
          dsimp only
          rw [hF]
        rw [if_pos ⟨hv, rfl⟩, if_pos (byt_eq.2 (by rw [hb, heq, hx]))]
        congr 1
        rw [← hn]
        unfold secN
        dsimp only
        omega
      · rw [if_neg (fun hh => he hh.2), if_neg]
        intro hh
        have h2 := byt_eq.1 hh
        rw [hb, hx] at h2
        have h3 := congrArg (dashP (fun v => v)) h2
        rw [dash_second _ _ hm', dash_second _ _ hm] at h3
        injection h3 with h3
        injection h3 with h4
        exact he h4
  · have h1 : rsecI F mo d h mi s = none := by
      unfold rsecI
      rw [if_neg (fun hh => hv hh.1)]
    rw [h1] at ho
    subst ho
    refine ⟨fun _ => ?_, fun n e => by cases e⟩
    unfold secI
    rw [if_neg (fun hh => hv hh.1)]
set_option maxHeartbeats 4000000 in
theorem rparse_second (wd y mo d h mi s : Int) (hm : MoOk ⟨wd, y, mo, d, h, mi, s⟩) (x : ByteArray) (hx : btL x = secondL ⟨wd, y, mo, d, h, mi, s⟩) (now Y : Int) (hY : YearIs (now / 86400) Y) (n0 : 0 ≤ now) (n1 : now ≤ 220752000000) (w : World) :
    Calls Tryd.prog 14 #[.string x, .int .i64 now] w (OptP (secI ⟨wd, fyI Y (y % 100), mo, d, h, mi, s⟩) w) := by
  have g1 : ¬ now < 0 := by omega
  have g2 : ¬ 220752000000 < now := by omega
  have e1 : decide (now < 0) = false := decide_eq_false g1
  have e2 : decide (220752000000 < now) = false := decide_eq_false g2
  have HM := Lib.hid hm
  have HX := Lib.hid hx
  have HY := Lib.hid hY
  obtain ⟨oo, hoo⟩ : ∃ oo, secI ⟨wd, fyI Y (y % 100), mo, d, h, mi, s⟩ = oo := ⟨_, rfl⟩
  rw [hoo]
  have HOO := Lib.hid hoo
  clear hoo
  have hl := btL_length x
  have dl := dayN_len wd hm.wd.1 hm.wd.2
  rw [hx, second_len hm] at hl
  have xz : 30 ≤ x.size := by dsimp only at hl; omega
  have xz2 : x.size ≤ 33 := by dsimp only at hl; omega
  have XZ := Lib.hid xz
  have XZ2 := Lib.hid xz2
  clear hl dl hx hY hm g1 g2
  go_enter Tryd.func14, Tryd.ntmps14
  go_wp2_with fail
  refine (rcut_at x _ 12 16 (by decide) rfl _).mono ?_
  rintro e wx ⟨rfl, hw⟩
  subst wx
  have zc1 := cutB_size x 12 16
  generalize cutB x 12 16 = c1 at zc1 ⊢
  go_wp2_with fail
  refine (rnum_at c1 _ rfl (by omega) _).mono ?_
  rintro e wx ⟨rfl, hw⟩
  subst wx
  generalize rnumI (btL c1) = a1
  go_wp2_with fail
  refine (rcut_at x _ 8 11 (by decide) rfl _).mono ?_
  rintro e wx ⟨rfl, hw⟩
  subst wx
  have zc2 := cutB_size x 8 11
  generalize cutB x 8 11 = c2 at zc2 ⊢
  go_wp2_with fail
  refine (rmonth_at c2 _).mono ?_
  rintro e w1 ⟨a2, rfl, m0, m1, B1, _⟩
  have B1 := Lib.hid B1
  go_wp2_with fail
  refine (rcut_at x _ 5 7 (by decide) rfl _).mono ?_
  rintro e wx ⟨rfl, hw⟩
  subst wx
  have zc3 := cutB_size x 5 7
  generalize cutB x 5 7 = c3 at zc3 ⊢
  go_wp2_with fail
  refine (rnum_at c3 _ rfl (by omega) _).mono ?_
  rintro e wx ⟨rfl, hw⟩
  subst wx
  generalize rnumI (btL c3) = a3
  go_wp2_with fail
  refine (rcut_at x _ 17 25 (by decide) rfl _).mono ?_
  rintro e wx ⟨rfl, hw⟩
  subst wx
  have zc4 := cutB_size x 17 25
  generalize cutB x 17 25 = c4 at zc4 ⊢
  go_wp2_with fail
  refine (rclocked_at _ _ _ _ _ _ _ _ _ c4 rfl rfl rfl _).mono ?_
  rintro e w2 ⟨rfl, hb⟩
  have B2 := Lib.hid (B1.out.trans (hb.mono B1.out.size))
  clear hb B1
  generalize rnumI (btL (cutB c4 0 2)) = a4
  generalize rnumI (btL (cutB c4 3 5)) = a5
  generalize rnumI (btL (cutB c4 6 8)) = a6
  obtain ⟨g, hg⟩ : ∃ g, w2.heap.size = g := ⟨_, rfl⟩
  obtain ⟨o1, ho1⟩ : ∃ o, rsecI a1 a2 a3 a4 a5 a6 = o := ⟨_, rfl⟩
  go_wp2_with fail
  refine calls_forget (fun wx => Hid (Box wx g #[.int .i64 a1, .int .i64 a2, .int .i64 a3, .int .i64 a4, .int .i64 a5, .int .i64 a6] 24) ∧ Hid (Below w.heap.size w wx)) ⟨Lib.hid (dBox_new hg.symm), Lib.hid (B2.out.alloc B2.out.size _)⟩ ?_
  clear hg B2 zc1 zc2 zc3 zc4 m0 m1
  rintro w3 ⟨X3, B3⟩
  refine (rsec_at a1 a2 a3 a4 a5 a6 o1 ho1 _).mono ?_
  rintro e w4 ⟨rfl, hb⟩
  have X4 := Lib.hid (X3.out.later hb)
  have B4 := Lib.hid (B3.out.trans (hb.mono B3.out.size))
  have FA : Hid (∀ n, o1 = some n → ∃ t : ByteArray, (t.toList == x.toList) = false ∧ ∀ W, Calls Tryd.prog 10 #[.agg #[.int .i64 a1, .int .i64 a2, .int .i64 a3, .int .i64 a4, .int .i64 a5, .int .i64 a6]] W fun e w' => e = .returned (.string t) ∧ Below W.heap.size W w') := Lib.hid (first_other ho1 xz)
  clear hb X3 B3 ho1
  have c := X4.out.cell
  have c0 := c 0
  have c1 := c 1
  have c2 := c 2
  have c3 := c 3
  have c4 := c 4
  have c5 := c 5
  have gl := X4.out.lt
  simp only [List.getElem?_toArray, List.getElem?_cons_zero, List.getElem?_cons_succ] at c0 c1 c2 c3 c4 c5
  clear c
  go_upto_region 7 with fail
  go_cut [46] (fun v wx => v = .bool false ∧ Hid (Below w.heap.size w wx))
  case first =>
    cases o1 with
    | none =>
      simp only [Option.getD_none, Option.isSome_none]
      go_wp2
      go_meet
      exact ⟨rfl, B4⟩
    | some n =>
      simp only [Option.getD_some, Option.isSome_some]
      obtain ⟨t, ht, FC⟩ := FA.out n rfl
      have FC := Lib.hid FC
      go_wp2_with fail
      refine (FC.out _).mono ?_
      rintro e w5 ⟨rfl, hb⟩
      have B5 := Lib.hid (B4.out.trans (hb.mono B4.out.size))
      clear hb
      go_wp2
      go_meet
      exact ⟨rfl, B5⟩
  case rest =>
    obtain ⟨rfl, B5⟩ := hcut
    clear c0 c1 c2 c3 c4 c5 gl X4 B4 FA
    go_wp2_with fail
    refine (rcut_at x _ 20 24 (by decide) rfl _).mono ?_
    rintro e wx ⟨rfl, hw⟩
    subst wx
    have zp1 := cutB_size x 20 24
    generalize cutB x 20 24 = p1 at zp1 ⊢
    go_wp2_with fail
    refine (rnum_at p1 _ rfl (by omega) _).mono ?_
    rintro e wx ⟨rfl, hw⟩
    subst wx
    generalize rnumI (btL p1) = b1
    go_wp2_with fail
    refine (rcut_at x _ 4 7 (by decide) rfl _).mono ?_
    rintro e wx ⟨rfl, hw⟩
    subst wx
    have zp2 := cutB_size x 4 7
    generalize cutB x 4 7 = p2 at zp2 ⊢
    go_wp2_with fail
    refine (rmonth_at p2 _).mono ?_
    rintro e w6 ⟨b2, rfl, _, _, B6, _⟩
    have B6 := Lib.hid (B5.out.trans (B6.mono B5.out.size))
    go_wp2_with fail
    refine (rcut_at x _ 8 10 (by decide) rfl _).mono ?_
    rintro e wx ⟨rfl, hw⟩
    subst wx
    have zp3 := cutB_size x 8 10
    generalize cutB x 8 10 = p3 at zp3 ⊢
    go_wp2_with fail
    refine (rnum_at p3 _ rfl (by omega) _).mono ?_
    rintro e wx ⟨rfl, hw⟩
    subst wx
    generalize rnumI (btL p3) = b3
    go_wp2_with fail
    refine (rcut_at x _ 11 19 (by decide) rfl _).mono ?_
    rintro e wx ⟨rfl, hw⟩
    subst wx
    have zp4 := cutB_size x 11 19
    generalize cutB x 11 19 = p4 at zp4 ⊢
    go_wp2_with fail
    refine (rclocked_at _ _ _ _ _ _ _ _ _ p4 rfl rfl rfl _).mono ?_
    rintro e w7 ⟨rfl, hb⟩
    have B7 := Lib.hid (B6.out.trans (hb.mono B6.out.size))
    clear hb B5 B6
    generalize rnumI (btL (cutB p4 0 2)) = b4
    generalize rnumI (btL (cutB p4 3 5)) = b5
    generalize rnumI (btL (cutB p4 6 8)) = b6
    obtain ⟨g2, hg2⟩ : ∃ g, w7.heap.size = g := ⟨_, rfl⟩
    have HG2 : Hid (w.heap.size ≤ g2) := Lib.hid (hg2 ▸ B7.out.size)
    go_upto_region 10 with fail
    refine code_forget (fun wx => Hid (Box wx g2 #[.int .i64 b1, .int .i64 b2, .int .i64 b3, .int .i64 b4, .int .i64 b5, .int .i64 b6] 24) ∧ Hid (Below w.heap.size w wx)) ⟨Lib.hid (dBox_new hg2.symm), Lib.hid (B7.out.alloc B7.out.size _)⟩ ?_
    clear hg2 B7
    rintro w8 ⟨X8, B8⟩
    obtain ⟨z8, hz8⟩ : ∃ z : Int, (x[8].toNat : Int) = z := ⟨_, rfl⟩
    have f8 := X8.out.free 2
    have f8c := X8.out.cell 2
    have gl := X8.out.lt
    simp only [List.getElem?_toArray, List.getElem?_cons_zero, List.getElem?_cons_succ] at f8c
    have e8 : decide (8 < x.size) = true := decide_eq_true (by omega)
    have e8' : decide ((8 : Int) < (x.size : Int)) = true := decide_eq_true (by omega)
    go_upto_if 68 with fail
    go_cut [] (fun wx => ∃ bd : Int, Hid (Box wx g2 #[.int .i64 b1, .int .i64 b2, .int .i64 bd, .int .i64 b4, .int .i64 b5, .int .i64 b6] 24) ∧ Hid (Below w.heap.size w wx))
    case first =>
      by_cases h32 : z8 = 32
      · have d1 : (z8 == 32) = true := beq_iff_eq.2 h32
        go_wp2_with fail
        refine (rcut_at x _ 9 10 (by decide) rfl _).mono ?_
        rintro e wx ⟨rfl, hw⟩
        subst wx
        have zq := cutB_size x 9 10
        generalize cutB x 9 10 = q1 at zq ⊢
        go_wp2_with fail
        refine (rnum_at q1 _ rfl (by omega) _).mono ?_
        rintro e wx ⟨rfl, hw⟩
        subst wx
        generalize rnumI (btL q1) = bd
        have X9 := Lib.hid (X8.out.set 2 (.int .i64 bd))
        have B9 := Lib.hid (B8.out.setCell (p := ⟨g2, 2, none⟩) HG2.out (.int .i64 bd))
        go_wp2
        go_meet
        exact ⟨bd, X9, B9⟩
      · have d1 : (z8 == 32) = false := beq_eq_false_iff_ne.2 h32
        go_wp2
        go_meet
        exact ⟨b3, X8, B8⟩
    case rest =>
      obtain ⟨bd, X9, B9⟩ := hcut
      clear f8 f8c gl e8 e8' hz8 X8 B8
      obtain ⟨o2, ho2⟩ : ∃ o, rsecI b1 b2 bd b4 b5 b6 = o := ⟨_, rfl⟩
      have c := X9.out.cell
      have c0 := c 0
      have c1 := c 1
      have c2 := c 2
      have c3 := c 3
      have c4 := c 4
      have c5 := c 5
      have gl := X9.out.lt
      simp only [List.getElem?_toArray, List.getElem?_cons_zero, List.getElem?_cons_succ] at c0 c1 c2 c3 c4 c5
      clear c
      go_wp2_with fail
      refine (rsec_at b1 b2 bd b4 b5 b6 o2 ho2 _).mono ?_
      rintro e w10 ⟨rfl, hb⟩
      have X10 := Lib.hid (X9.out.later hb)
      have B10 := Lib.hid (B9.out.trans (hb.mono B9.out.size))
      have FT : Hid (∀ n, o2 = some n → ∃ t : ByteArray, (t.toList == x.toList) = false ∧ ∀ W, Calls Tryd.prog 11 #[.agg #[.int .i64 b1, .int .i64 b2, .int .i64 bd, .int .i64 b4, .int .i64 b5, .int .i64 b6]] W fun e w' => e = .returned (.string t) ∧ Below W.heap.size W w') := Lib.hid (third_other ho2 XZ.out)
      clear hb X9 B9 ho2 c0 c1 c2 c3 c4 c5 gl
      have c := X10.out.cell
      have c0 := c 0
      have c1 := c 1
      have c2 := c 2
      have c3 := c 3
      have c4 := c 4
      have c5 := c 5
      have gl := X10.out.lt
      simp only [List.getElem?_toArray, List.getElem?_cons_zero, List.getElem?_cons_succ] at c0 c1 c2 c3 c4 c5
      clear c
      go_upto_region 13 with fail
      go_cut [84] (fun v wx => v = .bool false ∧ Hid (Below w.heap.size w wx))
      case first =>
        cases o2 with
        | none =>
          simp only [Option.getD_none, Option.isSome_none]
          go_wp2
          go_meet
          exact ⟨rfl, B10⟩
        | some n =>
          simp only [Option.getD_some, Option.isSome_some]
          obtain ⟨t, ht, FC⟩ := FT.out n rfl
          have FC := Lib.hid FC
          go_wp2_with fail
          refine (FC.out _).mono ?_
          rintro e w5 ⟨rfl, hb⟩
          have B5 := Lib.hid (B10.out.trans (hb.mono B10.out.size))
          clear hb
          go_wp2
          go_meet
          exact ⟨rfl, B5⟩
      case rest =>
        obtain ⟨rfl, B11⟩ := hcut
        clear c0 c1 c2 c3 c4 c5 gl X10 B10 FT
        go_wp2
        obtain ⟨K, hK⟩ : ∃ K : Nat, (dayN.getD wd.toNat []).length = K := ⟨_, rfl⟩
        have hcm := second_comma HM.out
        dsimp only at hcm
        rw [hK, ← HX.out] at hcm
        have K9 : K ≤ 9 := by have := (dayN_len wd HM.out.wd.1 HM.out.wd.2).2.1; omega
        have HCM := Lib.hid hcm
        have HKK := Lib.hid hK
        clear hcm hK
        go_loop [12] (fun i => ∃ k : Nat, i = .int .i64 (k : Int) ∧ k ≤ K) (fun i => K - (intOf i).toNat)
        case atStart => exact ⟨0, rfl, by omega⟩
        case round =>
          obtain ⟨k, rfl, k1⟩ := hrel
          have kx : k < x.size := by omega
          have f1 : decide ((k : Int) < (x.size : Int)) = true := decide_eq_true (by omega)
          have f2 : decide (k < x.size) = true := decide_eq_true kx
          obtain ⟨c, hc⟩ : ∃ c : Int, (x[k].toNat : Int) = c := ⟨_, rfl⟩
          have hck : Hid ((btL x)[k]? = some c) := Lib.hid (by
            have := btD_cons x k kx
            have h2 := congrArg List.head? this
            rw [List.head?_drop] at h2
            rw [h2, hc]
            rfl)
          by_cases hlt : k < K
          · have hne : (c != 44) = true := bne_iff_ne.2 (fun e => HCM.out.1 k hlt (by rw [hck.out, e]))
            go_wp2
            go_round
            case rel => exact ⟨k + 1, by simp, by omega⟩
            case measure => simp [intOf]; omega
          · have hkk : k = K := by omega
            subst hkk
            have hce : c = 44 := by
              have := HCM.out.2
              rw [hck.out] at this
              injection this
            have hne : (c != 44) = false := by simp [hce]
            go_wp2_with fail
            have ht := tail_cut HM.out HX.out k HKK.out.symm
            refine (rcut_at x _ k x.size (by omega) rfl _).mono ?_
            rintro e wx ⟨rfl, hw⟩
            subst wx
            generalize cutB x k x.size = tt at ht ⊢
            obtain ⟨p1, p2, p3, p4⟩ := tail_parts HM.out ht
            dsimp only at p1 p2 p3 p4
            clear ht f1 f2 hc hck hce hne kx
            obtain ⟨u1, hu1⟩ : ∃ u, cutB tt 9 11 = u := ⟨_, rfl⟩
            obtain ⟨u2, hu2⟩ : ∃ u, cutB tt 5 8 = u := ⟨_, rfl⟩
            obtain ⟨u3, hu3⟩ : ∃ u, cutB tt 2 4 = u := ⟨_, rfl⟩
            obtain ⟨u4, hu4⟩ : ∃ u, cutB tt 12 20 = u := ⟨_, rfl⟩
            rw [hu1] at p1
            rw [hu2] at p2
            rw [hu3] at p3
            rw [hu4] at p4
            have C1 := Lib.hid (fun W => rcut_at tt u1 9 11 (by decide) hu1 W)
            have C2 := Lib.hid (fun W => rcut_at tt u2 5 8 (by decide) hu2 W)
            have C3 := Lib.hid (fun W => rcut_at tt u3 2 4 (by decide) hu3 W)
            have C4 := Lib.hid (fun W => rcut_at tt u4 12 20 (by decide) hu4 W)
            have z1 : u1.size = 2 := by have := btL_length u1; rw [p1, padN_len] at this; exact this.symm
            have z3 : u3.size = 2 := by have := btL_length u3; rw [p3, padN_len] at this; exact this.symm
            have hd := HM.out.d
            have hmo := HM.out.mo
            dsimp only at hd hmo
            have q4 := clk_parts HM.out.clk p4
            dsimp only at q4
            obtain ⟨q1, q2, q3⟩ := q4
            have yb := HY.out.bd (by omega) (by omega)
            have N1 := Lib.hid (fun W => rnum_at u1 (y % 100) (by rw [p1]; exact rnumI_pad _ (by omega) (by omega)) (by omega) W)
            have N3 := Lib.hid (fun W => rnum_at u3 d (by rw [p3]; exact rnumI_pad _ (by omega) (by omega)) (by omega) W)
            have K4 := Lib.hid (fun a b c e1 e2 e3 W => rclocked_at a b c e1 e2 e3 h mi s u4 q1 q2 q3 W)
            have YA := Lib.hid (fun W => rat_at now Y HY.out n0 n1 W)
            obtain ⟨yy, hyy⟩ : ∃ yy, y % 100 = yy := ⟨_, rfl⟩
            have yy0 : 0 ≤ yy := by omega
            have yy1 : yy < 100 := by omega
            have hf := fyI_is Y yy yy0 yy1
            have hfb := fyI_bd Y yy yb yy0 yy1
            have YR := Lib.hid (fun W => ryear_at yy Y yy0 yy1 yb.1 yb.2 W)
            obtain ⟨F, hF⟩ : ∃ F, fyI Y yy = F := ⟨_, rfl⟩
            obtain ⟨o3, ho3⟩ : ∃ o, rsecI F mo d h mi s = o := ⟨_, rfl⟩
            rw [hF] at YR hf hfb
            have sb := second_back HM.out HX.out hfb.1 hfb.2 (by rw [hyy]; have := hf.2.2; omega) ho3
            rw [show secI ⟨wd, F, mo, d, h, mi, s⟩ = oo from by rw [← HOO.out, hyy, hF]] at sb
            have SB := Lib.hid sb
            clear sb HOO
            have S3 := Lib.hid (fun W => rsec_at F mo d h mi s o3 ho3 W)
            have P2 : Hid (∀ v, 0 ≤ v → v ≤ 12 → (∀ j : Nat, j < 12 → btL u2 = monN.getD j [] → v = (j : Int) + 1) → v = mo) := Lib.hid (fun v _ _ hj => by
              have := hj (mo - 1).toNat (by omega) p2
              omega)
            rw [hyy] at N1
            have y0 : decide (yy < 0) = false := decide_eq_false (by omega)
            have l1 : (u1.size != 2) = false := by rw [z1]; rfl
            have l1' : (((u1.size : Nat) : Int) != 2) = false := by rw [z1]; rfl
            have ZU : Hid (u1.size = 2) := Lib.hid z1
            clear hu1 hu2 hu3 hu4 p1 p2 p3 p4 q1 q2 q3 hd hmo yb z1 z3 hyy hf hfb hF ho3 e1 e2
            go_wp2_with fail
            refine (C1.out _).mono ?_
            rintro e wx ⟨rfl, hw⟩
            subst wx
            go_wp2_with fail
            refine (N1.out _).mono ?_
            rintro e wx ⟨rfl, hw⟩
            subst wx
            go_wp2_with fail
            refine (C1.out _).mono ?_
            rintro e wx ⟨rfl, hw⟩
            subst wx
            go_wp2_with fail
            refine (YA.out _).mono ?_
            rintro e wx ⟨rfl, hw⟩
            subst wx
            go_wp2_with fail
            refine (YR.out _).mono ?_
            rintro e wx ⟨rfl, hw⟩
            subst wx
            go_wp2_with fail
            refine (C2.out _).mono ?_
            rintro e wx ⟨rfl, hw⟩
            subst wx
            go_wp2_with fail
            refine (rmonth_at u2 _).mono ?_
            rintro e w12 ⟨v, rfl, v0, v1, hb, hj⟩
            have hv := P2.out v v0 v1 hj
            subst hv
            have B12 := Lib.hid (B11.out.trans (hb.mono B11.out.size))
            clear hb hj v0 v1
            go_wp2_with fail
            refine (C3.out _).mono ?_
            rintro e wx ⟨rfl, hw⟩
            subst wx
            go_wp2_with fail
            refine (N3.out _).mono ?_
            rintro e wx ⟨rfl, hw⟩
            subst wx
            go_wp2_with fail
            refine (C4.out _).mono ?_
            rintro e wx ⟨rfl, hw⟩
            subst wx
            go_wp2_with fail
            refine (K4.out _ _ _ _ _ _ _).mono ?_
            rintro e w13 ⟨rfl, hb⟩
            have B13 := Lib.hid (B12.out.trans (hb.mono B12.out.size))
            clear hb
            obtain ⟨g3, hg3⟩ : ∃ g, w13.heap.size = g := ⟨_, rfl⟩
            go_wp2_with fail
            refine calls_forget (fun wx => Hid (Box wx g3 #[.int .i64 F, .int .i64 v, .int .i64 d, .int .i64 h, .int .i64 mi, .int .i64 s] 24) ∧ Hid (Below w.heap.size w wx)) ⟨Lib.hid (dBox_new hg3.symm), Lib.hid (B13.out.alloc B13.out.size _)⟩ ?_
            clear hg3 B13 B12
            rintro w14 ⟨X14, B14⟩
            refine (S3.out _).mono ?_
            rintro e w15 ⟨rfl, hb⟩
            have X15 := Lib.hid (X14.out.later hb)
            have B15 := Lib.hid (B14.out.trans (hb.mono B14.out.size))
            clear hb X14 B14
            have c := X15.out.cell
            have c0 := c 0
            have c1 := c 1
            have c2 := c 2
            have c3 := c 3
            have c4 := c 4
            have c5 := c 5
            have gl := X15.out.lt
            simp only [List.getElem?_toArray, List.getElem?_cons_zero, List.getElem?_cons_succ] at c0 c1 c2 c3 c4 c5
            clear c
            cases o3 with
            | none =>
              have hn := SB.out.1 rfl
              clear SB
              subst hn
              simp only [Option.getD_none, Option.isSome_none]
              go_wp2
              go_ret2
              exact ⟨rfl, B15.out⟩
            | some n =>
              simp only [Option.getD_some, Option.isSome_some]
              obtain ⟨t, b, ht, hs, FC⟩ := SB.out.2 n rfl
              have FC := Lib.hid FC
              clear SB
              cases b with
              | true =>
                replace hs : oo = some n := hs
                subst hs
                go_wp2_with fail
                refine (FC.out _).mono ?_
                rintro e w16 ⟨rfl, hb⟩
                have B16 := Lib.hid (B15.out.trans (hb.mono B15.out.size))
                clear hb
                go_wp2
                go_ret2
                exact ⟨rfl, B16.out⟩
              | false =>
                replace hs : oo = none := hs
                subst hs
                go_wp2_with fail
                refine (FC.out _).mono ?_
                rintro e w16 ⟨rfl, hb⟩
                have B16 := Lib.hid (B15.out.trans (hb.mono B15.out.size))
                clear hb
                go_wp2
                go_ret2
                exact ⟨rfl, B16.out⟩
end Go.Proofs.YtcbllfbhifimnaaDoor
