/- RobotsOthers: the walk. -/
import Derived.Test.YtodlecjbpmggiaaGreatDoorRbAwk
import Derived.Test.YtodlecjbpmggiaaGreatDoorRbOtm
import Derived.Test.YtodlecjbpmggiaaGreatDoorRbSame
namespace Go.Proofs.YtodlecjbpmggiaaGreatDoor
open Go Go.RowKit
set_option linter.unusedVariables false
set_option linter.unusedSimpArgs false
set_option maxRecDepth 100000

theorem ot_app (a b : ByteArray) : btL (a ++ b) = btL a ++ btL b := by
  unfold btL
  simp
theorem ot_len (s : Int) (b a : List Int) : (readL s b a).ru.length ≤ 64 := by
  have hm : ∀ gs, (mergeL gs).ru.length ≤ 64 := fun gs => by
    show (List.take 64 _).length ≤ 64
    rw [List.length_take]
    omega
  unfold readL
  split
  · unfold pickL
    split
    · exact hm _
    · exact hm _
  · split
    · exact Nat.zero_le _
    · exact Nat.zero_le _
def oUA : ByteArray := ⟨#[117, 115, 101, 114, 45, 97, 103, 101, 110, 116, 58, 32, 67, 114, 97, 119, 108, 101, 114, 10]⟩
def oC0 : ByteArray := ⟨#[10, 99, 114, 97, 119, 108, 45, 100, 101, 108, 97, 121, 58, 32, 48, 10]⟩
def oST : ByteArray := ⟨#[117, 115, 101, 114, 45, 97, 103, 101, 110, 116, 58, 32, 115, 116, 114, 97, 110, 103, 101, 114, 10, 117, 115, 101, 114, 45, 97, 103, 101, 110, 116, 58, 32, 42, 10]⟩
def oC9 : ByteArray := ⟨#[10, 99, 114, 97, 119, 108, 45, 100, 101, 108, 97, 121, 58, 32, 57, 10]⟩
def oCr : ByteArray := ⟨#[99, 114, 97, 119, 108, 101, 114]⟩
def oCR : ByteArray := ⟨#[67, 82, 65, 87, 76, 69, 82]⟩
def oVe : ByteArray := ⟨#[47, 49, 46, 48]⟩
def oNL : ByteArray := ⟨#[10]⟩
theorem ot_mine (r : ByteArray) : btL (oUA ++ r ++ oC0) = mineL (btL r) := by
  rw [ot_app, ot_app]
  rw [show btL oUA = xUA ++ sCr ++ [10] from rfl, show btL oC0 = 10 :: (xCD ++ [48]) ++ [10] from rfl]
  unfold mineL
  simp
theorem ot_others (r o m : ByteArray) (hm : btL m = mineL (btL r)) : btL (oST ++ o ++ oC9 ++ m) = othersL (btL r) (btL o) := by
  rw [ot_app, ot_app, ot_app, hm]
  rw [show btL oST = (xUA ++ sSt) ++ 10 :: (xUA ++ [42]) ++ [10] from rfl, show btL oC9 = 10 :: (xCD ++ [57]) ++ [10] from rfl]
  unfold othersL
  simp
theorem ot_nl (r o : ByteArray) : btL (r ++ oNL ++ o) = btL r ++ 10 :: btL o := by
  rw [ot_app, ot_app, show btL oNL = [10] from rfl]
  simp
set_option maxHeartbeats 4000000 in
theorem robotsOthers_walk (rules other : ByteArray) (large : Bool) (w : World) (z0 : rules.size ≤ 140737488351232) (z1 : other.size ≤ 140737488351232) (hT : TabsM w) :
    Calls Tryz.prog 5 #[.string rules, .string other, .bool large] w fun e w' => e = .returned (.bool true) ∧ Below w.heap.size w w' := by
  have AW := Lib.hid (fun W (hW : Below w.heap.size w W) => awake11 W (hT.later hW))
  have B0 := Lib.hid (Below.refl w.heap.size w)
  clear hT
  go_enter Tryz.func5, Tryz.ntmps5
  by_cases h1 : 1500 < rules.size + other.size
  · have d1 : decide ((1500 : Int) < (rules.size : Int) + (other.size : Int)) = true := decide_eq_true (by omega)
    go_wp2_with fail
    refine (AW.out _ B0.out).mono ?_
    rintro e w2 ⟨rfl, hb2⟩
    go_wp2
    go_ret
    exact ⟨rfl, hb2⟩
  have d1 : decide ((1500 : Int) < (rules.size : Int) + (other.size : Int)) = false := decide_eq_false (by omega)
  obtain ⟨L, hL⟩ : ∃ L, linesL (btL rules ++ 10 :: btL other) = L := ⟨_, rfl⟩
  have hbt : linesL (btL (rules ++ oNL ++ other)) = L := by rw [ot_nl]; exact hL
  have hbo : LnOk L := by rw [← hbt]; exact rb_lines_ok (btL_byts _)
  have hll : L.length ≤ 5000 := by rw [← hL]; exact rb_lines_len _
  have LP : Hid (∀ W, Calls Tryz.prog 12 #[.string (rules ++ oNL ++ other)] W (LinesP L W)) := Lib.hid (fun W => lparse_at _ (by rw [ByteArray.size_append, ByteArray.size_append, show oNL.size = 1 from rfl]; omega) L hbt W trivial)
  have MATH : Hid (NoUA L → ∀ n1 n2, tokL n1 = tCr → tokL n2 = tCr → readL 200 (othersL (btL rules) (btL other)) n2 = readL 200 (mineL (btL rules)) n1) := Lib.hid (fun h n1 n2 k1 k2 => others_same _ _ n1 n2 (by rw [btL_length, btL_length]; omega) (by rw [hL]; exact h) k1 k2)
  have SZ : Hid (rules.size + other.size ≤ 1500) := Lib.hid (by omega)
  have LOK := Lib.hid hbo
  clear hL hbt hbo
  unfold oNL at LP
  go_wp2_with fail
  refine (LP.out _).mono ?_
  rintro e w1 ⟨a1, c1, rfl, o1, hb1⟩
  have RL := Lib.hid (rdLn_own o1 rfl)
  have B1 := Lib.hid hb1
  obtain ⟨n, hn⟩ : ∃ n, L.length = n := ⟨_, rfl⟩
  rw [hn]
  have HN := Lib.hid hn
  rw [hn] at hll
  clear o1 hb1 LP h1 d1 hn
  go_wp2_with fail
  go_loopw [8] (fun j wr => ∃ i : Nat, i ≤ n ∧ j = .int .i64 (i : Int) ∧ wr = w1 ∧ Hid (NoUA (L.take i))) (fun j _ => n - (intOf j).toNat)
  case atStart => exact ⟨0, by omega, rfl, rfl, Lib.hid (fun x hx => by simp at hx)⟩
  case round =>
    obtain ⟨i, hi, rfl, rfl, HP⟩ := hrel
    by_cases hlt : i < n
    · have hkd : decide ((i : Int) < (n : Int)) = true := decide_eq_true (by omega)
      obtain ⟨x, hx⟩ : ∃ x, L[i]? = some x := ⟨_, List.getElem?_eq_getElem (by rw [HN.out]; exact hlt)⟩
      obtain ⟨bg, off, ha, hc⟩ := RL.out
      have ha := ha (by intro e; rw [e] at hx; simp at hx)
      subst ha
      obtain ⟨c0, _⟩ := hc i x hx
      have hb := (LOK.out x (List.mem_of_getElem? hx)).1
      have HX : Hid (L.take (i + 1) = L.take i ++ [x]) := Lib.hid (by rw [List.take_add_one, hx]; rfl)
      obtain ⟨q, hq⟩ : ∃ q, ((strL x.1).toList == [117, 115, 101, 114, 45, 97, 103, 101, 110, 116]) = q := ⟨_, rfl⟩
      have HQ : Hid (q = decide (x.1 = kUA)) := Lib.hid (by rw [← hq, rb_tl hb]; rfl)
      obtain ⟨sv, hsv⟩ : ∃ sv, strL x.1 = sv := ⟨_, rfl⟩
      rw [hsv] at c0 hq
      have hx0 : (0 : Int) ≤ (i : Int) := by omega
      have hx1 : (i : Int) < (n : Int) := by omega
      clear hc hx hb hsv
      cases q with
      | true =>
        go_wp2_with fail
        refine (AW.out _ B1.out).mono ?_
        rintro e w2 ⟨rfl, hb2⟩
        have B2 := Lib.hid (B1.out.trans (hb2.mono B1.out.size))
        clear hb2
        go_wp2
        go_ret
        exact ⟨rfl, B2.out⟩
      | false =>
        have NX : Hid (NoUA (L.take (i + 1))) := Lib.hid (fun y hy => by
          rw [HX.out] at hy
          rcases List.mem_append.1 hy with hy | hy
          · exact HP.out y hy
          · rw [List.mem_singleton.1 hy]
            exact of_decide_eq_false HQ.out.symm)
        go_wp2
        go_roundw
        case rel => exact ⟨i + 1, by omega, by simp, trivial, NX⟩
        case measure =>
          simp only [intOf]
          omega
    · have hkd : decide ((i : Int) < (n : Int)) = false := decide_eq_false (by omega)
      obtain rfl : i = n := by omega
      have MT := Lib.hid (MATH.out (by have := HP.out; rw [List.take_of_length_le (by rw [HN.out]; exact Nat.le_refl _)] at this; exact this))
      clear MATH HP RL LOK HN
      obtain ⟨mine, hmine⟩ : ∃ m, oUA ++ rules ++ oC0 = m := ⟨_, rfl⟩
      have HMI : Hid (btL mine = mineL (btL rules)) := Lib.hid (by rw [← hmine]; exact ot_mine rules)
      have hms : mine.size ≤ 2000 := by
        have := SZ.out
        rw [← hmine, ByteArray.size_append, ByteArray.size_append, show oUA.size = 20 from rfl, show oC0.size = 16 from rfl]
        omega
      obtain ⟨oth, hoth⟩ : ∃ m, oST ++ other ++ oC9 ++ mine = m := ⟨_, rfl⟩
      have HOT : Hid (btL oth = othersL (btL rules) (btL other)) := Lib.hid (by rw [← hoth]; exact ot_others rules other mine HMI.out)
      have hos : oth.size ≤ 5000 := by
        have := SZ.out
        rw [← hoth, ByteArray.size_append, ByteArray.size_append, ByteArray.size_append, show oST.size = 35 from rfl, show oC9.size = 16 from rfl]
        omega
      cases large with
      | true =>
        obtain ⟨ro, hro⟩ : ∃ ro, readL 200 (mineL (btL rules)) (btL (oCR ++ oVe)) = ro := ⟨_, rfl⟩
        have hro2 : readL 200 (othersL (btL rules) (btL other)) (btL oCR) = ro := by rw [← hro]; exact MT.out _ _ (by rw [ot_app]; rfl) rfl
        have hlen : ro.ru.length ≤ 64 := by rw [← hro]; exact ot_len _ _ _
        have RD1 : Hid (∀ W, Calls Tryz.prog 8 #[.int .i64 200, .string mine, .string (oCR ++ oVe)] W (RoP W ro)) := Lib.hid (fun W => by
          have := read_at 200 mine (oCR ++ oVe) (by omega) (by decide) W
          rw [HMI.out, hro] at this
          exact this)
        have RD2 : Hid (∀ W, Calls Tryz.prog 8 #[.int .i64 200, .string oth, .string oCR] W (RoP W ro)) := Lib.hid (fun W => by
          have := read_at 200 oth oCR (by omega) (by decide) W
          rw [HOT.out, hro2] at this
          exact this)
        have SM := Lib.hid (fun a1 a2 c1 c2 W h1 h2 => same_at ro.all ro.none_ ro.de ro.ru _ rfl (by omega) a1 a2 c1 c2 W h1 h2)
        obtain ⟨m, hm⟩ : ∃ m, ro.ru.length = m := ⟨_, rfl⟩
        rw [hm] at SM hlen
        have HLM := Lib.hid hm
        unfold oCR oVe at RD1
        unfold oCR at RD2
        unfold oUA oC0 at hmine
        unfold oST oC9 at hoth
        clear hro hro2 HMI HOT MT hm
        go_upto_region 13 with fail
        first | rw [hmine] | skip
        go_wp2_with fail
        refine (RD1.out _).mono ?_
        rintro e w2 ⟨a2, c2, rfl, r2, _, _, _, hb2⟩
        have Q2 := Lib.hid r2
        have B2 := Lib.hid (B1.out.trans (hb2.mono B1.out.size))
        have sz2 := B2.out.size
        rw [HLM.out]
        have BX := Lib.hid (Box.new w2 #[.bool ro.all, .bool ro.none_, .slice a2 m c2, .int .i64 ro.de] 26)
        have B3 := Lib.hid (B2.out.alloc sz2 (.cells #[.bool ro.all, .bool ro.none_, .slice a2 m c2, .int .i64 ro.de] 26))
        have Q3 := Lib.hid (Q2.out.later ((Below.refl _ _).alloc (Nat.le_refl _) (.cells #[.bool ro.all, .bool ro.none_, .slice a2 m c2, .int .i64 ro.de] 26)))
        clear r2 hb2 B1 Q2 RD1 hmine
        go_upto_region 14 with fail
        obtain ⟨w3, hw3⟩ : ∃ W, w2.alloc (.cells #[.bool ro.all, .bool ro.none_, .slice a2 m c2, .int .i64 ro.de] 26) = W := ⟨_, rfl⟩
        rw [hw3] at BX B3 Q3
        rw [hw3]
        clear hw3
        go_wp2_with fail
        first | rw [hoth] | skip
        refine (RD2.out _).mono ?_
        rintro e w4 ⟨a4, c4, rfl, r4, _, _, _, hb4⟩
        have Q4 := Lib.hid r4
        have Q3' := Lib.hid (Q3.out.later hb4)
        have BX4 := Lib.hid (BX.out.later hb4)
        have B4 := Lib.hid (B3.out.trans (hb4.mono B3.out.size))
        have sz4 := B4.out.size
        rw [HLM.out]
        have BY := Lib.hid (Box.new w4 #[.bool ro.all, .bool ro.none_, .slice a4 m c4, .int .i64 ro.de] 26)
        have BX5 := Lib.hid (BX4.out.alloc (.cells #[.bool ro.all, .bool ro.none_, .slice a4 m c4, .int .i64 ro.de] 26))
        have B5 := Lib.hid (B4.out.alloc sz4 (.cells #[.bool ro.all, .bool ro.none_, .slice a4 m c4, .int .i64 ro.de] 26))
        have Q5 := Lib.hid (Q4.out.later ((Below.refl _ _).alloc (Nat.le_refl _) (.cells #[.bool ro.all, .bool ro.none_, .slice a4 m c4, .int .i64 ro.de] 26)))
        have Q5' := Lib.hid (Q3'.out.later ((Below.refl _ _).alloc (Nat.le_refl _) (.cells #[.bool ro.all, .bool ro.none_, .slice a4 m c4, .int .i64 ro.de] 26)))
        clear r4 hb4 B3 Q3 Q4 Q3' BX BX4 RD2 hoth
        go_upto_region 15 with fail
        obtain ⟨w5, hw5⟩ : ∃ W, w4.alloc (.cells #[.bool ro.all, .bool ro.none_, .slice a4 m c4, .int .i64 ro.de] 26) = W := ⟨_, rfl⟩
        rw [hw5] at BY BX5 B5 Q5 Q5'
        rw [hw5]
        clear hw5
        go_wp2_with fail
        refine (AW.out _ B5.out).mono ?_
        rintro e w6 ⟨rfl, hb6⟩
        have BX6 := BX5.out.later hb6
        have BY6 := BY.out.later hb6
        have Q6 := Lib.hid (Q5.out.later hb6)
        have Q6' := Lib.hid (Q5'.out.later hb6)
        have B6 := Lib.hid (B5.out.trans (hb6.mono B5.out.size))
        have x0 := BX6.cell 0
        have x1 := BX6.cell 1
        have x2 := BX6.cell 2
        have x3 := BX6.cell 3
        have y0 := BY6.cell 0
        have y1 := BY6.cell 1
        have y2 := BY6.cell 2
        have y3 := BY6.cell 3
        have lx := BX6.lt
        have ly := BY6.lt
        clear hb6 BX5 BY Q5 Q5' B5 BX6 BY6
        go_wp2_with fail
        refine (SM.out _ _ _ _ _ Q6'.out Q6.out).mono ?_
        rintro e w7 ⟨rfl, hb7⟩
        go_wp2
        go_ret
        exact ⟨rfl, B6.out.trans (hb7.mono B6.out.size)⟩
      | false =>
        obtain ⟨ro, hro⟩ : ∃ ro, readL 200 (mineL (btL rules)) (btL (oCr ++ oVe)) = ro := ⟨_, rfl⟩
        have hro2 : readL 200 (othersL (btL rules) (btL other)) (btL oCr) = ro := by rw [← hro]; exact MT.out _ _ (by rw [ot_app]; rfl) rfl
        have hlen : ro.ru.length ≤ 64 := by rw [← hro]; exact ot_len _ _ _
        have RD1 : Hid (∀ W, Calls Tryz.prog 8 #[.int .i64 200, .string mine, .string (oCr ++ oVe)] W (RoP W ro)) := Lib.hid (fun W => by
          have := read_at 200 mine (oCr ++ oVe) (by omega) (by decide) W
          rw [HMI.out, hro] at this
          exact this)
        have RD2 : Hid (∀ W, Calls Tryz.prog 8 #[.int .i64 200, .string oth, .string oCr] W (RoP W ro)) := Lib.hid (fun W => by
          have := read_at 200 oth oCr (by omega) (by decide) W
          rw [HOT.out, hro2] at this
          exact this)
        have SM := Lib.hid (fun a1 a2 c1 c2 W h1 h2 => same_at ro.all ro.none_ ro.de ro.ru _ rfl (by omega) a1 a2 c1 c2 W h1 h2)
        obtain ⟨m, hm⟩ : ∃ m, ro.ru.length = m := ⟨_, rfl⟩
        rw [hm] at SM hlen
        have HLM := Lib.hid hm
        unfold oCr oVe at RD1
        unfold oCr at RD2
        unfold oUA oC0 at hmine
        unfold oST oC9 at hoth
        clear hro hro2 HMI HOT MT hm
        go_upto_region 13 with fail
        first | rw [hmine] | skip
        go_wp2_with fail
        refine (RD1.out _).mono ?_
        rintro e w2 ⟨a2, c2, rfl, r2, _, _, _, hb2⟩
        have Q2 := Lib.hid r2
        have B2 := Lib.hid (B1.out.trans (hb2.mono B1.out.size))
        have sz2 := B2.out.size
        rw [HLM.out]
        have BX := Lib.hid (Box.new w2 #[.bool ro.all, .bool ro.none_, .slice a2 m c2, .int .i64 ro.de] 26)
        have B3 := Lib.hid (B2.out.alloc sz2 (.cells #[.bool ro.all, .bool ro.none_, .slice a2 m c2, .int .i64 ro.de] 26))
        have Q3 := Lib.hid (Q2.out.later ((Below.refl _ _).alloc (Nat.le_refl _) (.cells #[.bool ro.all, .bool ro.none_, .slice a2 m c2, .int .i64 ro.de] 26)))
        clear r2 hb2 B1 Q2 RD1 hmine
        go_upto_region 14 with fail
        obtain ⟨w3, hw3⟩ : ∃ W, w2.alloc (.cells #[.bool ro.all, .bool ro.none_, .slice a2 m c2, .int .i64 ro.de] 26) = W := ⟨_, rfl⟩
        rw [hw3] at BX B3 Q3
        rw [hw3]
        clear hw3
        go_wp2_with fail
        first | rw [hoth] | skip
        refine (RD2.out _).mono ?_
        rintro e w4 ⟨a4, c4, rfl, r4, _, _, _, hb4⟩
        have Q4 := Lib.hid r4
        have Q3' := Lib.hid (Q3.out.later hb4)
        have BX4 := Lib.hid (BX.out.later hb4)
        have B4 := Lib.hid (B3.out.trans (hb4.mono B3.out.size))
        have sz4 := B4.out.size
        rw [HLM.out]
        have BY := Lib.hid (Box.new w4 #[.bool ro.all, .bool ro.none_, .slice a4 m c4, .int .i64 ro.de] 26)
        have BX5 := Lib.hid (BX4.out.alloc (.cells #[.bool ro.all, .bool ro.none_, .slice a4 m c4, .int .i64 ro.de] 26))
        have B5 := Lib.hid (B4.out.alloc sz4 (.cells #[.bool ro.all, .bool ro.none_, .slice a4 m c4, .int .i64 ro.de] 26))
        have Q5 := Lib.hid (Q4.out.later ((Below.refl _ _).alloc (Nat.le_refl _) (.cells #[.bool ro.all, .bool ro.none_, .slice a4 m c4, .int .i64 ro.de] 26)))
        have Q5' := Lib.hid (Q3'.out.later ((Below.refl _ _).alloc (Nat.le_refl _) (.cells #[.bool ro.all, .bool ro.none_, .slice a4 m c4, .int .i64 ro.de] 26)))
        clear r4 hb4 B3 Q3 Q4 Q3' BX BX4 RD2 hoth
        go_upto_region 15 with fail
        obtain ⟨w5, hw5⟩ : ∃ W, w4.alloc (.cells #[.bool ro.all, .bool ro.none_, .slice a4 m c4, .int .i64 ro.de] 26) = W := ⟨_, rfl⟩
        rw [hw5] at BY BX5 B5 Q5 Q5'
        rw [hw5]
        clear hw5
        go_wp2_with fail
        refine (AW.out _ B5.out).mono ?_
        rintro e w6 ⟨rfl, hb6⟩
        have BX6 := BX5.out.later hb6
        have BY6 := BY.out.later hb6
        have Q6 := Lib.hid (Q5.out.later hb6)
        have Q6' := Lib.hid (Q5'.out.later hb6)
        have B6 := Lib.hid (B5.out.trans (hb6.mono B5.out.size))
        have x0 := BX6.cell 0
        have x1 := BX6.cell 1
        have x2 := BX6.cell 2
        have x3 := BX6.cell 3
        have y0 := BY6.cell 0
        have y1 := BY6.cell 1
        have y2 := BY6.cell 2
        have y3 := BY6.cell 3
        have lx := BX6.lt
        have ly := BY6.lt
        clear hb6 BX5 BY Q5 Q5' B5 BX6 BY6
        go_wp2_with fail
        refine (SM.out _ _ _ _ _ Q6'.out Q6.out).mono ?_
        rintro e w7 ⟨rfl, hb7⟩
        go_wp2
        go_ret
        exact ⟨rfl, B6.out.trans (hb7.mono B6.out.size)⟩
end Go.Proofs.YtodlecjbpmggiaaGreatDoor
