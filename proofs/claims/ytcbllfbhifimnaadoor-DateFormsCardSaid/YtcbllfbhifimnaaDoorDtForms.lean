/- DateForms: the walk. -/
import Derived.Test.YtcbllfbhifimnaaDoorDtRp
import Derived.Test.YtcbllfbhifimnaaDoorDtOther
import Derived.Test.YtcbllfbhifimnaaDoorDtThird
namespace Go.Proofs.YtcbllfbhifimnaaDoor
open Go.RowKit
set_option linter.unusedVariables false
set_option linter.unusedSimpArgs false
set_option maxRecDepth 10000

theorem moS_of {y mo d h mi s n wd : Int} (hc : ClkIn h mi s) (hn : n = num y mo d * 86400 + h * 3600 + mi * 60 + s) (hwd : (num y mo d + 3) % 7 = wd) : num y mo d = n / 86400 ∧ moS n y mo d = ⟨wd, y, mo, d, h, mi, s⟩ := by
  obtain ⟨k1, k2, k3⟩ := hc
  have h1 : num y mo d = n / 86400 := by omega
  refine ⟨h1, ?_⟩
  unfold moS
  have e1 : n % 86400 = h * 3600 + mi * 60 + s := by omega
  rw [e1, ← h1, hwd]
  have e2 : (h * 3600 + mi * 60 + s) / 3600 = h := by omega
  have e3 : (h * 3600 + mi * 60 + s) / 60 % 60 = mi := by omega
  have e4 : (h * 3600 + mi * 60 + s) % 60 = s := by omega
  rw [e2, e3, e4]
set_option maxHeartbeats 4000000 in
theorem dateForms_walk (y mo d t now : Int) (w : World) (_w0 : (Lit.int .i64 y).wf = true) (_w1 : (Lit.int .i64 mo).wf = true) (_w2 : (Lit.int .i64 d).wf = true) (w3 : (Lit.int .i64 t).wf = true) (w4 : (Lit.int .u32 now).wf = true) (hT : TabT w) :
    Calls Tryd.prog 3 #[.int .i64 y, .int .i64 mo, .int .i64 d, .int .i64 t, .int .u32 now] w fun e w' => e = .returned (.bool true) ∧ Below w.heap.size w w' := by
  obtain ⟨t0, t1⟩ := i64_wf w3
  have l1 : 0 ≤ now ∧ now ≤ 4294967295 := by simp [Lit.wf, IntKind.min, IntKind.max, IntKind.signed, IntKind.bits] at w4; omega
  obtain ⟨n0, n1⟩ := l1
  clear w3 w4 _w0 _w1 _w2
  have HT := Lib.hid hT
  have AW := Lib.hid (fun (W : World) (hW : TabT W) => d_awake W hW)
  have MO := Lib.hid (fun W => moment_at y mo d t t0 t1 W)
  clear hT t0 t1
  go_enter Tryd.func3, Tryd.ntmps3
  go_wp2_with fail
  refine (MO.out _).mono ?_
  rintro e w1 ⟨h, mi, s, o, rfl, B1, ho⟩
  have T1 := Lib.hid (HT.out.later B1)
  have B1 := Lib.hid B1
  have HO := Lib.hid ho
  obtain ⟨g, hg⟩ : ∃ g, w1.heap.size = g := ⟨_, rfl⟩
  clear ho
  cases o with
  | none =>
    simp only [Option.getD_none, Option.isSome_none]
    go_wp2_with fail
    refine calls_forget (fun wx => Hid (TabT wx) ∧ Hid (Below w.heap.size w wx)) ⟨Lib.hid (T1.out.later ((Below.refl _ _).alloc (Nat.le_refl _) _)), Lib.hid (B1.out.alloc B1.out.size _)⟩ ?_
    rintro w2 ⟨T2, B2⟩
    refine (AW.out _ T2.out).mono ?_
    rintro e w3 ⟨rfl, hb⟩
    have B3 := Lib.hid (B2.out.trans (hb.mono B2.out.size))
    clear hb
    go_wp2
    go_ret
    exact ⟨rfl, B3.out⟩
  | some n =>
    simp only [Option.getD_some, Option.isSome_some]
    obtain ⟨hv, hc, hn⟩ := HO.out n rfl
    obtain ⟨wd, hwd⟩ : ∃ wd, (num y mo d + 3) % 7 = wd := ⟨_, rfl⟩
    have hm : MoOk ⟨wd, y, mo, d, h, mi, s⟩ := by
      have b := lenI_bd y mo
      obtain ⟨h1, h2, h3, h4, h5, h6⟩ := hv
      obtain ⟨k1, k2, k3⟩ := hc
      exact ⟨by dsimp only; omega, by dsimp only; omega, by dsimp only; omega, by dsimp only; omega, ⟨k1, k2, k3⟩⟩
    have hsec : secI ⟨wd, y, mo, d, h, mi, s⟩ = some n := by
      unfold secI
      rw [if_pos ⟨hv, hwd⟩]
      unfold secN
      dsimp only
      rw [hn]
      congr 1
      omega
    obtain ⟨hms1, hms2⟩ := moS_of hc hn hwd
    have hnd : nowD now = now / 86400 := by
      unfold nowD
      split
      · omega
      · rw [if_neg (by omega)]
    obtain ⟨Y, hY⟩ := YearIs.some_ (now / 86400) (by omega) (by omega)
    have yb := hY.bd (by omega) (by omega)
    have yy0 : 0 ≤ y % 100 := by omega
    have yy1 : y % 100 < 100 := by omega
    obtain ⟨x1, hx1⟩ : ∃ x, strL (firstL ⟨wd, y, mo, d, h, mi, s⟩) = x := ⟨_, rfl⟩
    obtain ⟨x2, hx2⟩ : ∃ x, strL (secondL ⟨wd, y, mo, d, h, mi, s⟩) = x := ⟨_, rfl⟩
    obtain ⟨x3, hx3⟩ : ∃ x, strL (thirdL ⟨wd, y, mo, d, h, mi, s⟩) = x := ⟨_, rfl⟩
    have b1 : btL x1 = firstL ⟨wd, y, mo, d, h, mi, s⟩ := by rw [← hx1, btL_strL (first_byts hm)]
    have b2 : btL x2 = secondL ⟨wd, y, mo, d, h, mi, s⟩ := by rw [← hx2, btL_strL (second_byts hm)]
    have b3 : btL x3 = thirdL ⟨wd, y, mo, d, h, mi, s⟩ := by rw [← hx3, btL_strL (third_byts hm)]
    have FI := Lib.hid (fun W => rfirst_at wd y mo d h mi s x1 hv hm.clk hwd hx1 W)
    have SE := Lib.hid (fun W => rsecond_at wd y mo d h mi s x2 hv hm.clk hwd hx2 W)
    have TH := Lib.hid (fun W => rthird_at wd y mo d h mi s x3 hv hm.clk hwd hx3 W)
    have PA : Hid (∀ W, TabT W → Calls Tryd.prog 9 #[.string x1, .int .i64 now] W (fun e w' => e = .returned (.tuple #[.int .i64 n, .bool true]) ∧ Below W.heap.size W w')) := Lib.hid (fun W hW => parse_as x1 now (some n) (by omega) (by omega) (fun Y _ => by rw [b1, parI_fix (fixP_first _ hm), hsec]) W hW)
    have PC : Hid (∀ W, TabT W → Calls Tryd.prog 9 #[.string x3, .int .i64 now] W (fun e w' => e = .returned (.tuple #[.int .i64 n, .bool true]) ∧ Below W.heap.size W w')) := Lib.hid (fun W hW => parse_as x3 now (some n) (by omega) (by omega) (fun Y _ => by rw [b3, par_third hm, hsec]) W hW)
    have FO := Lib.hid (fun (W : World) (hW : TabT W) => format_yes n y mo d x1 hv hms1 (by rw [hms2]; exact hx1) W hW)
    obtain ⟨F, hF⟩ : ∃ F, fyI Y (y % 100) = F := ⟨_, rfl⟩
    obtain ⟨o2, ho2⟩ : ∃ o, secI ⟨wd, F, mo, d, h, mi, s⟩ = o := ⟨_, rfl⟩
    have PB : Hid (∀ W, TabT W → Calls Tryd.prog 9 #[.string x2, .int .i64 now] W (OptP o2 W)) := Lib.hid (fun W hW => by
      have h1 := parse_at x2 now Y (by rw [hnd]; exact hY) (by omega) (by omega) W hW.d
      rw [b2, par_second hm, hF, ho2] at h1
      exact h1)
    have RP : Hid (∀ W, Calls Tryd.prog 14 #[.string x2, .int .i64 now] W (OptP o2 W)) := Lib.hid (fun W => by
      have h1 := rparse_second wd y mo d h mi s hm x2 b2 now Y hY n0 (by omega) W
      rw [hF, ho2] at h1
      exact h1)
    have YA := Lib.hid (fun W => rat_at now Y hY n0 (by omega) W)
    have YR := Lib.hid (fun W => ryear_at (y % 100) Y yy0 yy1 yb.1 yb.2 W)
    rw [hF] at YR
    have ym : y.tmod 100 = y % 100 := Int.tmod_eq_emod_of_nonneg hm.y.1
    obtain ⟨near, hnear⟩ : ∃ b, (F == y) = b := ⟨_, rfl⟩
    have NE : Hid (near = true → o2 = some n) := Lib.hid (fun hh => by
      rw [hh] at hnear
      have := beq_iff_eq.1 hnear
      rw [← ho2, this, hsec])
    obtain ⟨y2, hy2⟩ : ∃ z, y % 100 = z := ⟨_, rfl⟩
    rw [hy2] at YR ym
    clear hv hc hn hwd hm hsec hms1 hms2 hnd hY yb yy0 yy1 hx1 hx2 hx3 b1 b2 b3 hF ho2 HO hy2
    go_wp2_with fail
    refine calls_forget (fun wx => Hid (Box wx g #[.int .i64 y, .int .i64 mo, .int .i64 d, .int .i64 h, .int .i64 mi, .int .i64 s] 24) ∧ Hid (TabT wx) ∧ Hid (Below w.heap.size w wx)) ⟨Lib.hid (dBox_new hg.symm), Lib.hid (T1.out.later ((Below.refl _ _).alloc (Nat.le_refl _) _)), Lib.hid (B1.out.alloc B1.out.size _)⟩ ?_
    clear T1 B1 hg
    rintro w2 ⟨X2, T2, B2⟩
    refine (FI.out _).mono ?_
    rintro e w3 ⟨rfl, hb⟩
    have X3 := Lib.hid (X2.out.later hb)
    have T3 := Lib.hid (T2.out.later hb)
    have B3 := Lib.hid (B2.out.trans (hb.mono B2.out.size))
    clear hb X2 T2 B2
    have c := X3.out.cell
    have c0 := c 0
    have c1 := c 1
    have c2 := c 2
    have c3 := c 3
    have c4 := c 4
    have c5 := c 5
    have gl := X3.out.lt
    simp only [List.getElem?_toArray, List.getElem?_cons_zero, List.getElem?_cons_succ] at c0 c1 c2 c3 c4 c5
    clear c
    go_wp2_with fail
    refine (PA.out _ T3.out).mono ?_
    rintro e w4 ⟨rfl, hb⟩
    have X4 := Lib.hid (X3.out.later hb)
    have T4 := Lib.hid (T3.out.later hb)
    have B4 := Lib.hid (B3.out.trans (hb.mono B3.out.size))
    clear hb X3 T3 B3 c0 c1 c2 c3 c4 c5 gl
    have c := X4.out.cell
    have c0 := c 0
    have c1 := c 1
    have c2 := c 2
    have c3 := c 3
    have c4 := c 4
    have c5 := c 5
    have gl := X4.out.lt
    simp only [List.getElem?_toArray, List.getElem?_cons_zero, List.getElem?_cons_succ] at c0 c1 c2 c3 c4 c5
    clear c
    go_wp2_with fail
    refine (TH.out _).mono ?_
    rintro e w5 ⟨rfl, hb⟩
    have X5 := Lib.hid (X4.out.later hb)
    have T5 := Lib.hid (T4.out.later hb)
    have B5 := Lib.hid (B4.out.trans (hb.mono B4.out.size))
    clear hb X4 T4 B4 c0 c1 c2 c3 c4 c5 gl
    have c := X5.out.cell
    have c0 := c 0
    have c1 := c 1
    have c2 := c 2
    have c3 := c 3
    have c4 := c 4
    have c5 := c 5
    have gl := X5.out.lt
    simp only [List.getElem?_toArray, List.getElem?_cons_zero, List.getElem?_cons_succ] at c0 c1 c2 c3 c4 c5
    clear c
    go_wp2_with fail
    refine (PC.out _ T5.out).mono ?_
    rintro e w6 ⟨rfl, hb⟩
    have X6 := Lib.hid (X5.out.later hb)
    have T6 := Lib.hid (T5.out.later hb)
    have B6 := Lib.hid (B5.out.trans (hb.mono B5.out.size))
    clear hb X5 T5 B5 c0 c1 c2 c3 c4 c5 gl
    have c := X6.out.cell
    have c0 := c 0
    have c1 := c 1
    have c2 := c 2
    have c3 := c 3
    have c4 := c 4
    have c5 := c 5
    have gl := X6.out.lt
    simp only [List.getElem?_toArray, List.getElem?_cons_zero, List.getElem?_cons_succ] at c0 c1 c2 c3 c4 c5
    clear c
    go_wp2_with fail
    refine (FO.out _ T6.out).mono ?_
    rintro e w7 ⟨rfl, hb⟩
    have X7 := Lib.hid (X6.out.later hb)
    have T7 := Lib.hid (T6.out.later hb)
    have B7 := Lib.hid (B6.out.trans (hb.mono B6.out.size))
    clear hb X6 T6 B6 c0 c1 c2 c3 c4 c5 gl
    have c := X7.out.cell
    have c0 := c 0
    have c1 := c 1
    have c2 := c 2
    have c3 := c 3
    have c4 := c 4
    have c5 := c 5
    have gl := X7.out.lt
    simp only [List.getElem?_toArray, List.getElem?_cons_zero, List.getElem?_cons_succ] at c0 c1 c2 c3 c4 c5
    clear c
    go_wp2_with fail
    refine (FI.out _).mono ?_
    rintro e w8 ⟨rfl, hb⟩
    have X8 := Lib.hid (X7.out.later hb)
    have T8 := Lib.hid (T7.out.later hb)
    have B8 := Lib.hid (B7.out.trans (hb.mono B7.out.size))
    clear hb X7 T7 B7 c0 c1 c2 c3 c4 c5 gl
    have c := X8.out.cell
    have c0 := c 0
    have c1 := c 1
    have c2 := c 2
    have c3 := c 3
    have c4 := c 4
    have c5 := c 5
    have gl := X8.out.lt
    simp only [List.getElem?_toArray, List.getElem?_cons_zero, List.getElem?_cons_succ] at c0 c1 c2 c3 c4 c5
    clear c
    go_wp2_with fail
    refine (SE.out _).mono ?_
    rintro e w9 ⟨rfl, hb⟩
    have X9 := Lib.hid (X8.out.later hb)
    have T9 := Lib.hid (T8.out.later hb)
    have B9 := Lib.hid (B8.out.trans (hb.mono B8.out.size))
    clear hb X8 T8 B8 c0 c1 c2 c3 c4 c5 gl
    have c := X9.out.cell
    have c0 := c 0
    have c1 := c 1
    have c2 := c 2
    have c3 := c 3
    have c4 := c 4
    have c5 := c 5
    have gl := X9.out.lt
    simp only [List.getElem?_toArray, List.getElem?_cons_zero, List.getElem?_cons_succ] at c0 c1 c2 c3 c4 c5
    clear c
    go_wp2_with fail
    refine (PB.out _ T9.out).mono ?_
    rintro e w10 ⟨rfl, hb⟩
    have X10 := Lib.hid (X9.out.later hb)
    have T10 := Lib.hid (T9.out.later hb)
    have B10 := Lib.hid (B9.out.trans (hb.mono B9.out.size))
    clear hb X9 T9 B9 c0 c1 c2 c3 c4 c5 gl
    have c := X10.out.cell
    have c0 := c 0
    have c1 := c 1
    have c2 := c 2
    have c3 := c 3
    have c4 := c 4
    have c5 := c 5
    have gl := X10.out.lt
    simp only [List.getElem?_toArray, List.getElem?_cons_zero, List.getElem?_cons_succ] at c0 c1 c2 c3 c4 c5
    clear c
    go_wp2_with fail
    refine (SE.out _).mono ?_
    rintro e w11 ⟨rfl, hb⟩
    have X11 := Lib.hid (X10.out.later hb)
    have T11 := Lib.hid (T10.out.later hb)
    have B11 := Lib.hid (B10.out.trans (hb.mono B10.out.size))
    clear hb X10 T10 B10 c0 c1 c2 c3 c4 c5 gl
    have c := X11.out.cell
    have c0 := c 0
    have c1 := c 1
    have c2 := c 2
    have c3 := c 3
    have c4 := c 4
    have c5 := c 5
    have gl := X11.out.lt
    simp only [List.getElem?_toArray, List.getElem?_cons_zero, List.getElem?_cons_succ] at c0 c1 c2 c3 c4 c5
    clear c
    go_wp2_with fail
    refine (RP.out _).mono ?_
    rintro e w12 ⟨rfl, hb⟩
    have X12 := Lib.hid (X11.out.later hb)
    have T12 := Lib.hid (T11.out.later hb)
    have B12 := Lib.hid (B11.out.trans (hb.mono B11.out.size))
    clear hb X11 T11 B11 c0 c1 c2 c3 c4 c5 gl
    have c := X12.out.cell
    have c0 := c 0
    have c1 := c 1
    have c2 := c 2
    have c3 := c 3
    have c4 := c 4
    have c5 := c 5
    have gl := X12.out.lt
    simp only [List.getElem?_toArray, List.getElem?_cons_zero, List.getElem?_cons_succ] at c0 c1 c2 c3 c4 c5
    clear c
    go_wp2_with fail
    refine (YA.out _).mono ?_
    rintro e wx ⟨rfl, hw⟩
    subst wx
    go_wp2_with fail
    refine (YR.out _).mono ?_
    rintro e wx ⟨rfl, hw⟩
    subst wx
    go_wp2_with fail
    refine (AW.out _ T12.out).mono ?_
    rintro e w13 ⟨rfl, hb⟩
    have BZ := Lib.hid (B12.out.trans (hb.mono B12.out.size))
    clear hb c0 c1 c2 c3 c4 c5 gl
    cases near with
    | true =>
      have h2 := NE.out rfl
      subst h2
      simp only [Option.getD_some, Option.isSome_some]
      go_wp2
      go_ret
      exact ⟨rfl, BZ.out⟩
    | false =>
      obtain ⟨v, hv⟩ : ∃ v, o2.getD 0 = v := ⟨_, rfl⟩
      obtain ⟨b, hb⟩ : ∃ b, o2.isSome = b := ⟨_, rfl⟩
      rw [hv, hb]
      cases b <;> (go_wp2; go_ret; exact ⟨rfl, BZ.out⟩)
end Go.Proofs.YtcbllfbhifimnaaDoor
