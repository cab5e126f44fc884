/- DiskBounds, walked. -/
import Derived.Test.YtmpemldddclceaaDkActs
namespace Go.Proofs.Ytmpemldddclceaa
open Go Go.RowKit Go.Maps
set_option linter.unusedVariables false
set_option linter.unusedSimpArgs false
set_option maxRecDepth 10000

theorem wfle {x : Int} (h : (Lit.int .i64 x).wf = true) : x ≤ 9223372036854775807 := by
  simp [Lit.wf, IntKind.min, IntKind.max, IntKind.signed, IntKind.bits] at h
  omega
set_option maxHeartbeats 8000000 in
theorem diskBounds_w (sq : Int) (a : Option Addr) (len cap b off : Nat) (w : World) (hsq : 0 ≤ sq) (hsq2 : sq ≤ 255) (hlen : len ≤ maxLen) (ha : 0 < len → a = some ⟨b, off, none⟩) (hacts : ∀ i, i < len → ∃ e : DAc, D4 w b (off + i * 4) e) :
    Calls Try.prog 6 #[.int .u8 sq, .slice a len cap] w fun e w' => e = .returned (.bool true) ∧ Below w.heap.size w w' := by
  unfold maxLen at hlen
  have HA := Lib.hid ha
  have HAC := Lib.hid hacts
  have AW := Lib.hid (fun W => d_awake W)
  clear ha hacts
  obtain ⟨B, hB⟩ : ∃ B, w.heap.size = B := ⟨_, rfl⟩
  have HB0 : Hid (B ≤ w.heap.size) := Lib.hid (Nat.le_of_eq hB.symm)
  have HBW : Hid (w.heap.size ≤ B) := Lib.hid (Nat.le_of_eq hB)
  have HBE : Hid (B = w.heap.size) := Lib.hid hB.symm
  obtain ⟨m0, hm0⟩ : ∃ m, sq % 18 = m := ⟨_, rfl⟩
  have hm1 : 0 ≤ m0 ∧ m0 ≤ 17 := by omega
  obtain ⟨hm2, hm3⟩ := hm1
  have hw0 : IntKind.u8.wrap m0 = m0 := by rw [IntKind.wrap_u8]; omega
  have hw1 : IntKind.i64.wrap m0 = m0 := IntWalk.i64_in _ (by omega)
  have NW := Lib.hid (dnew_at m0 w w.heap.size (Nat.le_refl _))
  rw [hB] at NW
  clear hB
  go_enter Try.func6, Try.ntmps6
  go_wp2_with fail
  refine NW.out.mono ?_
  rintro e w1 ⟨rfl, k1, b1⟩
  obtain ⟨M, hM⟩ : ∃ M, moI m0 = M := ⟨_, rfl⟩
  have hMM := hM
  rw [hM] at k1
  unfold moI at hMM
  have X0 : Hid (BdX w w1 B M [] 0 none [] none #[]) := Lib.hid ⟨_, none, 0, [], 0, 0, k1, b1, by show (0 : Int) ≤ M; omega, Nat.le_refl _, RdC.none _ _, fun g off e => (by cases e), fun g e => (by cases e)⟩
  clear k1 b1 NW hm0 hM
  by_cases hgt : 16 < m0
  · have d0 : decide (16 < m0) = true := decide_eq_true hgt
    obtain rfl : M = 16 := by omega
    clear hMM hw0 hw1
    go_wp2_with fail
    go_loopw [7] (fun vi wr => ∃ (i : Nat) (S : Sgs), i ≤ len ∧ i ≤ 60 ∧ vi = .int .i64 (i : Int) ∧ Hid (BdX w wr B 16 S i none [] none #[])) (fun vi _ => 60 - (vI vi).toNat)
    case atStart => exact ⟨0, [], by omega, by omega, rfl, X0⟩
    case round =>
      obtain ⟨i, S, hi, hi60, rfl, HX⟩ := hrel
      clear X0
      obtain ⟨wo, rfl⟩ : ∃ W, W = wr := ⟨_, rfl⟩
      by_cases hgo : i < len ∧ i < 60
      · obtain ⟨h1, h2'⟩ := hgo
        have d1 : decide ((i : Int) < (len : Int)) = true := decide_eq_true (by omega)
        have d2 : decide ((i : Int) < 60) = true := decide_eq_true (by omega)
        obtain ⟨x, hx⟩ := HAC.out i h1
        have haa := HA.out (by omega)
        subst haa
        have hbl : Below w.heap.size w wo := by have h9 := bd_bel HX.out; rw [HBE.out] at h9; exact h9
        have hx2 := hx.later hbl
        have m0' := hx2.c0
        have m1 := hx2.c1
        have m2 := hx2.c2
        have m3 := hx2.c3
        have HWN := Lib.hid hx.wn
        have HWM := Lib.hid hx.wm
        have HLZ := Lib.hid hx.lz
        have HRD := Lib.hid hx.rd
        clear hx hx2 hbl
        obtain ⟨xw, xn, xm, ba, bl, bc, bs⟩ := x
        dsimp only at m0' m1 m2 m3 HWN HWM HLZ HRD
        have hx0 : (0 : Int) ≤ (i : Int) := by omega
        have hx1 : (i : Int) < (len : Int) := by omega
        have BNA := Lib.hid (Box.new wo #[.int .i64 xw, .int .i64 xn, .int .i64 xm, .slice ba bl bc] 29)
        have HX2' := Lib.hid (bd_put HB0.out HX.out ((Below.refl wo.heap.size wo).alloc (Nat.le_refl _) (.cells #[.int .i64 xw, .int .i64 xn, .int .i64 xm, .slice ba bl bc] 29)) BNA.out)
        go_upto_region 9 with fail
        obtain ⟨wa, hwa⟩ : ∃ W, wo.alloc (.cells #[.int .i64 xw, .int .i64 xn, .int .i64 xm, .slice ba bl bc] 29) = W := ⟨_, rfl⟩
        obtain ⟨ab, hab⟩ : ∃ B, wo.heap.size = B := ⟨_, rfl⟩
        have HX2 : Hid (BdX w wa B 16 S i none [] (some ab) #[.int .i64 xw, .int .i64 xn, .int .i64 xm, .slice ba bl bc]) := Lib.hid (by have h9 := HX2'.out; rw [hwa, hab] at h9; exact h9)
        rw [hwa, hab]
        clear hwa hab BNA HX2' HX m0' m1 m2 m3
        have BXA := bd_box HX2.out
        have a3 := BXA.cell 3
        have la := BXA.lt
        clear BXA
        by_cases hbig : 2500 < bl
        · have d3 : decide ((2500 : Int) < (bl : Int)) = true := decide_eq_true (by omega)
          have NX := Lib.hid (bd_bare (cnt2 := i + 1) HX2.out (by omega))
          clear HX2
          go_wp2
          go_roundw
          case rel => exact ⟨i + 1, S, by omega, by omega, by go_num, NX⟩
          case measure => exact cra_ms 60 i h2'
        · have d3 : decide ((2500 : Int) < (bl : Int)) = false := decide_eq_false (by omega)
          obtain ⟨K, hK⟩ : ∃ n, S.length = n := ⟨_, rfl⟩
          obtain ⟨L, hL⟩ : ∃ n, (gD S xn).length = n := ⟨_, rfl⟩
          obtain ⟨E, hE⟩ : ∃ n, rdE S xn = n := ⟨_, rfl⟩
          have HK := Lib.hid hK
          have HL := Lib.hid hL
          have HE := Lib.hid hE
          have SG := Lib.hid (bd_segs HB0.out HX2.out hK)
          clear hK hL hE HX2
          go_wp2_with fail
          refine SG.out.mono ?_
          rintro e w3 ⟨sa, sc, rfl, X3⟩
          clear SG a3 la
          have BX3 := bd_box X3.out
          have a1 := BX3.cell 1
          have la := BX3.lt
          go_wp2_with fail
          refine (bd_read HB0.out X3.out xn HWN.out L HL.out E HE.out).mono ?_
          rintro e w5 ⟨xa, xc, rfl, _, X5⟩
          clear X3 BX3 a1 la
          have BXA := bd_box X5.out
          have a0 := BXA.cell 0
          have a1 := BXA.cell 1
          have a2 := BXA.cell 2
          have a3 := BXA.cell 3
          have la := BXA.lt
          clear BXA
          by_cases h3 : xw = 3
          · subst h3
            have e0 : ((3 : Int) == 0) = false := rfl
            have e2 : ((3 : Int) == 2) = false := rfl
            have e3 : ((3 : Int) == 3) = true := rfl
            have FA := Lib.hid (bd_fault HB0.out X5.out xn xm (wfle HWN.out) (wfle HWM.out))
            clear X5
            go_wp2_with fail
            refine FA.out.mono ?_
            rintro e w6 ⟨rfl, X6⟩
            have NX := Lib.hid (bd_bare (cnt2 := i + 1) X6.out (by omega))
            clear FA X6 a0 a1 a2 a3 la
            go_wp2
            go_roundw
            case rel => exact ⟨i + 1, S, by omega, by omega, by go_num, NX⟩
            case measure => exact cra_ms 60 i h2'
          · have e3 : (xw == 3) = false := by simpa using h3
            go_upto_block 2 with fail
            go_cut [12] (fun v wx => ∃ (er : Int) (S2 : Sgs), v = .int .i64 er ∧ Hid (er ≠ 0 → S2 = S) ∧ Hid (BdX w wx B 16 S2 (i + 1) xa (gD S xn) (some ab) #[.int .i64 xw, .int .i64 xn, .int .i64 xm, .slice ba bl bc]))
            case first =>
              by_cases h0 : xw = 0
              · subst h0
                have e0 : ((0 : Int) == 0) = true := rfl
                have OP := Lib.hid (bd_app (c := bc) HB0.out X5.out (by omega) xn HWN.out HLZ.out (by omega) HRD.out HBW.out)
                go_wp2_with fail
                refine OP.out.mono ?_
                rintro e w6 ⟨er, S2, rfl, hes, hx6⟩
                have X6 := Lib.hid hx6
                have HES := Lib.hid hes
                clear hx6 hes OP a0 a1 a2 a3 la
                go_wp2
                go_meet
                exact ⟨er, S2, rfl, HES, X6⟩
              · by_cases h2 : xw = 2
                · subst h2
                  have e0 : ((2 : Int) == 0) = false := rfl
                  have e2 : ((2 : Int) == 2) = true := rfl
                  have OP := Lib.hid (bd_drop HB0.out X5.out xn HWN.out)
                  go_wp2_with fail
                  refine OP.out.mono ?_
                  rintro e w6 ⟨er, S2, rfl, hes, hx6⟩
                  have X6 := Lib.hid hx6
                  have HES := Lib.hid hes
                  clear hx6 hes OP a0 a1 a2 a3 la
                  go_wp2
                  go_meet
                  exact ⟨er, S2, rfl, HES, X6⟩
                · have e0 : (xw == 0) = false := by simpa using h0
                  have e2 : (xw == 2) = false := by simpa using h2
                  have OP := Lib.hid (bd_sync HB0.out X5.out)
                  go_wp2_with fail
                  refine OP.out.mono ?_
                  rintro e w6 ⟨er, S2, rfl, hes, hx6⟩
                  have X6 := Lib.hid hx6
                  have HES := Lib.hid hes
                  clear hx6 hes OP a0 a1 a2 a3 la
                  go_wp2
                  go_meet
                  exact ⟨er, S2, rfl, HES, X6⟩
            case rest =>
              obtain ⟨er, S2, rfl, HES, X6⟩ := hcut
              obtain ⟨wk, hwk⟩ : ∃ W, wc = W := ⟨_, rfl⟩
              rw [hwk] at X6 ⊢
              clear hwk X5 a0 a1 a2 a3 la
              obtain ⟨K2, hK2⟩ : ∃ n, S2.length = n := ⟨_, rfl⟩
              obtain ⟨L2, hL2⟩ : ∃ n, (gD S2 xn).length = n := ⟨_, rfl⟩
              obtain ⟨E2, hE2⟩ : ∃ n, rdE S2 xn = n := ⟨_, rfl⟩
              have SG := Lib.hid (bd_segs HB0.out X6.out hK2)
              have HL2 := Lib.hid hL2
              have HE2 := Lib.hid hE2
              have HK2 := Lib.hid hK2
              have SB := bd_len X6.out
              rw [hK2] at SB
              have hs1 : (K2 : Int) ≤ (16 : Int) := SB.1
              have hs2 : L2 ≤ 2048 := by rw [← hL2]; exact SB.2 xn
              clear SB hL2 hE2 hK2
              go_wp2_with fail
              refine SG.out.mono ?_
              rintro e w7 ⟨sa2, sc2, rfl, X7⟩
              clear SG X6
              have BX7 := bd_box X7.out
              have a1 := BX7.cell 1
              have la := BX7.lt
              go_wp2_with fail
              refine (bd_read HB0.out X7.out xn HWN.out L2 HL2.out E2 HE2.out).mono ?_
              rintro e w8 ⟨ya, yc, rfl, X8, Y8⟩
              clear X7 BX7 a1 la
              have p1 : decide ((16 : Int) < (K2 : Int)) = false := decide_eq_false (by omega)
              have p2 : decide ((2048 : Int) < (L2 : Int)) = false := decide_eq_false (by omega)
              have NX := Lib.hid (bd_bare (cnt2 := i + 1) Y8.out (Nat.le_refl _))
              by_cases hz : er = 0
              · subst hz
                have q0 : ((0 : Int) != 0) = false := rfl
                clear X8 Y8 HES
                go_wp2
                go_roundw
                case rel => exact ⟨i + 1, S2, by omega, by omega, by go_num, NX⟩
                case measure => exact cra_ms 60 i h2'
              · have hSS := HES.out hz
                subst hSS
                have q0 : (er != 0) = true := by simpa using hz
                have hKK : K2 = K := by rw [← HK2.out, HK.out]
                have hEE : E2 = E := by rw [← HE2.out, HE.out]
                have t1 : (convert 27 9 (.slice xa L xc)).run Try.prog w8 = .ok (.string (strL (gD S2 xn))) w8 := bd_text X8.out HL.out
                have t2 : (convert 27 9 (.slice ya L2 yc)).run Try.prog w8 = .ok (.string (strL (gD S2 xn))) w8 := bd_text Y8.out HL2.out
                obtain ⟨ts, hts⟩ : ∃ t, strL (gD S2 xn) = t := ⟨_, rfl⟩
                rw [hts] at t1 t2
                subst hKK hEE
                have q1 : ((K2 : Int) != (K2 : Int)) = false := by simp
                have q2 : (E2 != E2) = false := by simp
                clear HES hts X8 Y8
                go_wp2
                go_roundw
                case rel => exact ⟨i + 1, S2, by omega, by omega, by go_num, NX⟩
                case measure => exact cra_ms 60 i h2'
      · have AWX := Lib.hid (bd_bel HX.out)
        have dd : (¬ i < len) ∨ (i < len ∧ ¬ i < 60) := by
          by_cases h1 : i < len
          · exact Or.inr ⟨h1, fun h => hgo ⟨h1, h⟩⟩
          · exact Or.inl h1
        clear HX HA HAC
        rcases dd with h1 | ⟨h1, h2⟩
        · have d1 : decide ((i : Int) < (len : Int)) = false := decide_eq_false (by omega)
          have d1n : decide (i < len) = false := decide_eq_false h1
          go_wp2_with fail
          refine (AW.out _).mono ?_
          rintro e w6 ⟨rfl, b6⟩
          have B6 : Hid (Below w.heap.size w w6) := Lib.hid (by have h9 := AWX.out.trans (b6.mono (Nat.le_trans HB0.out AWX.out.size)); rw [HBE.out] at h9; exact h9)
          clear b6
          go_wp2
          go_ret
          exact ⟨rfl, B6.out⟩
        · have d1 : decide ((i : Int) < (len : Int)) = true := decide_eq_true (by omega)
          have d2 : decide ((i : Int) < 60) = false := decide_eq_false (by omega)
          have d2n : decide (i < 60) = false := decide_eq_false h2
          go_wp2_with fail
          refine (AW.out _).mono ?_
          rintro e w6 ⟨rfl, b6⟩
          have B6 : Hid (Below w.heap.size w w6) := Lib.hid (by have h9 := AWX.out.trans (b6.mono (Nat.le_trans HB0.out AWX.out.size)); rw [HBE.out] at h9; exact h9)
          clear b6
          go_wp2
          go_ret
          exact ⟨rfl, B6.out⟩
  · have d0 : decide (16 < m0) = false := decide_eq_false hgt
    obtain rfl : M = m0 := by omega
    clear hMM hw0 hw1
    go_wp2_with fail
    go_loopw [7] (fun vi wr => ∃ (i : Nat) (S : Sgs), i ≤ len ∧ i ≤ 60 ∧ vi = .int .i64 (i : Int) ∧ Hid (BdX w wr B M S i none [] none #[])) (fun vi _ => 60 - (vI vi).toNat)
    case atStart => exact ⟨0, [], by omega, by omega, rfl, X0⟩
    case round =>
      obtain ⟨i, S, hi, hi60, rfl, HX⟩ := hrel
      clear X0
      obtain ⟨wo, rfl⟩ : ∃ W, W = wr := ⟨_, rfl⟩
      by_cases hgo : i < len ∧ i < 60
      · obtain ⟨h1, h2'⟩ := hgo
        have d1 : decide ((i : Int) < (len : Int)) = true := decide_eq_true (by omega)
        have d2 : decide ((i : Int) < 60) = true := decide_eq_true (by omega)
        obtain ⟨x, hx⟩ := HAC.out i h1
        have haa := HA.out (by omega)
        subst haa
        have hbl : Below w.heap.size w wo := by have h9 := bd_bel HX.out; rw [HBE.out] at h9; exact h9
        have hx2 := hx.later hbl
        have m0' := hx2.c0
        have m1 := hx2.c1
        have m2 := hx2.c2
        have m3 := hx2.c3
        have HWN := Lib.hid hx.wn
        have HWM := Lib.hid hx.wm
        have HLZ := Lib.hid hx.lz
        have HRD := Lib.hid hx.rd
        clear hx hx2 hbl
        obtain ⟨xw, xn, xm, ba, bl, bc, bs⟩ := x
        dsimp only at m0' m1 m2 m3 HWN HWM HLZ HRD
        have hx0 : (0 : Int) ≤ (i : Int) := by omega
        have hx1 : (i : Int) < (len : Int) := by omega
        have BNA := Lib.hid (Box.new wo #[.int .i64 xw, .int .i64 xn, .int .i64 xm, .slice ba bl bc] 29)
        have HX2' := Lib.hid (bd_put HB0.out HX.out ((Below.refl wo.heap.size wo).alloc (Nat.le_refl _) (.cells #[.int .i64 xw, .int .i64 xn, .int .i64 xm, .slice ba bl bc] 29)) BNA.out)
        go_upto_region 9 with fail
        obtain ⟨wa, hwa⟩ : ∃ W, wo.alloc (.cells #[.int .i64 xw, .int .i64 xn, .int .i64 xm, .slice ba bl bc] 29) = W := ⟨_, rfl⟩
        obtain ⟨ab, hab⟩ : ∃ B, wo.heap.size = B := ⟨_, rfl⟩
        have HX2 : Hid (BdX w wa B M S i none [] (some ab) #[.int .i64 xw, .int .i64 xn, .int .i64 xm, .slice ba bl bc]) := Lib.hid (by have h9 := HX2'.out; rw [hwa, hab] at h9; exact h9)
        rw [hwa, hab]
        clear hwa hab BNA HX2' HX m0' m1 m2 m3
        have BXA := bd_box HX2.out
        have a3 := BXA.cell 3
        have la := BXA.lt
        clear BXA
        by_cases hbig : 2500 < bl
        · have d3 : decide ((2500 : Int) < (bl : Int)) = true := decide_eq_true (by omega)
          have NX := Lib.hid (bd_bare (cnt2 := i + 1) HX2.out (by omega))
          clear HX2
          go_wp2
          go_roundw
          case rel => exact ⟨i + 1, S, by omega, by omega, by go_num, NX⟩
          case measure => exact cra_ms 60 i h2'
        · have d3 : decide ((2500 : Int) < (bl : Int)) = false := decide_eq_false (by omega)
          obtain ⟨K, hK⟩ : ∃ n, S.length = n := ⟨_, rfl⟩
          obtain ⟨L, hL⟩ : ∃ n, (gD S xn).length = n := ⟨_, rfl⟩
          obtain ⟨E, hE⟩ : ∃ n, rdE S xn = n := ⟨_, rfl⟩
          have HK := Lib.hid hK
          have HL := Lib.hid hL
          have HE := Lib.hid hE
          have SG := Lib.hid (bd_segs HB0.out HX2.out hK)
          clear hK hL hE HX2
          go_wp2_with fail
          refine SG.out.mono ?_
          rintro e w3 ⟨sa, sc, rfl, X3⟩
          clear SG a3 la
          have BX3 := bd_box X3.out
          have a1 := BX3.cell 1
          have la := BX3.lt
          go_wp2_with fail
          refine (bd_read HB0.out X3.out xn HWN.out L HL.out E HE.out).mono ?_
          rintro e w5 ⟨xa, xc, rfl, _, X5⟩
          clear X3 BX3 a1 la
          have BXA := bd_box X5.out
          have a0 := BXA.cell 0
          have a1 := BXA.cell 1
          have a2 := BXA.cell 2
          have a3 := BXA.cell 3
          have la := BXA.lt
          clear BXA
          by_cases h3 : xw = 3
          · subst h3
            have e0 : ((3 : Int) == 0) = false := rfl
            have e2 : ((3 : Int) == 2) = false := rfl
            have e3 : ((3 : Int) == 3) = true := rfl
            have FA := Lib.hid (bd_fault HB0.out X5.out xn xm (wfle HWN.out) (wfle HWM.out))
            clear X5
            go_wp2_with fail
            refine FA.out.mono ?_
            rintro e w6 ⟨rfl, X6⟩
            have NX := Lib.hid (bd_bare (cnt2 := i + 1) X6.out (by omega))
            clear FA X6 a0 a1 a2 a3 la
            go_wp2
            go_roundw
            case rel => exact ⟨i + 1, S, by omega, by omega, by go_num, NX⟩
            case measure => exact cra_ms 60 i h2'
          · have e3 : (xw == 3) = false := by simpa using h3
            go_upto_block 2 with fail
            go_cut [12] (fun v wx => ∃ (er : Int) (S2 : Sgs), v = .int .i64 er ∧ Hid (er ≠ 0 → S2 = S) ∧ Hid (BdX w wx B M S2 (i + 1) xa (gD S xn) (some ab) #[.int .i64 xw, .int .i64 xn, .int .i64 xm, .slice ba bl bc]))
            case first =>
              by_cases h0 : xw = 0
              · subst h0
                have e0 : ((0 : Int) == 0) = true := rfl
                have OP := Lib.hid (bd_app (c := bc) HB0.out X5.out (by omega) xn HWN.out HLZ.out (by omega) HRD.out HBW.out)
                go_wp2_with fail
                refine OP.out.mono ?_
                rintro e w6 ⟨er, S2, rfl, hes, hx6⟩
                have X6 := Lib.hid hx6
                have HES := Lib.hid hes
                clear hx6 hes OP a0 a1 a2 a3 la
                go_wp2
                go_meet
                exact ⟨er, S2, rfl, HES, X6⟩
              · by_cases h2 : xw = 2
                · subst h2
                  have e0 : ((2 : Int) == 0) = false := rfl
                  have e2 : ((2 : Int) == 2) = true := rfl
                  have OP := Lib.hid (bd_drop HB0.out X5.out xn HWN.out)
                  go_wp2_with fail
                  refine OP.out.mono ?_
                  rintro e w6 ⟨er, S2, rfl, hes, hx6⟩
                  have X6 := Lib.hid hx6
                  have HES := Lib.hid hes
                  clear hx6 hes OP a0 a1 a2 a3 la
                  go_wp2
                  go_meet
                  exact ⟨er, S2, rfl, HES, X6⟩
                · have e0 : (xw == 0) = false := by simpa using h0
                  have e2 : (xw == 2) = false := by simpa using h2
                  have OP := Lib.hid (bd_sync HB0.out X5.out)
                  go_wp2_with fail
                  refine OP.out.mono ?_
                  rintro e w6 ⟨er, S2, rfl, hes, hx6⟩
                  have X6 := Lib.hid hx6
                  have HES := Lib.hid hes
                  clear hx6 hes OP a0 a1 a2 a3 la
                  go_wp2
                  go_meet
                  exact ⟨er, S2, rfl, HES, X6⟩
            case rest =>
              obtain ⟨er, S2, rfl, HES, X6⟩ := hcut
              obtain ⟨wk, hwk⟩ : ∃ W, wc = W := ⟨_, rfl⟩
              rw [hwk] at X6 ⊢
              clear hwk X5 a0 a1 a2 a3 la
              obtain ⟨K2, hK2⟩ : ∃ n, S2.length = n := ⟨_, rfl⟩
              obtain ⟨L2, hL2⟩ : ∃ n, (gD S2 xn).length = n := ⟨_, rfl⟩
              obtain ⟨E2, hE2⟩ : ∃ n, rdE S2 xn = n := ⟨_, rfl⟩
              have SG := Lib.hid (bd_segs HB0.out X6.out hK2)
              have HL2 := Lib.hid hL2
              have HE2 := Lib.hid hE2
              have HK2 := Lib.hid hK2
              have SB := bd_len X6.out
              rw [hK2] at SB
              have hs1 : (K2 : Int) ≤ M := SB.1
              have hs2 : L2 ≤ 2048 := by rw [← hL2]; exact SB.2 xn
              clear SB hL2 hE2 hK2
              go_wp2_with fail
              refine SG.out.mono ?_
              rintro e w7 ⟨sa2, sc2, rfl, X7⟩
              clear SG X6
              have BX7 := bd_box X7.out
              have a1 := BX7.cell 1
              have la := BX7.lt
              go_wp2_with fail
              refine (bd_read HB0.out X7.out xn HWN.out L2 HL2.out E2 HE2.out).mono ?_
              rintro e w8 ⟨ya, yc, rfl, X8, Y8⟩
              clear X7 BX7 a1 la
              have p1 : decide (M < (K2 : Int)) = false := decide_eq_false (by omega)
              have p2 : decide ((2048 : Int) < (L2 : Int)) = false := decide_eq_false (by omega)
              have NX := Lib.hid (bd_bare (cnt2 := i + 1) Y8.out (Nat.le_refl _))
              by_cases hz : er = 0
              · subst hz
                have q0 : ((0 : Int) != 0) = false := rfl
                clear X8 Y8 HES
                go_wp2
                go_roundw
                case rel => exact ⟨i + 1, S2, by omega, by omega, by go_num, NX⟩
                case measure => exact cra_ms 60 i h2'
              · have hSS := HES.out hz
                subst hSS
                have q0 : (er != 0) = true := by simpa using hz
                have hKK : K2 = K := by rw [← HK2.out, HK.out]
                have hEE : E2 = E := by rw [← HE2.out, HE.out]
                have t1 : (convert 27 9 (.slice xa L xc)).run Try.prog w8 = .ok (.string (strL (gD S2 xn))) w8 := bd_text X8.out HL.out
                have t2 : (convert 27 9 (.slice ya L2 yc)).run Try.prog w8 = .ok (.string (strL (gD S2 xn))) w8 := bd_text Y8.out HL2.out
                obtain ⟨ts, hts⟩ : ∃ t, strL (gD S2 xn) = t := ⟨_, rfl⟩
                rw [hts] at t1 t2
                subst hKK hEE
                have q1 : ((K2 : Int) != (K2 : Int)) = false := by simp
                have q2 : (E2 != E2) = false := by simp
                clear HES hts X8 Y8
                go_wp2
                go_roundw
                case rel => exact ⟨i + 1, S2, by omega, by omega, by go_num, NX⟩
                case measure => exact cra_ms 60 i h2'
      · have AWX := Lib.hid (bd_bel HX.out)
        have dd : (¬ i < len) ∨ (i < len ∧ ¬ i < 60) := by
          by_cases h1 : i < len
          · exact Or.inr ⟨h1, fun h => hgo ⟨h1, h⟩⟩
          · exact Or.inl h1
        clear HX HA HAC
        rcases dd with h1 | ⟨h1, h2⟩
        · have d1 : decide ((i : Int) < (len : Int)) = false := decide_eq_false (by omega)
          have d1n : decide (i < len) = false := decide_eq_false h1
          go_wp2_with fail
          refine (AW.out _).mono ?_
          rintro e w6 ⟨rfl, b6⟩
          have B6 : Hid (Below w.heap.size w w6) := Lib.hid (by have h9 := AWX.out.trans (b6.mono (Nat.le_trans HB0.out AWX.out.size)); rw [HBE.out] at h9; exact h9)
          clear b6
          go_wp2
          go_ret
          exact ⟨rfl, B6.out⟩
        · have d1 : decide ((i : Int) < (len : Int)) = true := decide_eq_true (by omega)
          have d2 : decide ((i : Int) < 60) = false := decide_eq_false (by omega)
          have d2n : decide (i < 60) = false := decide_eq_false h2
          go_wp2_with fail
          refine (AW.out _).mono ?_
          rintro e w6 ⟨rfl, b6⟩
          have B6 : Hid (Below w.heap.size w w6) := Lib.hid (by have h9 := AWX.out.trans (b6.mono (Nat.le_trans HB0.out AWX.out.size)); rw [HBE.out] at h9; exact h9)
          clear b6
          go_wp2
          go_ret
          exact ⟨rfl, B6.out⟩
theorem diskBounds_walk (sq : Int) (x : Option Addr × Nat × Nat) (w : World) (w1 : (Lit.int .u8 sq).wf = true) (hx : IsDActs w x) :
    Calls Try.prog 6 #[.int .u8 sq, .slice x.1 x.2.1 x.2.2] w fun e w' => e = .returned (.bool true) ∧ Below w.heap.size w w' := by
  obtain ⟨b, off, h1, h2, h3⟩ := hx
  simp [Lit.wf, IntKind.min, IntKind.max, IntKind.signed, IntKind.bits] at w1
  exact diskBounds_w sq x.1 x.2.1 x.2.2 b off w (by omega) (by omega) h2 h1 h3
end Go.Proofs.Ytmpemldddclceaa
