/- DiskPlays, walked. -/
import Derived.Test.YtomeipjglnpciaaDkPl
import Derived.Test.YtomeipjglnpciaaDkAwk
import Derived.Test.YtomeipjglnpciaaLast
namespace Go.Proofs.Ytomeipjglnpciaa
open Go Go.RowKit Go.Maps
set_option linter.unusedVariables false
set_option linter.unusedSimpArgs false
set_option maxRecDepth 10000

theorem wfle2 {x : Int} (h : (Lit.int .i64 x).wf = true) : x ≤ 9223372036854775807 := by
  simp [Lit.wf, IntKind.min, IntKind.max, IntKind.signed, IntKind.bits] at h
  omega
theorem wfge2 {x : Int} (h : (Lit.int .i64 x).wf = true) : -9223372036854775808 ≤ x := by
  simp [Lit.wf, IntKind.min, IntKind.max, IntKind.signed, IntKind.bits] at h
  omega
theorem mo_eq (x : Int) : moR x = moI x := by unfold moR moI; split <;> (try split) <;> omega
theorem pl_zero {w w1 w2 : World} {B D2 : Nat} {M : Int} (k1 : Dm w1 B (B + 1) B [] (fun _ => (none, 0)) none 0 [] M 0 0) (b1 : Below B w w1) (hD : w1.heap.size = D2) (r1 : Rm w2 B D2 none 0 [] (fun _ => (none, 0)) M 0 0 0) (b2 : Below w1.heap.size w1 w2) : PlS w w2 B D2 M [] [] 0 none #[] :=
  ⟨_, none, 0, [], 0, 0, none, 0, _, 0, ⟨k1.later b2, r1, (fun k hk hr => by
    have h1 := (k1.mine hk).1
    rcases hr with h2 | h2 | ⟨n, bs, h2, _⟩
    · omega
    · cases h2
    · cases h2), b1.trans (b2.mono (by have := (k1.mine (Or.inl rfl)).1; omega)), fun g e => (by cases e)⟩, Rel.zero, Nat.le_refl _, by omega, by simp⟩
set_option maxHeartbeats 8000000 in
theorem diskPlays_w (sg : Int) (a : Option Addr) (len cap b off : Nat) (w : World) (hlen : len ≤ maxLen) (ha : 0 < len → a = some ⟨b, off, none⟩) (hacts : ∀ i, i < len → ∃ e : DAc, D4 w b (off + i * 4) e) :
    Calls Try.prog 3 #[.int .i64 sg, .slice a len cap] w fun e w' => e = .returned (.bool true) ∧ Below w.heap.size w w' := by
  unfold maxLen at hlen
  have HA := Lib.hid ha
  have HAC := Lib.hid hacts
  have AW := Lib.hid (fun W => d_awake W)
  clear ha hacts
  obtain ⟨B, hB⟩ : ∃ B, w.heap.size = B := ⟨_, rfl⟩
  have HB0 : Hid (B ≤ w.heap.size) := Lib.hid (Nat.le_of_eq hB.symm)
  have HBW : Hid (w.heap.size ≤ B) := Lib.hid (Nat.le_of_eq hB)
  have HBE : Hid (B = w.heap.size) := Lib.hid hB.symm
  have NW := Lib.hid (dnew_at sg w w.heap.size (Nat.le_refl _))
  rw [hB] at NW
  clear hB
  go_enter Try.func3, Try.ntmps3
  go_wp2_with fail
  refine NW.out.mono ?_
  rintro e w1 ⟨rfl, k1, b1⟩
  obtain ⟨M, hM⟩ : ∃ M, moI sg = M := ⟨_, rfl⟩
  rw [hM] at k1
  have RN := Lib.hid (rnew_at sg w1 B (by have := (k1.mine (Or.inl rfl)).1; omega))
  obtain ⟨D2, hD2⟩ : ∃ D, w1.heap.size = D := ⟨_, rfl⟩
  rw [mo_eq, hM] at RN
  rw [hD2] at RN
  have HD2 := Lib.hid hD2
  have K1 := Lib.hid k1
  have B1 := Lib.hid b1
  clear k1 b1 NW hM hD2
  go_wp2_with fail
  refine RN.out.mono ?_
  rintro e w2 ⟨rfl, r1, b2⟩
  have X0 : Hid (PlS w w2 B D2 M [] [] 0 none #[]) := Lib.hid (pl_zero K1.out B1.out HD2.out r1 (by rw [HD2.out]; exact b2))
  clear K1 B1 HD2 r1 b2 RN
  go_wp2_with fail
  go_loopw [7] (fun vi wr => ∃ (i : Nat) (S : Sgs) (R : Rgs), i ≤ len ∧ i ≤ 60 ∧ vi = .int .i64 (i : Int) ∧ Hid (PlS w wr B D2 M S R i none #[])) (fun vi _ => 60 - (vI vi).toNat)
  case atStart => exact ⟨0, [], [], by omega, by omega, rfl, X0⟩
  case round =>
    obtain ⟨i, S, R, hi, hi60, rfl, HX⟩ := hrel
    clear X0
    obtain ⟨wo, rfl⟩ : ∃ W, W = wr := ⟨_, rfl⟩
    by_cases hgo : i < len ∧ i < 60
    · obtain ⟨h1, h2'⟩ := hgo
      have d1 : decide ((i : Int) < (len : Int)) = true := decide_eq_true (by omega)
      have d2 : decide ((i : Int) < 60) = true := decide_eq_true (by omega)
      obtain ⟨x, hx⟩ := HAC.out i h1
      have haa := HA.out (by omega)
      subst haa
      have hbl : Below w.heap.size w wo := by have h9 := pl_bel HX.out; rw [HBE.out] at h9; exact h9
      have hx2 := hx.later hbl
      have m0' := hx2.c0
      have m1 := hx2.c1
      have m2 := hx2.c2
      have m3 := hx2.c3
      have HWN := Lib.hid hx.wn
      have HWM := Lib.hid hx.wm
      have HLZ := Lib.hid hx.lz
      have HRD := Lib.hid hx.rd
      clear hx hx2 hbl
      obtain ⟨xw, xn, xm, ba, bl, bc, bs⟩ := x
      dsimp only at m0' m1 m2 m3 HWN HWM HLZ HRD
      have hx0 : (0 : Int) ≤ (i : Int) := by omega
      have hx1 : (i : Int) < (len : Int) := by omega
      have BNA := Lib.hid (Box.new wo #[.int .i64 xw, .int .i64 xn, .int .i64 xm, .slice ba bl bc] 29)
      have HX2' := Lib.hid (pl_put HB0.out HX.out ((Below.refl wo.heap.size wo).alloc (Nat.le_refl _) (.cells #[.int .i64 xw, .int .i64 xn, .int .i64 xm, .slice ba bl bc] 29)) BNA.out)
      go_upto_region 6 with fail
      obtain ⟨wa, hwa⟩ : ∃ W, wo.alloc (.cells #[.int .i64 xw, .int .i64 xn, .int .i64 xm, .slice ba bl bc] 29) = W := ⟨_, rfl⟩
      obtain ⟨ab, hab⟩ : ∃ B, wo.heap.size = B := ⟨_, rfl⟩
      have X2 : Hid (PlS w wa B D2 M S R i (some ab) #[.int .i64 xw, .int .i64 xn, .int .i64 xm, .slice ba bl bc]) := Lib.hid (by have h9 := HX2'.out; rw [hwa, hab] at h9; exact h9)
      rw [hwa, hab]
      clear hwa hab BNA HX2' HX m0' m1 m2 m3
      have BXA := pl_box X2.out
      have a0 := BXA.cell 0
      have a1 := BXA.cell 1
      have a2 := BXA.cell 2
      have a3 := BXA.cell 3
      have la := BXA.lt
      by_cases hbig : 2500 < bl
      · have d3 : decide ((2500 : Int) < (bl : Int)) = true := decide_eq_true (by omega)
        have NX := Lib.hid (pl_bare (pl_cnt X2.out (show i ≤ i + 1 by omega)))
        clear X2
        go_wp2
        go_roundw
        case rel => exact ⟨i + 1, S, R, by omega, by omega, by go_num, NX⟩
        case measure => exact cra_ms 60 i h2'
      · have d3 : decide ((2500 : Int) < (bl : Int)) = false := decide_eq_false (by omega)
        go_upto_block 2 with fail
        go_cut [9, 10] (fun v u wx => ∃ (er : Int) (S2 : Sgs) (R2 : Rgs), v = .int .i64 er ∧ u = .int .i64 er ∧ Hid (PlS w wx B D2 M S2 R2 (i + 1) (some ab) #[.int .i64 xw, .int .i64 xn, .int .i64 xm, .slice ba bl bc]))
        case first =>
          by_cases h0 : xw = 0
          · subst h0
            have e0 : ((0 : Int) == 0) = true := rfl
            have OPA := Lib.hid (fun W hW => pl_app (wr := W) (c := bc) HB0.out (pl_later HB0.out X2.out hW) (by omega) xn HWN.out HLZ.out (by omega) HRD.out HBW.out)
            go_upto_region 12 with fail
            refine wp_region_last 13 (fun w' => Box w' ab #[.int .i64 (0 : Int), .int .i64 xn, .int .i64 xm, .slice ba bl bc] 29) (by kernel_rfl) (BXA.drew) (fun hHeld hClosed => ?_)
            have OP := Lib.hid (OPA.out _ (Below.refl _ _).drew)
            clear OPA X2 a0 a1 a2 a3 la BXA
            refine wpAnyL_take (i := 0) (v := ?_) rfl (by kernel_rfl) (by kernel_rfl) (by kernel_rfl) (by kernel_rfl) (fun _ _ _ h => h) (by kernel_rfl) hClosed (Or.inl ⟨by rfl, ?_⟩) hHeld (fun hClosed => ?_)
            rotate_left
            · intro wv hSw; go_simp; all_goals (with_reducible rfl)
            (try simp only [List.getElem_toArray, List.getElem_cons_zero, put_at, List.set])
            refine wpAnyL_take (i := 1) (v := ?_) rfl (by kernel_rfl) (by kernel_rfl) (by kernel_rfl) (by kernel_rfl) (fun _ _ _ h => h) (by kernel_rfl) hClosed (Or.inl ⟨by rfl, ?_⟩) hHeld (fun hClosed => ?_)
            rotate_left
            · intro wv hSw; go_simp; all_goals (with_reducible rfl)
            (try simp only [List.getElem_toArray, List.getElem_cons_succ, List.getElem_cons_zero, put_at, List.set])
            refine wpAnyL_take (i := 2) (v := ?_) rfl (by kernel_rfl) (by kernel_rfl) (by kernel_rfl) (by kernel_rfl) (fun _ _ _ h => h) (by kernel_rfl) hClosed (Or.inl ⟨by rfl, ?_⟩) hHeld (fun hClosed => ?_)
            rotate_left
            · intro wv hSw; have b0 := hSw.cell 0; have b1 := hSw.cell 1; have b2 := hSw.cell 2; have b3 := hSw.cell 3; go_simp; all_goals (with_reducible rfl)
            (try simp only [List.getElem_toArray, List.getElem_cons_succ, List.getElem_cons_zero, put_at, List.set])
            refine wpAnyL_take (i := 3) (v := ?_) rfl (by kernel_rfl) (by kernel_rfl) (by kernel_rfl) (by kernel_rfl) (fun _ _ _ h => h) (by kernel_rfl) hClosed (Or.inl ⟨by rfl, ?_⟩) hHeld (fun hClosed => ?_)
            rotate_left
            · intro wv hSw; go_simp; all_goals (with_reducible rfl)
            (try simp only [List.getElem_toArray, List.getElem_cons_succ, List.getElem_cons_zero, put_at, List.set])
            refine wpAnyL_take (i := 4) (v := ?_) rfl (by kernel_rfl) (by kernel_rfl) (by kernel_rfl) (by kernel_rfl) (fun _ _ _ h => h) (by kernel_rfl) hClosed (Or.inl ⟨by rfl, ?_⟩) hHeld (fun hClosed => ?_)
            rotate_left
            · intro wv hSw; have b0 := hSw.cell 0; have b1 := hSw.cell 1; have b2 := hSw.cell 2; have b3 := hSw.cell 3; go_simp; all_goals (with_reducible rfl)
            (try simp only [List.getElem_toArray, List.getElem_cons_succ, List.getElem_cons_zero, put_at, List.set])
            refine wpAnyL_take (i := 6) (v := ?_) rfl (by kernel_rfl) (by kernel_rfl) (by kernel_rfl) (by kernel_rfl) (fun _ _ _ h => h) (by kernel_rfl) hClosed (Or.inl ⟨by rfl, ?_⟩) hHeld (fun hClosed => ?_)
            rotate_left
            · intro wv hSw; go_simp; all_goals (with_reducible rfl)
            (try simp only [List.getElem_toArray, List.getElem_cons_succ, List.getElem_cons_zero, put_at, List.set])
            refine wpAnyL_take (i := 7) (v := ?_) rfl (by kernel_rfl) (by kernel_rfl) (by kernel_rfl) (by kernel_rfl) (fun _ _ _ h => h) (by kernel_rfl) hClosed (Or.inl ⟨by rfl, ?_⟩) hHeld (fun hClosed => ?_)
            rotate_left
            · intro wv hSw; go_simp; all_goals (with_reducible rfl)
            (try simp only [List.getElem_toArray, List.getElem_cons_succ, List.getElem_cons_zero, put_at, List.set])
            refine wpAnyL_take (i := 8) (v := ?_) rfl (by kernel_rfl) (by kernel_rfl) (by kernel_rfl) (by kernel_rfl) (fun _ _ _ h => h) (by kernel_rfl) hClosed (Or.inl ⟨by rfl, ?_⟩) hHeld (fun hClosed => ?_)
            rotate_left
            · intro wv hSw; have b0 := hSw.cell 0; have b1 := hSw.cell 1; have b2 := hSw.cell 2; have b3 := hSw.cell 3; go_simp; all_goals (with_reducible rfl)
            (try simp only [List.getElem_toArray, List.getElem_cons_succ, List.getElem_cons_zero, put_at, List.set])
            refine wpAnyL_take (i := 9) (v := ?_) rfl (by kernel_rfl) (by kernel_rfl) (by kernel_rfl) (by kernel_rfl) (fun _ _ _ h => h) (by kernel_rfl) hClosed (Or.inl ⟨by rfl, ?_⟩) hHeld (fun hClosed => ?_)
            rotate_left
            · intro wv hSw; go_simp; all_goals (with_reducible rfl)
            (try simp only [List.getElem_toArray, List.getElem_cons_succ, List.getElem_cons_zero, put_at, List.set])
            refine wpAnyL_take (i := 10) (v := ?_) rfl (by kernel_rfl) (by kernel_rfl) (by kernel_rfl) (by kernel_rfl) (fun _ _ _ h => h) (by kernel_rfl) hClosed (Or.inl ⟨by rfl, ?_⟩) hHeld (fun hClosed => ?_)
            rotate_left
            · intro wv hSw; have b0 := hSw.cell 0; have b1 := hSw.cell 1; have b2 := hSw.cell 2; have b3 := hSw.cell 3; go_simp; all_goals (with_reducible rfl)
            (try simp only [List.getElem_toArray, List.getElem_cons_succ, List.getElem_cons_zero, put_at, List.set])
            refine wpAnyL_one (i := 5) rfl (by kernel_rfl) (by kernel_rfl) hClosed (fun KK hK => ?_)
            go_simp
            refine OP.out.mono ?_
            rintro e w5 ⟨er, rfl, hbx, HC⟩
            have BX5 := (hbx _ rfl).out
            clear hbx OP
            go_wp2_with fail
            refine hK.out _ _ ?_ (fun hClosed hHeld => ?_)
            · exact BX5
            clear hK KK
            (first | simp only [List.getElem_toArray, List.getElem_cons_succ, List.getElem_cons_zero, put_at, List.set] | (try simp only [put_at, List.set]))
            refine wpAnyL_one (i := 11) rfl (by kernel_rfl) (by kernel_rfl) hClosed (fun KK hK => ?_)
            go_simp
            refine HC.out.mono ?_
            rintro e w6 ⟨rfl, S2, R2, X6⟩
            clear HC
            have BX6 := pl_box X6.out
            go_wp2_with fail
            refine hK.out _ _ ?_ (fun hClosed hHeld => ?_)
            · exact BX6
            clear hK KK
            (first | simp only [List.getElem_toArray, List.getElem_cons_succ, List.getElem_cons_zero, put_at, List.set] | (try simp only [put_at, List.set]))
            refine wpAnyL_take (i := 12) (v := ?_) rfl (by kernel_rfl) (by kernel_rfl) (by kernel_rfl) (by kernel_rfl) (fun _ _ _ h => h) (by kernel_rfl) hClosed (Or.inl ⟨by rfl, ?_⟩) hHeld (fun hClosed => ?_)
            rotate_left
            · intro wv hSw; go_simp; all_goals (with_reducible rfl)
            (try simp only [List.getElem_toArray, List.getElem_cons_succ, List.getElem_cons_zero, put_at, List.set])
            refine wpAnyL_last rfl (by kernel_rfl) (by kernel_rfl) (fun KK hK => ?_)
            go_simp
            refine hK.out _ _ ?_
            (try simp only [put_at, List.set])
            go_wp2_with fail
            go_meet
            exact ⟨er, S2, R2, rfl, rfl, X6⟩
          · by_cases h1 : xw = 1
            · subst h1
              have e0 : ((1 : Int) == 0) = false := rfl
              have e1 : ((1 : Int) == 1) = true := rfl
              have OPA := Lib.hid (fun W hW => pl_sync (wr := W) HB0.out (pl_later HB0.out X2.out hW))
              have OP := Lib.hid (OPA.out _ (Below.refl _ _))
              clear OPA X2
              go_wp2_with fail
              refine OP.out.mono ?_
              rintro e w5 ⟨er, rfl, hbx, HC⟩
              clear hbx OP a0 a1 a2 a3 la
              go_wp2_with fail
              refine HC.out.mono ?_
              rintro e w6 ⟨rfl, S2, R2, X6⟩
              clear HC
              go_wp2
              go_meet
              exact ⟨er, S2, R2, rfl, rfl, X6⟩
            · by_cases h2 : xw = 2
              · subst h2
                have e0 : ((2 : Int) == 0) = false := rfl
                have e1 : ((2 : Int) == 1) = false := rfl
                have e2 : ((2 : Int) == 2) = true := rfl
                have OPA := Lib.hid (fun W hW => pl_drop (wr := W) HB0.out (pl_later HB0.out X2.out hW) xn HWN.out)
                go_upto_region 16 with fail
                refine wp_region_last 9 (fun w' => Box w' ab #[.int .i64 (2 : Int), .int .i64 xn, .int .i64 xm, .slice ba bl bc] 29) (by kernel_rfl) (BXA.drew) (fun hHeld hClosed => ?_)
                have OP := Lib.hid (OPA.out _ (Below.refl _ _).drew)
                clear OPA X2 a0 a1 a2 a3 la BXA
                refine wpAnyL_take (i := 0) (v := ?_) rfl (by kernel_rfl) (by kernel_rfl) (by kernel_rfl) (by kernel_rfl) (fun _ _ _ h => h) (by kernel_rfl) hClosed (Or.inl ⟨by rfl, ?_⟩) hHeld (fun hClosed => ?_)
                rotate_left
                · intro wv hSw; go_simp; all_goals (with_reducible rfl)
                (try simp only [List.getElem_toArray, List.getElem_cons_zero, put_at, List.set])
                refine wpAnyL_take (i := 1) (v := ?_) rfl (by kernel_rfl) (by kernel_rfl) (by kernel_rfl) (by kernel_rfl) (fun _ _ _ h => h) (by kernel_rfl) hClosed (Or.inl ⟨by rfl, ?_⟩) hHeld (fun hClosed => ?_)
                rotate_left
                · intro wv hSw; go_simp; all_goals (with_reducible rfl)
                (try simp only [List.getElem_toArray, List.getElem_cons_succ, List.getElem_cons_zero, put_at, List.set])
                refine wpAnyL_take (i := 2) (v := ?_) rfl (by kernel_rfl) (by kernel_rfl) (by kernel_rfl) (by kernel_rfl) (fun _ _ _ h => h) (by kernel_rfl) hClosed (Or.inl ⟨by rfl, ?_⟩) hHeld (fun hClosed => ?_)
                rotate_left
                · intro wv hSw; have b0 := hSw.cell 0; have b1 := hSw.cell 1; have b2 := hSw.cell 2; have b3 := hSw.cell 3; go_simp; all_goals (with_reducible rfl)
                (try simp only [List.getElem_toArray, List.getElem_cons_succ, List.getElem_cons_zero, put_at, List.set])
                refine wpAnyL_take (i := 4) (v := ?_) rfl (by kernel_rfl) (by kernel_rfl) (by kernel_rfl) (by kernel_rfl) (fun _ _ _ h => h) (by kernel_rfl) hClosed (Or.inl ⟨by rfl, ?_⟩) hHeld (fun hClosed => ?_)
                rotate_left
                · intro wv hSw; go_simp; all_goals (with_reducible rfl)
                (try simp only [List.getElem_toArray, List.getElem_cons_succ, List.getElem_cons_zero, put_at, List.set])
                refine wpAnyL_take (i := 5) (v := ?_) rfl (by kernel_rfl) (by kernel_rfl) (by kernel_rfl) (by kernel_rfl) (fun _ _ _ h => h) (by kernel_rfl) hClosed (Or.inl ⟨by rfl, ?_⟩) hHeld (fun hClosed => ?_)
                rotate_left
                · intro wv hSw; go_simp; all_goals (with_reducible rfl)
                (try simp only [List.getElem_toArray, List.getElem_cons_succ, List.getElem_cons_zero, put_at, List.set])
                refine wpAnyL_take (i := 6) (v := ?_) rfl (by kernel_rfl) (by kernel_rfl) (by kernel_rfl) (by kernel_rfl) (fun _ _ _ h => h) (by kernel_rfl) hClosed (Or.inl ⟨by rfl, ?_⟩) hHeld (fun hClosed => ?_)
                rotate_left
                · intro wv hSw; have b0 := hSw.cell 0; have b1 := hSw.cell 1; have b2 := hSw.cell 2; have b3 := hSw.cell 3; go_simp; all_goals (with_reducible rfl)
                (try simp only [List.getElem_toArray, List.getElem_cons_succ, List.getElem_cons_zero, put_at, List.set])
                refine wpAnyL_one (i := 3) rfl (by kernel_rfl) (by kernel_rfl) hClosed (fun KK hK => ?_)
                go_simp
                refine OP.out.mono ?_
                rintro e w5 ⟨er, rfl, hbx, HC⟩
                have BX5 := (hbx _ rfl).out
                clear hbx OP
                go_wp2_with fail
                refine hK.out _ _ ?_ (fun hClosed hHeld => ?_)
                · exact BX5
                clear hK KK
                (first | simp only [List.getElem_toArray, List.getElem_cons_succ, List.getElem_cons_zero, put_at, List.set] | (try simp only [put_at, List.set]))
                refine wpAnyL_one (i := 7) rfl (by kernel_rfl) (by kernel_rfl) hClosed (fun KK hK => ?_)
                go_simp
                refine HC.out.mono ?_
                rintro e w6 ⟨rfl, S2, R2, X6⟩
                clear HC
                have BX6 := pl_box X6.out
                go_wp2_with fail
                refine hK.out _ _ ?_ (fun hClosed hHeld => ?_)
                · exact BX6
                clear hK KK
                (first | simp only [List.getElem_toArray, List.getElem_cons_succ, List.getElem_cons_zero, put_at, List.set] | (try simp only [put_at, List.set]))
                refine wpAnyL_take (i := 8) (v := ?_) rfl (by kernel_rfl) (by kernel_rfl) (by kernel_rfl) (by kernel_rfl) (fun _ _ _ h => h) (by kernel_rfl) hClosed (Or.inl ⟨by rfl, ?_⟩) hHeld (fun hClosed => ?_)
                rotate_left
                · intro wv hSw; go_simp; all_goals (with_reducible rfl)
                (try simp only [List.getElem_toArray, List.getElem_cons_succ, List.getElem_cons_zero, put_at, List.set])
                refine wpAnyL_last rfl (by kernel_rfl) (by kernel_rfl) (fun KK hK => ?_)
                go_simp
                refine hK.out _ _ ?_
                (try simp only [put_at, List.set])
                go_wp2_with fail
                go_meet
                exact ⟨er, S2, R2, rfl, rfl, X6⟩
              · by_cases h3 : xw = 3
                · subst h3
                  have e0 : ((3 : Int) == 0) = false := rfl
                  have e1 : ((3 : Int) == 1) = false := rfl
                  have e2 : ((3 : Int) == 2) = false := rfl
                  have e3 : ((3 : Int) == 3) = true := rfl
                  have OP := Lib.hid (pl_fault HB0.out X2.out xn xm (wfle2 HWN.out) (wfle2 HWM.out))
                  clear X2
                  go_wp2_with fail
                  refine OP.out.mono ?_
                  rintro e w5 ⟨rfl, hbx, v1, v2, v3, v4, hb, hf⟩
                  have BXD := hb.out
                  obtain ⟨BXA5h, hne⟩ := hbx _ rfl
                  have BXA5 := BXA5h.out
                  have HF := Lib.hid hf
                  have hne2 : ab ≠ D2 := hne
                  have O5 := Lib.hid (Only.drewN (Only.refl (fun k => k = D2) w5) 1)
                  clear hf OP a0 a1 a2 a3 la hb hbx BXA5h BXA
                  go_upto_region 19 with fail
                  refine wp_region_last 11 (fun w' => Box w' ab #[.int .i64 (3 : Int), .int .i64 xn, .int .i64 xm, .slice ba bl bc] 29) (by kernel_rfl) (BXA5.drew) (fun hHeld hClosed => ?_)
                  have BXW := Lib.hid BXD.drew
                  change Hid (Only (fun k => k = D2) w5 w5.drew) at O5
                  generalize w5.drew = wq at BXW O5 hHeld ⊢
                  have g3 := BXW.out.cell 3
                  have h3' := BXW.out.free 3
                  have l3 := BXW.out.lt
                  refine wpAnyL_take (i := 0) (v := ?_) rfl (by kernel_rfl) (by kernel_rfl) (by kernel_rfl) (by kernel_rfl) (fun _ _ _ h => h) (by kernel_rfl) hClosed (Or.inl ⟨by rfl, ?_⟩) hHeld (fun hClosed => ?_)
                  rotate_left
                  · intro wv hSw; go_simp; all_goals (with_reducible rfl)
                  (try simp only [List.getElem_toArray, List.getElem_cons_zero, put_at, List.set])
                  refine wpAnyL_take (i := 1) (v := ?_) rfl (by kernel_rfl) (by kernel_rfl) (by kernel_rfl) (by kernel_rfl) (fun _ _ _ h => h) (by kernel_rfl) hClosed (Or.inl ⟨by rfl, ?_⟩) hHeld (fun hClosed => ?_)
                  rotate_left
                  · intro wv hSw; go_simp; all_goals (with_reducible rfl)
                  (try simp only [List.getElem_toArray, List.getElem_cons_succ, List.getElem_cons_zero, put_at, List.set])
                  refine wpAnyL_take (i := 2) (v := ?_) rfl (by kernel_rfl) (by kernel_rfl) (by kernel_rfl) (by kernel_rfl) (fun _ _ _ h => h) (by kernel_rfl) hClosed (Or.inl ⟨by rfl, ?_⟩) hHeld (fun hClosed => ?_)
                  rotate_left
                  · intro wv hSw; go_simp; all_goals (with_reducible rfl)
                  (try simp only [List.getElem_toArray, List.getElem_cons_succ, List.getElem_cons_zero, put_at, List.set])
                  refine wpAnyL_take (i := 3) (v := ?_) rfl (by kernel_rfl) (by kernel_rfl) (by kernel_rfl) (by kernel_rfl) (fun _ _ _ h => h) (by kernel_rfl) hClosed (Or.inl ⟨by rfl, ?_⟩) hHeld (fun hClosed => ?_)
                  rotate_left
                  · intro wv hSw; have b0 := hSw.cell 0; have b1 := hSw.cell 1; have b2 := hSw.cell 2; have b3 := hSw.cell 3; go_simp; all_goals (with_reducible rfl)
                  (try simp only [List.getElem_toArray, List.getElem_cons_succ, List.getElem_cons_zero, put_at, List.set])
                  refine wpAnyL_take (i := 4) (v := ?_) rfl (by kernel_rfl) (by kernel_rfl) (by kernel_rfl) (by kernel_rfl) (fun _ _ _ h => h) (by kernel_rfl) hClosed (Or.inl ⟨by rfl, ?_⟩) hHeld (fun hClosed => ?_)
                  rotate_left
                  · intro wv hSw; go_simp; all_goals (with_reducible rfl)
                  (try simp only [List.getElem_toArray, List.getElem_cons_succ, List.getElem_cons_zero, put_at, List.set])
                  refine wpAnyL_take (i := 5) (v := ?_) rfl (by kernel_rfl) (by kernel_rfl) (by kernel_rfl) (by kernel_rfl) (fun _ _ _ h => h) (by kernel_rfl) hClosed (Or.inl ⟨by rfl, ?_⟩) hHeld (fun hClosed => ?_)
                  rotate_left
                  · intro wv hSw; have b0 := hSw.cell 0; have b1 := hSw.cell 1; have b2 := hSw.cell 2; have b3 := hSw.cell 3; go_simp; all_goals (with_reducible rfl)
                  (try simp only [List.getElem_toArray, List.getElem_cons_succ, List.getElem_cons_zero, put_at, List.set])
                  refine wpAnyL_take (i := 6) (v := ?_) rfl (by kernel_rfl) (by kernel_rfl) (by kernel_rfl) (by kernel_rfl) (fun _ _ _ h => h) (by kernel_rfl) hClosed (Or.inl ⟨by rfl, ?_⟩) hHeld (fun hClosed => ?_)
                  rotate_left
                  · intro wv hSw; go_simp; all_goals (with_reducible rfl)
                  (try simp only [List.getElem_toArray, List.getElem_cons_succ, List.getElem_cons_zero, put_at, List.set])
                  refine wpAnyL_take (i := 7) (v := ?_) rfl (by kernel_rfl) (by kernel_rfl) (by kernel_rfl) (by kernel_rfl) (fun _ _ _ h => h) (by kernel_rfl) hClosed (Or.inl ⟨by rfl, ?_⟩) hHeld (fun hClosed => ?_)
                  rotate_left
                  · intro wv hSw; go_simp; all_goals (with_reducible rfl)
                  (try simp only [List.getElem_toArray, List.getElem_cons_succ, List.getElem_cons_zero, put_at, List.set])
                  refine wpAnyL_one (i := 8) rfl (by kernel_rfl) (by kernel_rfl) hClosed (fun KK hK => ?_)
                  go_simp
                  refine hK.out _ _ ?_ (fun hClosed hHeld => ?_)
                  · exact hHeld.other hne2 _
                  clear hK KK
                  (first | simp only [List.getElem_toArray, List.getElem_cons_succ, List.getElem_cons_zero, put_at, List.set] | (try simp only [put_at, List.set]))
                  refine wpAnyL_take (i := 9) (v := ?_) rfl (by kernel_rfl) (by kernel_rfl) (by kernel_rfl) (by kernel_rfl) (fun _ _ _ h => h) (by kernel_rfl) hClosed (Or.inl ⟨by rfl, ?_⟩) hHeld (fun hClosed => ?_)
                  rotate_left
                  · intro wv hSw; go_simp; all_goals (with_reducible rfl)
                  (try simp only [List.getElem_toArray, List.getElem_cons_succ, List.getElem_cons_zero, put_at, List.set])
                  refine wpAnyL_take (i := 10) (v := ?_) rfl (by kernel_rfl) (by kernel_rfl) (by kernel_rfl) (by kernel_rfl) (fun _ _ _ h => h) (by kernel_rfl) hClosed (Or.inl ⟨by rfl, ?_⟩) hHeld (fun hClosed => ?_)
                  rotate_left
                  · intro wv hSw; go_simp; all_goals (with_reducible rfl)
                  (try simp only [List.getElem_toArray, List.getElem_cons_succ, List.getElem_cons_zero, put_at, List.set])
                  refine wpAnyL_last rfl (by kernel_rfl) (by kernel_rfl) (fun KK hK => ?_)
                  have g4 := (BXW.out.set 3 (.int .i64 xn)).cell 4
                  have h4 := (BXW.out.set 3 (.int .i64 xn)).free 4
                  have l4 := (BXW.out.set 3 (.int .i64 xn)).lt
                  simp at g4
                  go_simp
                  refine hK.out _ _ ?_
                  (try simp only [put_at, List.set])
                  go_upto_region 20 with fail
                  refine code_forget (fun W => Box W D2 #[.int .i64 M, v1, v2, .int .i64 xn, .int .i64 xm] 37 ∧ Only (fun k => k = D2) w5 W ∧ Box W ab #[.int .i64 (3 : Int), .int .i64 xn, .int .i64 xm, .slice ba bl bc] 29) ⟨by have h9 := (BXW.out.set 3 (.int .i64 xn)).set 4 (.int .i64 xm); simpa using h9, (O5.out.setCell (Or.inl rfl) _).setCell (Or.inl rfl) _, hHeld.other hne2 _⟩ ?_
                  rintro wd ⟨BXD2, O6, BXA6⟩
                  clear hHeld O5 BXW BXD BXA5
                  have a0 := BXA6.cell 0
                  have a1 := BXA6.cell 1
                  have a2 := BXA6.cell 2
                  have a3 := BXA6.cell 3
                  have la := BXA6.lt
                  have b3 := BXD2.cell 3
                  have b4 := BXD2.cell 4
                  have f3 := BXD2.free 3
                  have f4 := BXD2.free 4
                  have ld := BXD2.lt
                  have hne3 : D2 ≠ ab := fun e => hne2 e.symm
                  have HB2 := Lib.hid BXD2
                  have HO6 := Lib.hid O6
                  clear BXD2 O6 BXA6
                  by_cases hn : xn < 0
                  · have dn : decide (xn < 0) = true := decide_eq_true hn
                    by_cases hm : xm < 0
                    · have dm : decide (xm < 0) = true := decide_eq_true hm
                      go_wp2_with fail
                      go_meet
                      exact ⟨0, S, R, rfl, rfl, Lib.hid (HF.out _ (by have h9 := ((HB2.out.set 3 (.int .i64 0)).set 4 (.int .i64 0)); rw [show max xn 0 = 0 by omega, show max xm 0 = 0 by omega]; simpa using h9) ((HO6.out.setCell (Or.inl rfl) _).setCell (Or.inl rfl) _))⟩
                    · have dm : decide (xm < 0) = false := decide_eq_false hm
                      go_wp2_with fail
                      go_meet
                      exact ⟨0, S, R, rfl, rfl, Lib.hid (HF.out _ (by have h9 := (HB2.out.set 3 (.int .i64 0)); rw [show max xn 0 = 0 by omega, show max xm 0 = xm by omega]; simpa using h9) (HO6.out.setCell (Or.inl rfl) _))⟩
                  · have dn : decide (xn < 0) = false := decide_eq_false hn
                    by_cases hm : xm < 0
                    · have dm : decide (xm < 0) = true := decide_eq_true hm
                      go_wp2_with fail
                      go_meet
                      exact ⟨0, S, R, rfl, rfl, Lib.hid (HF.out _ (by have h9 := (HB2.out.set 4 (.int .i64 0)); rw [show max xn 0 = xn by omega, show max xm 0 = 0 by omega]; simpa using h9) (HO6.out.setCell (Or.inl rfl) _))⟩
                    · have dm : decide (xm < 0) = false := decide_eq_false hm
                      go_wp2_with fail
                      go_meet
                      exact ⟨0, S, R, rfl, rfl, Lib.hid (HF.out _ (by have h9 := HB2.out; rw [show max xn 0 = xn by omega, show max xm 0 = xm by omega]; simpa using h9) HO6.out)⟩
                · have e0 : (xw == 0) = false := by simpa using h0
                  have e1 : (xw == 1) = false := by simpa using h1
                  have e2 : (xw == 2) = false := by simpa using h2
                  have e3 : (xw == 3) = false := by simpa using h3
                  have OP := Lib.hid (pl_crash HB0.out X2.out xn (wfge2 HWN.out) (wfle2 HWN.out))
                  clear X2
                  go_wp2_with fail
                  refine OP.out.mono ?_
                  rintro e w5 ⟨rfl, hbx, HC⟩
                  clear OP a0 a1 a2 a3 la
                  have BX5 := (hbx _ rfl).out
                  clear hbx
                  have a1 := BX5.cell 1
                  have la := BX5.lt
                  clear BX5
                  go_wp2_with fail
                  refine HC.out.mono ?_
                  rintro e w6 ⟨rfl, S2, R2, X6⟩
                  clear HC a1 la
                  go_wp2
                  go_meet
                  exact ⟨0, S2, R2, rfl, rfl, X6⟩
        case rest =>
          obtain ⟨er, S2, R2, rfl, rfl, X6⟩ := hcut
          obtain ⟨wk, hwk⟩ : ∃ W, wc = W := ⟨_, rfl⟩
          rw [hwk] at X6 ⊢
          clear hwk X2 a0 a1 a2 a3 la BXA
          obtain ⟨K2, hK2⟩ : ∃ n, S2.length = n := ⟨_, rfl⟩
          have HK2 := Lib.hid hK2
          have SB := pl_len X6.out
          rw [hK2] at SB
          have hRK : R2.length = K2 := SB.1
          have hK16 : K2 ≤ 16 := SB.2.1
          have HRK := Lib.hid hRK
          have SG := Lib.hid (pl_segs HB0.out X6.out hK2)
          clear SB hK2 hRK
          go_wp2_with fail
          refine SG.out.mono ?_
          rintro e w7 ⟨sa, sc, rfl, SO, X7⟩
          clear SG X6
          obtain ⟨rb, rbc, HR⟩ := pl_row X7.out
          have rc1 := HR.out.1
          rw [HRK.out] at rc1
          have rlt := HR.out.2.1
          clear HR
          have q0 : (er != er) = false := by simp
          have q1 : ((K2 : Int) != (K2 : Int)) = false := by simp
          go_upto_region 27 with fail
          clear rc1 rlt
          go_wp2_with fail
          go_loopw [12] (fun vk wr => ∃ (k : Nat), k ≤ K2 ∧ vk = .int .i64 (k : Int) ∧ Hid (Below w7.heap.size w7 wr)) (fun vk _ => K2 - (vI vk).toNat)
          case atStart => exact ⟨0, by omega, rfl, Lib.hid (Below.refl _ _)⟩
          case round =>
            obtain ⟨k, hk, rfl, HB7⟩ := hrel
            obtain ⟨w8, rfl⟩ : ∃ W, W = wr := ⟨_, rfl⟩
            by_cases hkk : k < K2
            · have d1 : decide ((k : Int) < (K2 : Int)) = true := decide_eq_true (by omega)
              have X8 := Lib.hid (pl_later HB0.out X7.out HB7.out)
              obtain ⟨rb, rbc, HR⟩ := pl_row X8.out
              obtain ⟨gs, n, hrb, hc1, hc2, hc3, hc4⟩ := HR.out.2.2 k (by rw [HK2.out]; exact hkk)
              subst hrb
              obtain ⟨sg, rfl, _⟩ := SO.out.some_ (by omega)
              have MS := Lib.hid (fun W hW => (SO.out.later hW).cell (w := W) hc2)
              have HN := Lib.hid hc4
              have HZ := Lib.hid hc3
              have hk0 : (0 : Int) ≤ (k : Int) := by omega
              have hk1 : (k : Int) < (K2 : Int) := by omega
              obtain ⟨L, hL⟩ : ∃ l, (gD S2 n).length = l := ⟨_, rfl⟩
              have HL := Lib.hid hL
              have hL2 : L ≤ 2048 := by rw [← hL]; exact (pl_len X8.out).2.2 n
              have rc1 := HR.out.1
              rw [HRK.out] at rc1
              have RC1 := Lib.hid rc1
              have HC1 := Lib.hid hc1
              have RLT := Lib.hid HR.out.2.1
              clear hc2 hc3 hc4 hL hc1 rc1 HR
              have m0 := MS.out _ HB7.out
              go_wp2_with fail
              refine (pl_read HB0.out X8.out n HN.out L HL.out 0 HZ.out).mono ?_
              rintro e w9 ⟨xa, xc, rfl, HB9, X9, Y9⟩
              have HB79 := Lib.hid (HB7.out.trans (HB9.out.mono HB7.out.size))
              clear m0
              have m0 := MS.out _ HB79.out
              go_wp2_with fail
              refine (pl_readR HB0.out X9.out n L HL.out 0 HZ.out).mono ?_
              rintro e wa1 ⟨ya, yc, rfl, HBa, Xa, Ya⟩
              have HB7a := Lib.hid (HB79.out.trans (HBa.out.mono HB79.out.size))
              clear m0
              have m0 := MS.out _ HB7a.out
              have HB8a := Lib.hid (HB9.out.trans (HBa.out.mono HB9.out.size))
              have rc1 := (HB8a.out.cell (p := ⟨D2, 1, none⟩) RLT.out).trans RC1.out
              have hc1 := (HB8a.out.cell (p := ⟨gs, k * 2, none⟩) (World.block_lt_of_cell? _ _ HC1.out)).trans HC1.out
              have rlt : D2 < wa1.heap.size := Nat.lt_of_lt_of_le RLT.out HB8a.out.size
              have t1 : ∀ j, (convert 27 9 (.slice xa L xc)).run Try.prog (wa1.drewN j) = .ok (.string (strL (gD S2 n))) (wa1.drewN j) := fun j => conv_rdc (Y9.out.later (dk_drewN HBa.out j)) HL.out
              have t2 : ∀ j, (convert 27 9 (.slice ya L yc)).run Try.prog (wa1.drewN j) = .ok (.string (strL (gD S2 n))) (wa1.drewN j) := fun j => conv_rdc (Ya.out.later (dk_drewN (Below.refl _ _) j)) HL.out
              obtain ⟨ts, hts⟩ : ∃ t, strL (gD S2 n) = t := ⟨_, rfl⟩
              rw [hts] at t1 t2
              have q2 : (n != n) = false := by simp
              clear hts X8 X9 Xa Y9 Ya HB8a HB79 HBa HB9 MS
              go_upto_region 32 with fail
              go_quiet (fail)
              go_wp2
              go_roundw
              case rel => exact ⟨k + 1, by omega, by go_num, Lib.hid (dk_drewN HB7a.out _)⟩
              case measure => exact cra_ms K2 k hkk
            · have d1 : decide ((k : Int) < (K2 : Int)) = false := decide_eq_false (by omega)
              have d1n : decide (k < K2) = false := decide_eq_false hkk
              have X8 := Lib.hid (pl_later HB0.out X7.out HB7.out)
              obtain ⟨L, hL⟩ : ∃ n, (gD S2 xn).length = n := ⟨_, rfl⟩
              obtain ⟨E, hE⟩ : ∃ n, rdE S2 xn = n := ⟨_, rfl⟩
              have HL := Lib.hid hL
              have HE := Lib.hid hE
              have BX8 := pl_box X8.out
              have a1 := BX8.cell 1
              have la := BX8.lt
              clear hL hE BX8 X7 SO HB7
              go_wp2_with fail
              refine (pl_read HB0.out X8.out xn HWN.out L HL.out E HE.out).mono ?_
              rintro e w9 ⟨xa, xc, rfl, HB9, X9, Y9⟩
              clear X8 a1 la Y9 HB9
              have BX9 := pl_box X9.out
              have a1 := BX9.cell 1
              have la := BX9.lt
              clear BX9
              go_wp2_with fail
              refine (pl_readR HB0.out X9.out xn L HL.out E HE.out).mono ?_
              rintro e wa1 ⟨ya, yc, rfl, HBa, Xa, Ya⟩
              have NX := Lib.hid (pl_bare Xa.out)
              have q2 : (E != E) = false := by simp
              clear X9 a1 la Ya HBa Xa
              go_wp2
              go_roundw
              case rel => exact ⟨i + 1, S2, R2, by omega, by omega, by go_num, NX⟩
              case measure => exact cra_ms 60 i h2'
    · have AWX := Lib.hid (pl_bel HX.out)
      have dd : (¬ i < len) ∨ (i < len ∧ ¬ i < 60) := by
        by_cases h1 : i < len
        · exact Or.inr ⟨h1, fun h => hgo ⟨h1, h⟩⟩
        · exact Or.inl h1
      clear HX HA HAC
      rcases dd with h1 | ⟨h1, h2⟩
      · have d1 : decide ((i : Int) < (len : Int)) = false := decide_eq_false (by omega)
        have d1n : decide (i < len) = false := decide_eq_false h1
        go_wp2_with fail
        refine (AW.out _).mono ?_
        rintro e w6 ⟨rfl, b6⟩
        have B6 : Hid (Below w.heap.size w w6) := Lib.hid (by have h9 := AWX.out.trans (b6.mono (Nat.le_trans HB0.out AWX.out.size)); rw [HBE.out] at h9; exact h9)
        clear b6
        go_wp2
        go_ret
        exact ⟨rfl, B6.out⟩
      · have d1 : decide ((i : Int) < (len : Int)) = true := decide_eq_true (by omega)
        have d2 : decide ((i : Int) < 60) = false := decide_eq_false (by omega)
        have d2n : decide (i < 60) = false := decide_eq_false h2
        go_wp2_with fail
        refine (AW.out _).mono ?_
        rintro e w6 ⟨rfl, b6⟩
        have B6 : Hid (Below w.heap.size w w6) := Lib.hid (by have h9 := AWX.out.trans (b6.mono (Nat.le_trans HB0.out AWX.out.size)); rw [HBE.out] at h9; exact h9)
        clear b6
        go_wp2
        go_ret
        exact ⟨rfl, B6.out⟩
theorem diskPlays_walk (sg : Int) (x : Option Addr × Nat × Nat) (w : World) (w1 : (Lit.int .i64 sg).wf = true) (hx : IsDActs w x) :
    Calls Try.prog 3 #[.int .i64 sg, .slice x.1 x.2.1 x.2.2] w fun e w' => e = .returned (.bool true) ∧ Below w.heap.size w w' := by
  obtain ⟨b, off, h1, h2, h3⟩ := hx
  exact diskPlays_w sg x.1 x.2.1 x.2.2 b off w h2 h1 h3
end Go.Proofs.Ytomeipjglnpciaa
