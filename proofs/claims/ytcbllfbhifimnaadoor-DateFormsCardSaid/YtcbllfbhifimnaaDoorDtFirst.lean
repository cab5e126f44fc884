/- The document's first form. -/
import Derived.Test.YtcbllfbhifimnaaDoorDtRef
namespace Go.Proofs.YtcbllfbhifimnaaDoor
open Go.RowKit
set_option linter.unusedVariables false
set_option linter.unusedSimpArgs false
set_option maxRecDepth 10000

theorem monR_get (J : Nat) (h0 : 1 ≤ J) (h : J < 13) : ∃ x : ByteArray, monR[J]? = some (.string x) ∧ monN.getD (J - 1) [] = btL x ∧ x.size = 3 := by
  have hk : J = 1 ∨ J = 2 ∨ J = 3 ∨ J = 4 ∨ J = 5 ∨ J = 6 ∨ J = 7 ∨ J = 8 ∨ J = 9 ∨ J = 10 ∨ J = 11 ∨ J = 12 := by omega
  rcases hk with rfl | rfl | rfl | rfl | rfl | rfl | rfl | rfl | rfl | rfl | rfl | rfl <;> exact ⟨_, rfl, rfl, rfl⟩
theorem clk_size (m : Mo) (t : ByteArray) (ht : strL (clkL m) = t) : t.size = 8 := by
  rw [← ht, strL_size]
  unfold clkL
  simp only [List.length_append, padN_len, List.length_cons, List.length_nil]
theorem clk_byts (m : Mo) : Byts (clkL m) := by
  have e3 : Byts [58] := by unfold Byts; decide
  unfold clkL
  exact ((((padN_byts 2 _).append e3).append (padN_byts 2 _)).append e3).append (padN_byts 2 _)
set_option maxHeartbeats 4000000 in
theorem rfirst_at (wd y mo d h mi s : Int) (t : ByteArray) (hv : Valid y mo d) (hc : ClkOk ⟨wd, y, mo, d, h, mi, s⟩) (hw : (num y mo d + 3) % 7 = wd) (ht : strL (firstL ⟨wd, y, mo, d, h, mi, s⟩) = t) (w : World) :
    Calls Tryd.prog 10 #[.agg #[.int .i64 y, .int .i64 mo, .int .i64 d, .int .i64 h, .int .i64 mi, .int .i64 s]] w fun e w' => e = .returned (.string t) ∧ Below w.heap.size w w' := by
  obtain ⟨K, hK⟩ : ∃ K : Nat, (num y mo d + 3) % 7 = (K : Int) := ⟨((num y mo d + 3) % 7).toNat, by omega⟩
  have hK7 : K < 7 := by omega
  obtain ⟨x, g1, g2, g3, g4⟩ := day_get K hK7
  obtain ⟨nm, hnm⟩ : ∃ nm, x.extract 0 3 = nm := ⟨_, rfl⟩
  have zn : nm.size = 3 := by rw [← hnm]; simp; omega
  have hv2 := hv
  obtain ⟨v1, v2, v3, v4, v5, v6⟩ := hv2
  have b4 := lenI_bd y mo
  obtain ⟨J, hJ⟩ : ∃ J : Nat, mo = (J : Int) := ⟨mo.toNat, by omega⟩
  obtain ⟨mn, hmn, g5, zm⟩ := monR_get J (by omega) (by omega)
  obtain ⟨ck, hck⟩ : ∃ t, strL (clkL ⟨wd, y, mo, d, h, mi, s⟩) = t := ⟨_, rfl⟩
  obtain ⟨pd, hpd⟩ : ∃ t, strL (padN 2 d.toNat) = t := ⟨_, rfl⟩
  obtain ⟨py, hpy⟩ : ∃ t, strL (padN 4 y.toNat) = t := ⟨_, rfl⟩
  have zpd := pad_size 2 _ pd hpd
  have zpy := pad_size 4 _ py hpy
  have zck := clk_size _ ck hck
  have DY := Lib.hid (fun W => rday_at y mo d h mi s K x hv hK g1 W)
  have PD := Lib.hid (fun W => rpad2_as d pd hpd (by omega) (by omega) W)
  have PY := Lib.hid (fun W => rpad4_as y py hpy (by omega) (by omega) W)
  have CK := Lib.hid (fun W => rclock_at wd y mo d h mi s ck hc hck W)
  obtain ⟨s1, hs1⟩ : ∃ c, nm ++ (⟨#[44, 32]⟩ : ByteArray) = c := ⟨_, rfl⟩
  obtain ⟨s2, hs2⟩ : ∃ c, s1 ++ pd = c := ⟨_, rfl⟩
  obtain ⟨s3, hs3⟩ : ∃ c, s2 ++ (⟨#[32]⟩ : ByteArray) = c := ⟨_, rfl⟩
  obtain ⟨s4, hs4⟩ : ∃ c, s3 ++ mn = c := ⟨_, rfl⟩
  obtain ⟨s5, hs5⟩ : ∃ c, s4 ++ (⟨#[32]⟩ : ByteArray) = c := ⟨_, rfl⟩
  obtain ⟨s6, hs6⟩ : ∃ c, s5 ++ py = c := ⟨_, rfl⟩
  obtain ⟨s7, hs7⟩ : ∃ c, s6 ++ (⟨#[32]⟩ : ByteArray) = c := ⟨_, rfl⟩
  obtain ⟨s8, hs8⟩ : ∃ c, s7 ++ ck = c := ⟨_, rfl⟩
  have ht2 : s8 ++ (⟨#[32, 71, 77, 84]⟩ : ByteArray) = t := by
    rw [← ht, ← strL_btL (s8 ++ _)]
    congr 1
    unfold firstL
    dsimp only
    have eD : dayH.getD wd.toNat [] = btL nm := by
      rw [← hw, hK, Int.toNat_natCast, ← hnm]
      have := congrArg List.head? g3
      rw [List.head?_drop] at this
      rw [List.getD_eq_getElem?_getD, this]
      rfl
    have eM : monN.getD (mo - 1).toNat [] = btL mn := by rw [show (mo - 1).toNat = J - 1 from by omega, g5]
    have eC : btL ck = clkL ⟨wd, y, mo, d, h, mi, s⟩ := by rw [← hck, btL_strL (clk_byts _)]
    rw [eD, eM, ← eC, ← hs8, ← hs7, ← hs6, ← hs5, ← hs4, ← hs3, ← hs2, ← hs1, ← hpd, ← hpy]
    simp only [btD_app, btD_pad]
    rfl
  have zz_s1 : (⟨#[44, 32]⟩ : ByteArray).size = 2 := rfl
  have z_s1 : s1.size ≤ 5 := by rw [← hs1, ByteArray.size_append]; omega
  have A_s1 : ∀ wx : World, (Op.stringOp .add nm ⟨#[44, 32]⟩).run Tryd.prog wx = .ok (.string s1) wx := fun wx => by rw [run_string_add_sum wx _ _ (by omega), hs1]
  have z_s2 : s2.size ≤ 7 := by rw [← hs2, ByteArray.size_append]; omega
  have A_s2 : ∀ wx : World, (Op.stringOp .add s1 pd).run Tryd.prog wx = .ok (.string s2) wx := fun wx => by rw [run_string_add_sum wx _ _ (by omega), hs2]
  have zz_s3 : (⟨#[32]⟩ : ByteArray).size = 1 := rfl
  have z_s3 : s3.size ≤ 8 := by rw [← hs3, ByteArray.size_append]; omega
  have A_s3 : ∀ wx : World, (Op.stringOp .add s2 ⟨#[32]⟩).run Tryd.prog wx = .ok (.string s3) wx := fun wx => by rw [run_string_add_sum wx _ _ (by omega), hs3]
  have z_s4 : s4.size ≤ 11 := by rw [← hs4, ByteArray.size_append]; omega
  have A_s4 : ∀ wx : World, (Op.stringOp .add s3 mn).run Tryd.prog wx = .ok (.string s4) wx := fun wx => by rw [run_string_add_sum wx _ _ (by omega), hs4]
  have zz_s5 : (⟨#[32]⟩ : ByteArray).size = 1 := rfl
  have z_s5 : s5.size ≤ 12 := by rw [← hs5, ByteArray.size_append]; omega
  have A_s5 : ∀ wx : World, (Op.stringOp .add s4 ⟨#[32]⟩).run Tryd.prog wx = .ok (.string s5) wx := fun wx => by rw [run_string_add_sum wx _ _ (by omega), hs5]
  have z_s6 : s6.size ≤ 16 := by rw [← hs6, ByteArray.size_append]; omega
  have A_s6 : ∀ wx : World, (Op.stringOp .add s5 py).run Tryd.prog wx = .ok (.string s6) wx := fun wx => by rw [run_string_add_sum wx _ _ (by omega), hs6]
  have zz_s7 : (⟨#[32]⟩ : ByteArray).size = 1 := rfl
  have z_s7 : s7.size ≤ 17 := by rw [← hs7, ByteArray.size_append]; omega
  have A_s7 : ∀ wx : World, (Op.stringOp .add s6 ⟨#[32]⟩).run Tryd.prog wx = .ok (.string s7) wx := fun wx => by rw [run_string_add_sum wx _ _ (by omega), hs7]
  have z_s8 : s8.size ≤ 25 := by rw [← hs8, ByteArray.size_append]; omega
  have A_s8 : ∀ wx : World, (Op.stringOp .add s7 ck).run Tryd.prog wx = .ok (.string s8) wx := fun wx => by rw [run_string_add_sum wx _ _ (by omega), hs8]
  have zz_t : (⟨#[32, 71, 77, 84]⟩ : ByteArray).size = 4 := rfl
  have z_t : t.size ≤ 29 := by rw [← ht2, ByteArray.size_append]; omega
  have A_t : ∀ wx : World, (Op.stringOp .add s8 ⟨#[32, 71, 77, 84]⟩).run Tryd.prog wx = .ok (.string t) wx := fun wx => by rw [run_string_add_sum wx _ _ (by omega), ht2]
  clear zz_s1 zz_s3 zz_s5 zz_s7 zz_t z_s1 z_s2 z_s3 z_s4 z_s5 z_s6 z_s7 z_s8 z_t
  have G2 : Hid (monR[J]? = some (.string mn)) := Lib.hid hmn
  have HS1 : 3 ≤ x.size := g4
  have HS2 : (3 : Int) ≤ (x.size : Int) := by omega
  have m0 : 0 ≤ mo := by omega
  have m1 : mo < 13 := by omega
  have hmj : mo.toNat = J := by omega
  clear hv hc hw ht hK g1 g2 g3 g4 g5 hmn zm zn hck hpd hpy zpd zpy zck hs1 hs2 hs3 hs4 hs5 hs6 hs7 hs8 ht2 v1 v2 v3 v4 v5 v6 b4 hJ hK7
  obtain ⟨g, hg⟩ : ∃ g, w.heap.size = g := ⟨_, rfl⟩
  go_enter Tryd.func10, Tryd.ntmps10
  go_wp2
  refine code_forget (fun wx => Hid (Box wx g #[.int .i64 y, .int .i64 mo, .int .i64 d, .int .i64 h, .int .i64 mi, .int .i64 s] 24) ∧ Hid (Below w.heap.size w wx)) ⟨Lib.hid (dBox_new hg.symm), Lib.hid ((Below.refl _ _).alloc (Nat.le_refl _) _)⟩ ?_
  clear hg
  rintro w1 ⟨X1, B1⟩
  refine wp_region_last 25 (fun w' => Box w' g #[.int .i64 y, .int .i64 mo, .int .i64 d, .int .i64 h, .int .i64 mi, .int .i64 s] 24 ∧ Below w.heap.size w w') (by kernel_rfl) (⟨X1.out.drew, B1.out.drew⟩) (fun hHeld hClosed => ?_)
  refine wpAnyL_take (i := 0) (v := (.agg #[.int .i64 y, .int .i64 mo, .int .i64 d, .int .i64 h, .int .i64 mi, .int .i64 s])) rfl (by kernel_rfl) (by kernel_rfl) (by kernel_rfl) (by kernel_rfl) (fun _ _ _ h => h) (by kernel_rfl) hClosed (Or.inl ⟨by rfl, ?_⟩) hHeld (fun hClosed => ?_)
  · intro wv hSw; exact exec_load_box (by rfl) (by rfl) hSw.1 Tryd.underlying24 rfl (by kernel_rfl)
  (try simp only [List.getElem_toArray, List.getElem_cons_zero, put_at, List.set])
  refine wpAnyL_take (i := 4) (v := ?_) rfl (by kernel_rfl) (by kernel_rfl) (by kernel_rfl) (by kernel_rfl) (fun _ _ _ h => h) (by kernel_rfl) hClosed (Or.inl ⟨by rfl, ?_⟩) hHeld (fun hClosed => ?_)
  rotate_left
  · intro wv hSw; go_simp; all_goals (with_reducible rfl)
  (try simp only [List.getElem_toArray, List.getElem_cons_succ, List.getElem_cons_zero, put_at, List.set])
  refine wpAnyL_take (i := 5) (v := ?_) rfl (by kernel_rfl) (by kernel_rfl) (by kernel_rfl) (by kernel_rfl) (fun _ _ _ h => h) (by kernel_rfl) hClosed (Or.inl ⟨by rfl, ?_⟩) hHeld (fun hClosed => ?_)
  rotate_left
  · intro wv hSw; have c0 := hSw.1.cell 0; have c1 := hSw.1.cell 1; have c2 := hSw.1.cell 2; have cl := hSw.1.lt; simp only [List.getElem?_toArray, List.getElem?_cons_zero, List.getElem?_cons_succ] at c0 c1 c2; go_simp; all_goals (with_reducible rfl)
  (try simp only [List.getElem_toArray, List.getElem_cons_succ, List.getElem_cons_zero, put_at, List.set])
  refine wpAnyL_take (i := 10) (v := ?_) rfl (by kernel_rfl) (by kernel_rfl) (by kernel_rfl) (by kernel_rfl) (fun _ _ _ h => h) (by kernel_rfl) hClosed (Or.inl ⟨by rfl, ?_⟩) hHeld (fun hClosed => ?_)
  rotate_left
  · intro wv hSw; go_simp; all_goals (with_reducible rfl)
  (try simp only [List.getElem_toArray, List.getElem_cons_succ, List.getElem_cons_zero, put_at, List.set])
  refine wpAnyL_take (i := 11) (v := ?_) rfl (by kernel_rfl) (by kernel_rfl) (by kernel_rfl) (by kernel_rfl) (fun _ _ _ h => h) (by kernel_rfl) hClosed (Or.inl ⟨by rfl, ?_⟩) hHeld (fun hClosed => ?_)
  rotate_left
  · intro wv hSw; have c0 := hSw.1.cell 0; have c1 := hSw.1.cell 1; have c2 := hSw.1.cell 2; have cl := hSw.1.lt; simp only [List.getElem?_toArray, List.getElem?_cons_zero, List.getElem?_cons_succ] at c0 c1 c2; go_simp; all_goals (with_reducible rfl)
  (try simp only [List.getElem_toArray, List.getElem_cons_succ, List.getElem_cons_zero, put_at, List.set])
  refine wpAnyL_take (i := 16) (v := ?_) rfl (by kernel_rfl) (by kernel_rfl) (by kernel_rfl) (by kernel_rfl) (fun _ _ _ h => h) (by kernel_rfl) hClosed (Or.inl ⟨by rfl, ?_⟩) hHeld (fun hClosed => ?_)
  rotate_left
  · intro wv hSw; go_simp; all_goals (with_reducible rfl)
  (try simp only [List.getElem_toArray, List.getElem_cons_succ, List.getElem_cons_zero, put_at, List.set])
  refine wpAnyL_take (i := 17) (v := ?_) rfl (by kernel_rfl) (by kernel_rfl) (by kernel_rfl) (by kernel_rfl) (fun _ _ _ h => h) (by kernel_rfl) hClosed (Or.inl ⟨by rfl, ?_⟩) hHeld (fun hClosed => ?_)
  rotate_left
  · intro wv hSw; have c0 := hSw.1.cell 0; have c1 := hSw.1.cell 1; have c2 := hSw.1.cell 2; have cl := hSw.1.lt; simp only [List.getElem?_toArray, List.getElem?_cons_zero, List.getElem?_cons_succ] at c0 c1 c2; go_simp; all_goals (with_reducible rfl)
  (try simp only [List.getElem_toArray, List.getElem_cons_succ, List.getElem_cons_zero, put_at, List.set])
  refine wpAnyL_take (i := 21) (v := (.agg #[.int .i64 y, .int .i64 mo, .int .i64 d, .int .i64 h, .int .i64 mi, .int .i64 s])) rfl (by kernel_rfl) (by kernel_rfl) (by kernel_rfl) (by kernel_rfl) (fun _ _ _ h => h) (by kernel_rfl) hClosed (Or.inl ⟨by rfl, ?_⟩) hHeld (fun hClosed => ?_)
  · intro wv hSw; exact exec_load_box (by rfl) (by rfl) hSw.1 Tryd.underlying24 rfl (by kernel_rfl)
  (try simp only [List.getElem_toArray, List.getElem_cons_succ, List.getElem_cons_zero, put_at, List.set])
  refine wpAnyL_one (i := 1) rfl (by kernel_rfl) (by kernel_rfl) hClosed (fun KK hK => ?_)
  go_simp
  refine (DY.out _).mono ?_
  rintro e wq ⟨rfl, hbq⟩
  go_wp2_with fail
  refine hK.out _ _ ?_ (fun hClosed hHeld => ?_)
  · exact ⟨hHeld.1.later hbq, hHeld.2.trans (hbq.mono hHeld.2.size)⟩
  clear hK KK
  (first | simp only [List.getElem_toArray, List.getElem_cons_succ, List.getElem_cons_zero, put_at, List.set] | (try simp only [put_at, List.set]))
  refine wpAnyL_take (i := 2) (v := ?_) rfl (by kernel_rfl) (by kernel_rfl) (by kernel_rfl) (by kernel_rfl) (fun _ _ _ h => h) (by kernel_rfl) hClosed (Or.inl ⟨by rfl, ?_⟩) hHeld (fun hClosed => ?_)
  rotate_left
  · intro wv hSw; go_simp; all_goals (with_reducible rfl)
  (try simp only [List.getElem_toArray, List.getElem_cons_succ, List.getElem_cons_zero, put_at, List.set])
  refine wpAnyL_take (i := 3) (v := ?_) rfl (by kernel_rfl) (by kernel_rfl) (by kernel_rfl) (by kernel_rfl) (fun _ _ _ h => h) (by kernel_rfl) hClosed (Or.inl ⟨by rfl, ?_⟩) hHeld (fun hClosed => ?_)
  rotate_left
  · intro wv hSw; go_simp; all_goals (with_reducible rfl)
  (try simp only [List.getElem_toArray, List.getElem_cons_succ, List.getElem_cons_zero, put_at, List.set])
  refine wpAnyL_one (i := 6) rfl (by kernel_rfl) (by kernel_rfl) hClosed (fun KK hK => ?_)
  go_simp
  refine (PD.out _).mono ?_
  rintro e wq ⟨rfl, hbq⟩
  go_wp2_with fail
  refine hK.out _ _ ?_ (fun hClosed hHeld => ?_)
  · exact ⟨hHeld.1.later hbq, hHeld.2.trans (hbq.mono hHeld.2.size)⟩
  clear hK KK
  (first | simp only [List.getElem_toArray, List.getElem_cons_succ, List.getElem_cons_zero, put_at, List.set] | (try simp only [put_at, List.set]))
  refine wpAnyL_take (i := 7) (v := ?_) rfl (by kernel_rfl) (by kernel_rfl) (by kernel_rfl) (by kernel_rfl) (fun _ _ _ h => h) (by kernel_rfl) hClosed (Or.inl ⟨by rfl, ?_⟩) hHeld (fun hClosed => ?_)
  rotate_left
  · intro wv hSw; go_simp; all_goals (with_reducible rfl)
  (try simp only [List.getElem_toArray, List.getElem_cons_succ, List.getElem_cons_zero, put_at, List.set])
  refine wpAnyL_take (i := 8) (v := ?_) rfl (by kernel_rfl) (by kernel_rfl) (by kernel_rfl) (by kernel_rfl) (fun _ _ _ h => h) (by kernel_rfl) hClosed (Or.inl ⟨by rfl, ?_⟩) hHeld (fun hClosed => ?_)
  rotate_left
  · intro wv hSw; go_simp; all_goals (with_reducible rfl)
  (try simp only [List.getElem_toArray, List.getElem_cons_succ, List.getElem_cons_zero, put_at, List.set])
  refine wpAnyL_one (i := 9) rfl (by kernel_rfl) (by kernel_rfl) hClosed (fun KK hK => ?_)
  go_simp
  refine (rmonths_at _).mono ?_
  rintro e wq ⟨bm, rfl, hbx, hbq⟩
  rw [show monR.size = 13 from rfl]
  go_wp2_with fail
  refine hK.out _ _ ?_ (fun hClosed hHeld => ?_)
  · exact ⟨hHeld.1.later hbq, hHeld.2.trans (hbq.mono hHeld.2.size)⟩
  clear hK KK
  (first | simp only [List.getElem_toArray, List.getElem_cons_succ, List.getElem_cons_zero, put_at, List.set] | (try simp only [put_at, List.set]))
  refine wpAnyL_take (i := 12) (v := ?_) rfl (by kernel_rfl) (by kernel_rfl) (by kernel_rfl) (by kernel_rfl) (fun _ _ _ h => h) (by kernel_rfl) hClosed (Or.inl ⟨by rfl, ?_⟩) hHeld (fun hClosed => ?_)
  rotate_left
  · intro wv hSw; go_simp; all_goals (with_reducible rfl)
  (try simp only [List.getElem_toArray, List.getElem_cons_succ, List.getElem_cons_zero, put_at, List.set])
  refine wpAnyL_two (i := 13) (j := 18) rfl rfl (by kernel_rfl) (by kernel_rfl) (by kernel_rfl) hClosed (fun KK hK => ?_) (fun KK hK => ?_)
  · have cm := hbx.cell J
    rw [G2.out] at cm
    go_simp
    refine hK.out _ _ ?_ (fun hClosed hHeld => ?_)
    · exact hHeld
    clear hK KK
    (first | simp only [List.getElem_toArray, List.getElem_cons_succ, List.getElem_cons_zero, put_at, List.set] | (try simp only [put_at, List.set]))
    refine wpAnyL_take (i := 14) (v := ?_) rfl (by kernel_rfl) (by kernel_rfl) (by kernel_rfl) (by kernel_rfl) (fun _ _ _ h => h) (by kernel_rfl) hClosed (Or.inl ⟨by rfl, ?_⟩) hHeld (fun hClosed => ?_)
    rotate_left
    · intro wv hSw; go_simp; all_goals (with_reducible rfl)
    (try simp only [List.getElem_toArray, List.getElem_cons_succ, List.getElem_cons_zero, put_at, List.set])
    refine wpAnyL_take (i := 15) (v := ?_) rfl (by kernel_rfl) (by kernel_rfl) (by kernel_rfl) (by kernel_rfl) (fun _ _ _ h => h) (by kernel_rfl) hClosed (Or.inl ⟨by rfl, ?_⟩) hHeld (fun hClosed => ?_)
    rotate_left
    · intro wv hSw; go_simp; all_goals (with_reducible rfl)
    (try simp only [List.getElem_toArray, List.getElem_cons_succ, List.getElem_cons_zero, put_at, List.set])
    refine wpAnyL_one (i := 18) rfl (by kernel_rfl) (by kernel_rfl) hClosed (fun KK hK => ?_)
    go_simp
    refine (PY.out _).mono ?_
    rintro e wq ⟨rfl, hbq⟩
    go_wp2_with fail
    refine hK.out _ _ ?_ (fun hClosed hHeld => ?_)
    · exact ⟨hHeld.1.later hbq, hHeld.2.trans (hbq.mono hHeld.2.size)⟩
    clear hK KK
    (first | simp only [List.getElem_toArray, List.getElem_cons_succ, List.getElem_cons_zero, put_at, List.set] | (try simp only [put_at, List.set]))
    refine wpAnyL_take (i := 19) (v := ?_) rfl (by kernel_rfl) (by kernel_rfl) (by kernel_rfl) (by kernel_rfl) (fun _ _ _ h => h) (by kernel_rfl) hClosed (Or.inl ⟨by rfl, ?_⟩) hHeld (fun hClosed => ?_)
    rotate_left
    · intro wv hSw; go_simp; all_goals (with_reducible rfl)
    (try simp only [List.getElem_toArray, List.getElem_cons_succ, List.getElem_cons_zero, put_at, List.set])
    refine wpAnyL_take (i := 20) (v := ?_) rfl (by kernel_rfl) (by kernel_rfl) (by kernel_rfl) (by kernel_rfl) (fun _ _ _ h => h) (by kernel_rfl) hClosed (Or.inl ⟨by rfl, ?_⟩) hHeld (fun hClosed => ?_)
    rotate_left
    · intro wv hSw; go_simp; all_goals (with_reducible rfl)
    (try simp only [List.getElem_toArray, List.getElem_cons_succ, List.getElem_cons_zero, put_at, List.set])
    refine wpAnyL_one (i := 22) rfl (by kernel_rfl) (by kernel_rfl) hClosed (fun KK hK => ?_)
    go_simp
    refine (CK.out _).mono ?_
    rintro e wq ⟨rfl, hbq⟩
    go_wp2_with fail
    refine hK.out _ _ ?_ (fun hClosed hHeld => ?_)
    · exact ⟨hHeld.1.later hbq, hHeld.2.trans (hbq.mono hHeld.2.size)⟩
    clear hK KK
    (first | simp only [List.getElem_toArray, List.getElem_cons_succ, List.getElem_cons_zero, put_at, List.set] | (try simp only [put_at, List.set]))
    refine wpAnyL_take (i := 23) (v := ?_) rfl (by kernel_rfl) (by kernel_rfl) (by kernel_rfl) (by kernel_rfl) (fun _ _ _ h => h) (by kernel_rfl) hClosed (Or.inl ⟨by rfl, ?_⟩) hHeld (fun hClosed => ?_)
    rotate_left
    · intro wv hSw; go_simp; all_goals (with_reducible rfl)
    (try simp only [List.getElem_toArray, List.getElem_cons_succ, List.getElem_cons_zero, put_at, List.set])
    refine wpAnyL_take (i := 24) (v := ?_) rfl (by kernel_rfl) (by kernel_rfl) (by kernel_rfl) (by kernel_rfl) (fun _ _ _ h => h) (by kernel_rfl) hClosed (Or.inl ⟨by rfl, ?_⟩) hHeld (fun hClosed => ?_)
    rotate_left
    · intro wv hSw; go_simp; all_goals (with_reducible rfl)
    (try simp only [List.getElem_toArray, List.getElem_cons_succ, List.getElem_cons_zero, put_at, List.set])
    refine wpAnyL_last rfl (by kernel_rfl) (by kernel_rfl) (fun KK hK => ?_)
    go_simp
    refine hK.out _ _ ?_
    (try simp only [put_at, List.set])
    go_wp2
    go_ret
    exact ⟨rfl, hHeld.2⟩
  · go_simp
    refine (PY.out _).mono ?_
    rintro e wq ⟨rfl, hbq⟩
    go_wp2_with fail
    refine hK.out _ _ ?_ (fun hClosed hHeld => ?_)
    · exact ⟨hHeld.1.later hbq, hHeld.2.trans (hbq.mono hHeld.2.size)⟩
    clear hK KK
    (first | simp only [List.getElem_toArray, List.getElem_cons_succ, List.getElem_cons_zero, put_at, List.set] | (try simp only [put_at, List.set]))
    replace hbx := hbx.later hbq
    refine wpAnyL_two (i := 13) (j := 22) rfl rfl (by kernel_rfl) (by kernel_rfl) (by kernel_rfl) hClosed (fun KK hK => ?_) (fun KK hK => ?_)
    · have cm := hbx.cell J
      rw [G2.out] at cm
      go_simp
      refine hK.out _ _ ?_ (fun hClosed hHeld => ?_)
      · exact hHeld
      clear hK KK
      (first | simp only [List.getElem_toArray, List.getElem_cons_succ, List.getElem_cons_zero, put_at, List.set] | (try simp only [put_at, List.set]))
      refine wpAnyL_take (i := 14) (v := ?_) rfl (by kernel_rfl) (by kernel_rfl) (by kernel_rfl) (by kernel_rfl) (fun _ _ _ h => h) (by kernel_rfl) hClosed (Or.inl ⟨by rfl, ?_⟩) hHeld (fun hClosed => ?_)
      rotate_left
      · intro wv hSw; go_simp; all_goals (with_reducible rfl)
      (try simp only [List.getElem_toArray, List.getElem_cons_succ, List.getElem_cons_zero, put_at, List.set])
      refine wpAnyL_take (i := 15) (v := ?_) rfl (by kernel_rfl) (by kernel_rfl) (by kernel_rfl) (by kernel_rfl) (fun _ _ _ h => h) (by kernel_rfl) hClosed (Or.inl ⟨by rfl, ?_⟩) hHeld (fun hClosed => ?_)
      rotate_left
      · intro wv hSw; go_simp; all_goals (with_reducible rfl)
      (try simp only [List.getElem_toArray, List.getElem_cons_succ, List.getElem_cons_zero, put_at, List.set])
      refine wpAnyL_take (i := 19) (v := ?_) rfl (by kernel_rfl) (by kernel_rfl) (by kernel_rfl) (by kernel_rfl) (fun _ _ _ h => h) (by kernel_rfl) hClosed (Or.inl ⟨by rfl, ?_⟩) hHeld (fun hClosed => ?_)
      rotate_left
      · intro wv hSw; go_simp; all_goals (with_reducible rfl)
      (try simp only [List.getElem_toArray, List.getElem_cons_succ, List.getElem_cons_zero, put_at, List.set])
      refine wpAnyL_take (i := 20) (v := ?_) rfl (by kernel_rfl) (by kernel_rfl) (by kernel_rfl) (by kernel_rfl) (fun _ _ _ h => h) (by kernel_rfl) hClosed (Or.inl ⟨by rfl, ?_⟩) hHeld (fun hClosed => ?_)
      rotate_left
      · intro wv hSw; go_simp; all_goals (with_reducible rfl)
      (try simp only [List.getElem_toArray, List.getElem_cons_succ, List.getElem_cons_zero, put_at, List.set])
      refine wpAnyL_one (i := 22) rfl (by kernel_rfl) (by kernel_rfl) hClosed (fun KK hK => ?_)
      go_simp
      refine (CK.out _).mono ?_
      rintro e wq ⟨rfl, hbq⟩
      go_wp2_with fail
      refine hK.out _ _ ?_ (fun hClosed hHeld => ?_)
      · exact ⟨hHeld.1.later hbq, hHeld.2.trans (hbq.mono hHeld.2.size)⟩
      clear hK KK
      (first | simp only [List.getElem_toArray, List.getElem_cons_succ, List.getElem_cons_zero, put_at, List.set] | (try simp only [put_at, List.set]))
      refine wpAnyL_take (i := 23) (v := ?_) rfl (by kernel_rfl) (by kernel_rfl) (by kernel_rfl) (by kernel_rfl) (fun _ _ _ h => h) (by kernel_rfl) hClosed (Or.inl ⟨by rfl, ?_⟩) hHeld (fun hClosed => ?_)
      rotate_left
      · intro wv hSw; go_simp; all_goals (with_reducible rfl)
      (try simp only [List.getElem_toArray, List.getElem_cons_succ, List.getElem_cons_zero, put_at, List.set])
      refine wpAnyL_take (i := 24) (v := ?_) rfl (by kernel_rfl) (by kernel_rfl) (by kernel_rfl) (by kernel_rfl) (fun _ _ _ h => h) (by kernel_rfl) hClosed (Or.inl ⟨by rfl, ?_⟩) hHeld (fun hClosed => ?_)
      rotate_left
      · intro wv hSw; go_simp; all_goals (with_reducible rfl)
      (try simp only [List.getElem_toArray, List.getElem_cons_succ, List.getElem_cons_zero, put_at, List.set])
      refine wpAnyL_last rfl (by kernel_rfl) (by kernel_rfl) (fun KK hK => ?_)
      go_simp
      refine hK.out _ _ ?_
      (try simp only [put_at, List.set])
      go_wp2
      go_ret
      exact ⟨rfl, hHeld.2⟩
    · go_simp
      refine (CK.out _).mono ?_
      rintro e wq ⟨rfl, hbq⟩
      go_wp2_with fail
      refine hK.out _ _ ?_ (fun hClosed hHeld => ?_)
      · exact ⟨hHeld.1.later hbq, hHeld.2.trans (hbq.mono hHeld.2.size)⟩
      clear hK KK
      (first | simp only [List.getElem_toArray, List.getElem_cons_succ, List.getElem_cons_zero, put_at, List.set] | (try simp only [put_at, List.set]))
      replace hbx := hbx.later hbq
      refine wpAnyL_one (i := 13) rfl (by kernel_rfl) (by kernel_rfl) hClosed (fun KK hK => ?_)
      have cm := hbx.cell J
      rw [G2.out] at cm
      go_simp
      refine hK.out _ _ ?_ (fun hClosed hHeld => ?_)
      · exact hHeld
      clear hK KK
      (first | simp only [List.getElem_toArray, List.getElem_cons_succ, List.getElem_cons_zero, put_at, List.set] | (try simp only [put_at, List.set]))
      refine wpAnyL_take (i := 14) (v := ?_) rfl (by kernel_rfl) (by kernel_rfl) (by kernel_rfl) (by kernel_rfl) (fun _ _ _ h => h) (by kernel_rfl) hClosed (Or.inl ⟨by rfl, ?_⟩) hHeld (fun hClosed => ?_)
      rotate_left
      · intro wv hSw; go_simp; all_goals (with_reducible rfl)
      (try simp only [List.getElem_toArray, List.getElem_cons_succ, List.getElem_cons_zero, put_at, List.set])
      refine wpAnyL_take (i := 15) (v := ?_) rfl (by kernel_rfl) (by kernel_rfl) (by kernel_rfl) (by kernel_rfl) (fun _ _ _ h => h) (by kernel_rfl) hClosed (Or.inl ⟨by rfl, ?_⟩) hHeld (fun hClosed => ?_)
      rotate_left
      · intro wv hSw; go_simp; all_goals (with_reducible rfl)
      (try simp only [List.getElem_toArray, List.getElem_cons_succ, List.getElem_cons_zero, put_at, List.set])
      refine wpAnyL_take (i := 19) (v := ?_) rfl (by kernel_rfl) (by kernel_rfl) (by kernel_rfl) (by kernel_rfl) (fun _ _ _ h => h) (by kernel_rfl) hClosed (Or.inl ⟨by rfl, ?_⟩) hHeld (fun hClosed => ?_)
      rotate_left
      · intro wv hSw; go_simp; all_goals (with_reducible rfl)
      (try simp only [List.getElem_toArray, List.getElem_cons_succ, List.getElem_cons_zero, put_at, List.set])
      refine wpAnyL_take (i := 20) (v := ?_) rfl (by kernel_rfl) (by kernel_rfl) (by kernel_rfl) (by kernel_rfl) (fun _ _ _ h => h) (by kernel_rfl) hClosed (Or.inl ⟨by rfl, ?_⟩) hHeld (fun hClosed => ?_)
      rotate_left
      · intro wv hSw; go_simp; all_goals (with_reducible rfl)
      (try simp only [List.getElem_toArray, List.getElem_cons_succ, List.getElem_cons_zero, put_at, List.set])
      refine wpAnyL_take (i := 23) (v := ?_) rfl (by kernel_rfl) (by kernel_rfl) (by kernel_rfl) (by kernel_rfl) (fun _ _ _ h => h) (by kernel_rfl) hClosed (Or.inl ⟨by rfl, ?_⟩) hHeld (fun hClosed => ?_)
      rotate_left
      · intro wv hSw; go_simp; all_goals (with_reducible rfl)
      (try simp only [List.getElem_toArray, List.getElem_cons_succ, List.getElem_cons_zero, put_at, List.set])
      refine wpAnyL_take (i := 24) (v := ?_) rfl (by kernel_rfl) (by kernel_rfl) (by kernel_rfl) (by kernel_rfl) (fun _ _ _ h => h) (by kernel_rfl) hClosed (Or.inl ⟨by rfl, ?_⟩) hHeld (fun hClosed => ?_)
      rotate_left
      · intro wv hSw; go_simp; all_goals (with_reducible rfl)
      (try simp only [List.getElem_toArray, List.getElem_cons_succ, List.getElem_cons_zero, put_at, List.set])
      refine wpAnyL_last rfl (by kernel_rfl) (by kernel_rfl) (fun KK hK => ?_)
      go_simp
      refine hK.out _ _ ?_
      (try simp only [put_at, List.set])
      go_wp2
      go_ret
      exact ⟨rfl, hHeld.2⟩
end Go.Proofs.YtcbllfbhifimnaaDoor
