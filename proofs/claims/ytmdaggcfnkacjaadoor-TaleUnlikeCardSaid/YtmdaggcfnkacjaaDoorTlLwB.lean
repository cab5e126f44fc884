/- The law's line of a step, some kinds. Written by gen_law.py. -/
import Derived.Test.YtmdaggcfnkacjaaDoorTlLwH
namespace Go.Proofs.YtmdaggcfnkacjaaDoor
open Go Go.RowKit
set_option linter.unusedVariables false
set_option linter.unusedSimpArgs false
set_option maxRecDepth 10000

set_option maxHeartbeats 8000000 in
theorem lline_4 (x : Stp) (hk : x.k = 4) (hz : SzS x) (hrg : RgS x) (ha : Option Addr) (n hc : Nat) (hn : x.hs.length = n) (w : World) (hr : RdC w ha (hdV x.hs)) :
    Calls Tryd.prog 11 #[.agg (stA x.k x.a x.b x.c x.t ha n hc)] w (LwP x w) := by
  obtain ⟨xk, xa, xb, xc, xt, xh⟩ := x
  obtain ⟨hz1, hz2, hz3⟩ := hz
  obtain ⟨r1, r2, r3⟩ := hrg
  dsimp only at hk hz1 hz2 hz3 hn hr r1 r2 r3 ⊢
  subst hk
  have HZ3 := Lib.hid hz3
  have HN := Lib.hid hn
  have HR := Lib.hid hr
  have hn2 : n ≤ 100000 := by omega
  have hn3 : n ≤ 9223372036854775807 := by omega
  have HFM : (⟨4, [97, 110, 115, 119, 101, 114], 3, true, true⟩ : Fm) ∈ fms := by decide
  have HSO : Hid (covB ⟨4, [97, 110, 115, 119, 101, 114], 3, true, true⟩ (spOf ⟨4, xa, xb, xc, xt, xh⟩) = true → _) := Lib.hid (fun h => lineK HFM rfl h)
  have HNO : Hid (covB ⟨4, [97, 110, 115, 119, 101, 114], 3, true, true⟩ (spOf ⟨4, xa, xb, xc, xt, xh⟩) = false → _) := Lib.hid (fun h => lineK_no HFM rfl h)
  have HFM2 := Lib.hid HFM
  clear hn hz2 hz3 hr HFM
  unfold stA
  unfold LwP
  have dn : decide ((n : Int) > 0) = decide (0 < n) := by rw [Bool.eq_iff_iff, decide_eq_true_iff, decide_eq_true_iff]; omega
  have dn2 : decide ((0 : Int) < n) = decide (0 < n) := by rw [Bool.eq_iff_iff, decide_eq_true_iff, decide_eq_true_iff]; omega
  obtain ⟨et, het⟩ : ∃ b, xt.toList.isEmpty = b := ⟨_, rfl⟩
  have HCV : Hid (covB ⟨4, [97, 110, 115, 119, 101, 114], 3, true, true⟩ (spOf ⟨4, xa, xb, xc, xt, xh⟩) = ((([xa, xb, xc] : List Int).drop 3).all (fun v => v == 0) && ((true || et) && (true || decide (n = 0))))) := Lib.hid (by
    unfold covB numsS spOf
    dsimp only
    rw [← het, str_empty]
    congr 3
    rw [← HN.out, List.isEmpty_map]
    cases xh <;> simp)
  go_enter Tryd.func11, Tryd.ntmps11
  go_upto_region 1 with fail
  refine code_forget (fun W => Hid (Box W w.heap.size #[.int .i64 4, .int .i64 xa, .int .i64 xb, .int .i64 xc, .string xt, .slice ha n hc] 24) ∧ Hid (Below w.heap.size w W)) ⟨Lib.hid (Box.new w _ _), Lib.hid ((Below.refl w.heap.size w).alloc (Nat.le_refl _) _)⟩ ?_
  rintro w1 ⟨BX, B1⟩
  obtain ⟨bx, hbx⟩ : ∃ b, w.heap.size = b := ⟨_, rfl⟩
  rw [hbx] at BX ⊢
  clear hbx
  have s0 := BX.out.cell 0
  have s1 := BX.out.cell 1
  have s2 := BX.out.cell 2
  have s3 := BX.out.cell 3
  have s4 := BX.out.cell 4
  have s5 := BX.out.cell 5
  have ls := BX.out.lt
  have BA := Box.new w1 #[.string ⟨#[]⟩, .string ⟨#[97, 100, 100]⟩, .string ⟨#[99, 108, 111, 99, 107]⟩, .string ⟨#[112, 111, 108, 108]⟩, .string ⟨#[97, 110, 115, 119, 101, 114]⟩, .string ⟨#[108, 111, 115, 116]⟩, .string ⟨#[99, 97, 110, 99, 101, 108]⟩, .string ⟨#[99, 114, 97, 115, 104]⟩, .string ⟨#[102, 97, 117, 108, 116]⟩] 9
  have BB := Box.new (w1.alloc (.cells #[.string ⟨#[]⟩, .string ⟨#[97, 100, 100]⟩, .string ⟨#[99, 108, 111, 99, 107]⟩, .string ⟨#[112, 111, 108, 108]⟩, .string ⟨#[97, 110, 115, 119, 101, 114]⟩, .string ⟨#[108, 111, 115, 116]⟩, .string ⟨#[99, 97, 110, 99, 101, 108]⟩, .string ⟨#[99, 114, 97, 115, 104]⟩, .string ⟨#[102, 97, 117, 108, 116]⟩] 9)) #[.int .i64 0, .int .i64 2, .int .i64 1, .int .i64 0, .int .i64 3, .int .i64 3, .int .i64 1, .int .i64 1, .int .i64 2] 3
  rw [World.size_alloc] at BB
  go_upto_region 3 with fail
  refine code_forget (fun W => Hid (Box W bx #[.int .i64 4, .int .i64 xa, .int .i64 xb, .int .i64 xc, .string xt, .slice ha n hc] 24) ∧ Hid (Below w.heap.size w W) ∧ Hid (Box W w1.heap.size #[.string ⟨#[]⟩, .string ⟨#[97, 100, 100]⟩, .string ⟨#[99, 108, 111, 99, 107]⟩, .string ⟨#[112, 111, 108, 108]⟩, .string ⟨#[97, 110, 115, 119, 101, 114]⟩, .string ⟨#[108, 111, 115, 116]⟩, .string ⟨#[99, 97, 110, 99, 101, 108]⟩, .string ⟨#[99, 114, 97, 115, 104]⟩, .string ⟨#[102, 97, 117, 108, 116]⟩] 9) ∧ Hid (Box W (w1.heap.size + 1) #[.int .i64 0, .int .i64 2, .int .i64 1, .int .i64 0, .int .i64 3, .int .i64 3, .int .i64 1, .int .i64 1, .int .i64 2] 3)) ⟨Lib.hid ((BX.out.alloc _).alloc _), Lib.hid ((B1.out.alloc B1.out.size _).alloc (by have := B1.out.size; simp; omega) _), Lib.hid (BA.alloc _), Lib.hid BB⟩ ?_
  clear BA BB BX B1 s0 s1 s2 s3 s4 s5 ls
  obtain ⟨g1, hg1⟩ : ∃ g, w1.heap.size = g := ⟨_, rfl⟩
  rw [hg1]
  clear hg1
  obtain ⟨g2, hg2⟩ : ∃ g, g1 + 1 = g := ⟨_, rfl⟩
  rw [hg2]
  clear hg2
  rintro w2 ⟨BX, B2, BA, BB⟩
  have s0 := BX.out.cell 0
  have s1 := BX.out.cell 1
  have s2 := BX.out.cell 2
  have s3 := BX.out.cell 3
  have s4 := BX.out.cell 4
  have s5 := BX.out.cell 5
  have ls := BX.out.lt
  have ca := BA.out.cell 4
  have la := BA.out.lt
  have cb := BB.out.cell 4
  have lb := BB.out.lt
  have HSOME := Lib.hid (HSO.out (by rw [HCV.out]; simp))
  have X0 := Lib.hid (Box.later BX.out (Below.refl _ _))
  have Y0 := B2
  obtain ⟨l0, hl0⟩ : ∃ l : ByteArray, (⟨#[97, 110, 115, 119, 101, 114]⟩ : ByteArray) = l := ⟨_, rfl⟩
  have hls0 : l0.size ≤ 10 := by rw [← hl0]; decide
  have HL0 : Hid (bl l0 = [97, 110, 115, 119, 101, 114]) := Lib.hid (by rw [← hl0]; rfl)
  obtain ⟨u0, hu0⟩ : ∃ x, stB (Lib.itoa xa) = x := ⟨_, rfl⟩
  have hus0 : u0.size ≤ 300000 := by rw [← hu0, stB_size]; have := itoa_len r1; omega
  obtain ⟨p0, l1, P0, Q0, hl1, hls1⟩ := add_word l0 u0 10 hls0 hus0 (by omega)
  have HL1 := Lib.hid hl1
  have HU0 := Lib.hid hu0
  clear hl1 hu0
  obtain ⟨u1, hu1⟩ : ∃ x, stB (Lib.itoa xb) = x := ⟨_, rfl⟩
  have hus1 : u1.size ≤ 300000 := by rw [← hu1, stB_size]; have := itoa_len r2; omega
  obtain ⟨p1, l2, P1, Q1, hl2, hls2⟩ := add_word l1 u1 300011 hls1 hus1 (by omega)
  have HL2 := Lib.hid hl2
  have HU1 := Lib.hid hu1
  clear hl2 hu1
  obtain ⟨u2, hu2⟩ : ∃ x, stB (Lib.itoa xc) = x := ⟨_, rfl⟩
  have hus2 : u2.size ≤ 300000 := by rw [← hu2, stB_size]; have := itoa_len r3; omega
  obtain ⟨p2, l3, P2, Q2, hl3, hls3⟩ := add_word l2 u2 600012 hls2 hus2 (by omega)
  have HL3 := Lib.hid hl3
  have HU2 := Lib.hid hu2
  clear hl3 hu2
  obtain ⟨u3, hu3⟩ : ∃ x, stB (hexW (bl xt)) = x := ⟨_, rfl⟩
  have hus3 : u3.size ≤ 300000 := by rw [← hu3, stB_size]; unfold hexW; rw [List.length_cons, hexL_length, bl_len]; omega
  obtain ⟨p3, l4, P3, Q3, hl4, hls4⟩ := add_word l3 u3 900013 hls3 hus3 (by omega)
  have HL4 := Lib.hid hl4
  have HU3 := Lib.hid hu3
  clear hl4 hu3
  have HBASE : Hid (bl l4 = [97, 110, 115, 119, 101, 114] ++ jT [Lib.itoa xa, Lib.itoa xb, Lib.itoa xc, hexW (bl xt)]) := Lib.hid (by
    rw [HL4.out, HL3.out, HL2.out, HL1.out, HL0.out]
    rw [← HU0.out, bl_stB]
    rw [← HU1.out, bl_stB]
    rw [← HU2.out, bl_stB]
    rw [← HU3.out, bl_stB]
    try simp only [← jT_app, List.append_assoc]
    try rfl)
  have b0 := Below.refl w2.heap.size w2
  go_wp2_with fail
  refine (digits_at xa r1 u0 HU0.out _).mono ?_
  rintro e v0 ⟨rfl, b0'⟩
  have X1 := Lib.hid (X0.out.later b0')
  have Y1 := Lib.hid (Y0.out.trans (b0'.mono Y0.out.size))
  clear X0 Y0 b0' s0 s1 s2 s3 s4 s5 ls
  have s0 := X1.out.cell 0
  have s1 := X1.out.cell 1
  have s2 := X1.out.cell 2
  have s3 := X1.out.cell 3
  have s4 := X1.out.cell 4
  have s5 := X1.out.cell 5
  have ls := X1.out.lt
  go_wp2_with fail
  refine (digits_at xb r2 u1 HU1.out _).mono ?_
  rintro e v1 ⟨rfl, b1'⟩
  have X2 := Lib.hid (X1.out.later b1')
  have Y2 := Lib.hid (Y1.out.trans (b1'.mono Y1.out.size))
  clear X1 Y1 b1' s0 s1 s2 s3 s4 s5 ls
  have s0 := X2.out.cell 0
  have s1 := X2.out.cell 1
  have s2 := X2.out.cell 2
  have s3 := X2.out.cell 3
  have s4 := X2.out.cell 4
  have s5 := X2.out.cell 5
  have ls := X2.out.lt
  go_wp2_with fail
  refine (digits_at xc r3 u2 HU2.out _).mono ?_
  rintro e v2 ⟨rfl, b2'⟩
  have X3 := Lib.hid (X2.out.later b2')
  have Y3 := Lib.hid (Y2.out.trans (b2'.mono Y2.out.size))
  clear X2 Y2 b2' s0 s1 s2 s3 s4 s5 ls
  have s0 := X3.out.cell 0
  have s1 := X3.out.cell 1
  have s2 := X3.out.cell 2
  have s3 := X3.out.cell 3
  have s4 := X3.out.cell 4
  have s5 := X3.out.cell 5
  have ls := X3.out.lt
  go_wp2_with fail
  refine (hex_at xt u3 HU3.out hz1 _).mono ?_
  rintro e v3 ⟨rfl, b3'⟩
  have X4 := Lib.hid (X3.out.later b3')
  have Y4 := Lib.hid (Y3.out.trans (b3'.mono Y3.out.size))
  clear X3 Y3 b3' s0 s1 s2 s3 s4 s5 ls
  have s0 := X4.out.cell 0
  have s1 := X4.out.cell 1
  have s2 := X4.out.cell 2
  have s3 := X4.out.cell 3
  have s4 := X4.out.cell 4
  have s5 := X4.out.cell 5
  have ls := X4.out.lt
  go_wp2_with fail
  go_loopw [7, 8] (fun vl vi wr => ∃ (i : Nat) (l : ByteArray), i ≤ n ∧ vi = .int .i64 (i : Int) ∧ vl = .string l ∧ l.size ≤ 2000000 + 700000 * i ∧ Hid (bl l = bl l4 ++ jT (hdW ((xh.take i).map hdB))) ∧ Hid (Box wr bx #[.int .i64 4, .int .i64 xa, .int .i64 xb, .int .i64 xc, .string xt, .slice ha n hc] 24) ∧ Hid (Below w.heap.size w wr)) (fun _ vi _ => n - (intOf vi).toNat)
  case atStart => exact ⟨0, l4, by omega, rfl, rfl, by omega, Lib.hid (by simp [hdW, jT, Lib.joinTail]), X4, Y4⟩
  case round =>
    obtain ⟨i, l, hi, rfl, rfl, hls, HL, XR, BR⟩ := hrel
    clear X4 Y4
    have s5 := XR.out.cell 5
    have ls := XR.out.lt
    by_cases hlt : i < n
    · have hkd : decide ((i : Int) < (n : Int)) = true := decide_eq_true (by omega)
      obtain ⟨⟨h1, h2⟩, hv⟩ : ∃ v, xh[i]? = some v := ⟨xh[i]'(by have := HN.out; omega), List.getElem?_eq_getElem _⟩
      obtain ⟨hb1, hb2⟩ := hdV_at hv
      obtain ⟨q1, o1, e1', hc1⟩ := HR.out _ _ hb1
      obtain ⟨q2, o2, e2', hc2⟩ := HR.out _ _ hb2
      subst e1'
      injection e2' with e2'
      injection e2' with j1 j2 _
      subst j1 j2
      rw [← Nat.add_assoc] at hc2
      have C1 := Lib.hid hc1
      have C2 := Lib.hid hc2
      obtain ⟨h1s, h2s⟩ := HZ3.out _ (List.mem_of_getElem? hv)
      dsimp only at h1s h2s
      obtain ⟨e1, he1⟩ : ∃ x, stB (hexW (bl h1)) = x := ⟨_, rfl⟩
      obtain ⟨e2, he2⟩ : ∃ x, stB (hexW (bl h2)) = x := ⟨_, rfl⟩
      have He1 := Lib.hid he1
      have He2 := Lib.hid he2
      have z1 : e1.size ≤ 300000 := by rw [← he1, stB_size]; unfold hexW; rw [List.length_cons, hexL_length, bl_len]; omega
      have z2 : e2.size ≤ 300000 := by rw [← he2, stB_size]; unfold hexW; rw [List.length_cons, hexL_length, bl_len]; omega
      obtain ⟨a1, a2, a3, t, A1, A2, A3, A4, ht, hts⟩ := add_two l e1 e2 (2000000 + 700000 * i) hls z1 z2 (by omega)
      have HTS : Hid (t.size ≤ 2000000 + 700000 * (i + 1)) := Lib.hid (Nat.le_trans hts (by rw [Nat.mul_add]; clear hts; omega))
      have HT2 : Hid (bl t = bl l4 ++ jT (hdW ((xh.take (i + 1)).map hdB))) := Lib.hid (by
        rw [ht, HL.out, List.take_add_one, hv, List.map_append, ← he1, ← he2, bl_stB, bl_stB]
        unfold hdW
        rw [List.flatMap_append, jT_app, List.append_assoc]
        rfl)
      have hk0 : (0 : Int) ≤ (i : Int) := by omega
      have hk1 : (i : Int) < (n : Int) := by omega
      clear hv hb1 hb2 hc1 hc2 he1 he2 HL ht
      go_upto_region 22 with fail
      clear s5 ls
      refine wp_region_last 19 (fun w' => Box w' bx #[.int .i64 4, .int .i64 xa, .int .i64 xb, .int .i64 xc, .string xt, .slice (some ⟨q1, o1, none⟩) n hc] 24 ∧ Below w.heap.size w w') (by kernel_rfl) (⟨XR.out.drew, BR.out.drew⟩) (fun hHeld hClosed => ?_)
      refine wpAnyL_take (i := 0) (v := ?_) rfl (by kernel_rfl) (by kernel_rfl) (by kernel_rfl) (by kernel_rfl) (fun _ _ _ h => h) (by kernel_rfl) hClosed (Or.inl ⟨by rfl, ?_⟩) hHeld (fun hClosed => ?_)
      rotate_left
      · intro wv hSw; go_simp; all_goals (with_reducible rfl)
      (try simp only [List.getElem_toArray, List.getElem_cons_zero, put_at, List.set])
      refine wpAnyL_take (i := 1) (v := ?_) rfl (by kernel_rfl) (by kernel_rfl) (by kernel_rfl) (by kernel_rfl) (fun _ _ _ h => h) (by kernel_rfl) hClosed (Or.inl ⟨by rfl, ?_⟩) hHeld (fun hClosed => ?_)
      rotate_left
      · intro wv hSw; go_simp; all_goals (with_reducible rfl)
      (try simp only [List.getElem_toArray, List.getElem_cons_succ, List.getElem_cons_zero, put_at, List.set])
      refine wpAnyL_take (i := 2) (v := ?_) rfl (by kernel_rfl) (by kernel_rfl) (by kernel_rfl) (by kernel_rfl) (fun _ _ _ h => h) (by kernel_rfl) hClosed (Or.inl ⟨by rfl, ?_⟩) hHeld (fun hClosed => ?_)
      rotate_left
      · intro wv hSw; have s5 := hSw.1.cell 5; have ls := hSw.1.lt; have c1 := (hSw.2.cell (World.block_lt_of_cell? _ _ C1.out)).trans C1.out; have c2 := (hSw.2.cell (World.block_lt_of_cell? _ _ C2.out)).trans C2.out; go_simp; all_goals (with_reducible rfl)
      (try simp only [List.getElem_toArray, List.getElem_cons_succ, List.getElem_cons_zero, put_at, List.set])
      refine wpAnyL_take (i := 3) (v := ?_) rfl (by kernel_rfl) (by kernel_rfl) (by kernel_rfl) (by kernel_rfl) (fun _ _ _ h => h) (by kernel_rfl) hClosed (Or.inl ⟨by rfl, ?_⟩) hHeld (fun hClosed => ?_)
      rotate_left
      · intro wv hSw; go_simp; all_goals (with_reducible rfl)
      (try simp only [List.getElem_toArray, List.getElem_cons_succ, List.getElem_cons_zero, put_at, List.set])
      refine wpAnyL_take (i := 4) (v := ?_) rfl (by kernel_rfl) (by kernel_rfl) (by kernel_rfl) (by kernel_rfl) (fun _ _ _ h => h) (by kernel_rfl) hClosed (Or.inl ⟨by rfl, ?_⟩) hHeld (fun hClosed => ?_)
      rotate_left
      · intro wv hSw; go_simp; all_goals (with_reducible rfl)
      (try simp only [List.getElem_toArray, List.getElem_cons_succ, List.getElem_cons_zero, put_at, List.set])
      refine wpAnyL_take (i := 5) (v := ?_) rfl (by kernel_rfl) (by kernel_rfl) (by kernel_rfl) (by kernel_rfl) (fun _ _ _ h => h) (by kernel_rfl) hClosed (Or.inl ⟨by rfl, ?_⟩) hHeld (fun hClosed => ?_)
      rotate_left
      · intro wv hSw; go_simp; all_goals (with_reducible rfl)
      (try simp only [List.getElem_toArray, List.getElem_cons_succ, List.getElem_cons_zero, put_at, List.set])
      refine wpAnyL_take (i := 6) (v := ?_) rfl (by kernel_rfl) (by kernel_rfl) (by kernel_rfl) (by kernel_rfl) (fun _ _ _ h => h) (by kernel_rfl) hClosed (Or.inl ⟨by rfl, ?_⟩) hHeld (fun hClosed => ?_)
      rotate_left
      · intro wv hSw; have s5 := hSw.1.cell 5; have ls := hSw.1.lt; have c1 := (hSw.2.cell (World.block_lt_of_cell? _ _ C1.out)).trans C1.out; have c2 := (hSw.2.cell (World.block_lt_of_cell? _ _ C2.out)).trans C2.out; go_simp; all_goals (with_reducible rfl)
      (try simp only [List.getElem_toArray, List.getElem_cons_succ, List.getElem_cons_zero, put_at, List.set])
      refine wpAnyL_take (i := 10) (v := ?_) rfl (by kernel_rfl) (by kernel_rfl) (by kernel_rfl) (by kernel_rfl) (fun _ _ _ h => h) (by kernel_rfl) hClosed (Or.inl ⟨by rfl, ?_⟩) hHeld (fun hClosed => ?_)
      rotate_left
      · intro wv hSw; go_simp; all_goals (with_reducible rfl)
      (try simp only [List.getElem_toArray, List.getElem_cons_succ, List.getElem_cons_zero, put_at, List.set])
      refine wpAnyL_take (i := 11) (v := ?_) rfl (by kernel_rfl) (by kernel_rfl) (by kernel_rfl) (by kernel_rfl) (fun _ _ _ h => h) (by kernel_rfl) hClosed (Or.inl ⟨by rfl, ?_⟩) hHeld (fun hClosed => ?_)
      rotate_left
      · intro wv hSw; have s5 := hSw.1.cell 5; have ls := hSw.1.lt; have c1 := (hSw.2.cell (World.block_lt_of_cell? _ _ C1.out)).trans C1.out; have c2 := (hSw.2.cell (World.block_lt_of_cell? _ _ C2.out)).trans C2.out; go_simp; all_goals (with_reducible rfl)
      (try simp only [List.getElem_toArray, List.getElem_cons_succ, List.getElem_cons_zero, put_at, List.set])
      refine wpAnyL_take (i := 12) (v := ?_) rfl (by kernel_rfl) (by kernel_rfl) (by kernel_rfl) (by kernel_rfl) (fun _ _ _ h => h) (by kernel_rfl) hClosed (Or.inl ⟨by rfl, ?_⟩) hHeld (fun hClosed => ?_)
      rotate_left
      · intro wv hSw; go_simp; all_goals (with_reducible rfl)
      (try simp only [List.getElem_toArray, List.getElem_cons_succ, List.getElem_cons_zero, put_at, List.set])
      refine wpAnyL_take (i := 13) (v := ?_) rfl (by kernel_rfl) (by kernel_rfl) (by kernel_rfl) (by kernel_rfl) (fun _ _ _ h => h) (by kernel_rfl) hClosed (Or.inl ⟨by rfl, ?_⟩) hHeld (fun hClosed => ?_)
      rotate_left
      · intro wv hSw; go_simp; all_goals (with_reducible rfl)
      (try simp only [List.getElem_toArray, List.getElem_cons_succ, List.getElem_cons_zero, put_at, List.set])
      refine wpAnyL_take (i := 14) (v := ?_) rfl (by kernel_rfl) (by kernel_rfl) (by kernel_rfl) (by kernel_rfl) (fun _ _ _ h => h) (by kernel_rfl) hClosed (Or.inl ⟨by rfl, ?_⟩) hHeld (fun hClosed => ?_)
      rotate_left
      · intro wv hSw; go_simp; all_goals (with_reducible rfl)
      (try simp only [List.getElem_toArray, List.getElem_cons_succ, List.getElem_cons_zero, put_at, List.set])
      refine wpAnyL_take (i := 15) (v := ?_) rfl (by kernel_rfl) (by kernel_rfl) (by kernel_rfl) (by kernel_rfl) (fun _ _ _ h => h) (by kernel_rfl) hClosed (Or.inl ⟨by rfl, ?_⟩) hHeld (fun hClosed => ?_)
      rotate_left
      · intro wv hSw; have s5 := hSw.1.cell 5; have ls := hSw.1.lt; have c1 := (hSw.2.cell (World.block_lt_of_cell? _ _ C1.out)).trans C1.out; have c2 := (hSw.2.cell (World.block_lt_of_cell? _ _ C2.out)).trans C2.out; go_simp; all_goals (with_reducible rfl)
      (try simp only [List.getElem_toArray, List.getElem_cons_succ, List.getElem_cons_zero, put_at, List.set])
      refine wpAnyL_one (i := 7) rfl (by kernel_rfl) (by kernel_rfl) hClosed (fun KK hK => ?_)
      go_simp
      refine (hex_at h1 e1 He1.out h1s _).mono ?_
      rintro e w6 ⟨rfl, b6⟩
      go_wp2_with fail
      refine hK.out _ _ ?_ (fun hClosed hHeld => ?_)
      · exact ⟨hHeld.1.later b6, hHeld.2.trans (b6.mono hHeld.2.size)⟩
      clear hK KK
      (first | simp only [List.getElem_toArray, List.getElem_cons_succ, List.getElem_cons_zero, put_at, List.set] | (try simp only [put_at, List.set]))
      clear b6
      refine wpAnyL_take (i := 8) (v := ?_) rfl (by kernel_rfl) (by kernel_rfl) (by kernel_rfl) (by kernel_rfl) (fun _ _ _ h => h) (by kernel_rfl) hClosed (Or.inl ⟨by rfl, ?_⟩) hHeld (fun hClosed => ?_)
      rotate_left
      · intro wv hSw; go_simp; all_goals (with_reducible rfl)
      (try simp only [List.getElem_toArray, List.getElem_cons_succ, List.getElem_cons_zero, put_at, List.set])
      refine wpAnyL_take (i := 9) (v := ?_) rfl (by kernel_rfl) (by kernel_rfl) (by kernel_rfl) (by kernel_rfl) (fun _ _ _ h => h) (by kernel_rfl) hClosed (Or.inl ⟨by rfl, ?_⟩) hHeld (fun hClosed => ?_)
      rotate_left
      · intro wv hSw; go_simp; all_goals (with_reducible rfl)
      (try simp only [List.getElem_toArray, List.getElem_cons_succ, List.getElem_cons_zero, put_at, List.set])
      refine wpAnyL_one (i := 16) rfl (by kernel_rfl) (by kernel_rfl) hClosed (fun KK hK => ?_)
      go_simp
      refine (hex_at h2 e2 He2.out h2s _).mono ?_
      rintro e w7 ⟨rfl, b7⟩
      go_wp2_with fail
      refine hK.out _ _ ?_ (fun hClosed hHeld => ?_)
      · exact ⟨hHeld.1.later b7, hHeld.2.trans (b7.mono hHeld.2.size)⟩
      clear hK KK
      (first | simp only [List.getElem_toArray, List.getElem_cons_succ, List.getElem_cons_zero, put_at, List.set] | (try simp only [put_at, List.set]))
      clear b7
      refine wpAnyL_take (i := 17) (v := ?_) rfl (by kernel_rfl) (by kernel_rfl) (by kernel_rfl) (by kernel_rfl) (fun _ _ _ h => h) (by kernel_rfl) hClosed (Or.inl ⟨by rfl, ?_⟩) hHeld (fun hClosed => ?_)
      rotate_left
      · intro wv hSw; go_simp; all_goals (with_reducible rfl)
      (try simp only [List.getElem_toArray, List.getElem_cons_succ, List.getElem_cons_zero, put_at, List.set])
      refine wpAnyL_take (i := 18) (v := ?_) rfl (by kernel_rfl) (by kernel_rfl) (by kernel_rfl) (by kernel_rfl) (fun _ _ _ h => h) (by kernel_rfl) hClosed (Or.inl ⟨by rfl, ?_⟩) hHeld (fun hClosed => ?_)
      rotate_left
      · intro wv hSw; go_simp; all_goals (with_reducible rfl)
      (try simp only [List.getElem_toArray, List.getElem_cons_succ, List.getElem_cons_zero, put_at, List.set])
      refine wpAnyL_last rfl (by kernel_rfl) (by kernel_rfl) (fun KK hK => ?_)
      go_simp
      refine hK.out _ _ ?_
      (try simp only [put_at, List.set])
      have XN := Lib.hid hHeld.1
      have BN := Lib.hid hHeld.2
      clear hHeld XR BR
      go_wp2
      go_roundw
      case rel => exact ⟨i + 1, t, by omega, by go_num, rfl, HTS.out, HT2, XN, BN⟩
      case measure => simp [intOf]; omega
    · have hkd : decide ((i : Int) < (n : Int)) = false := decide_eq_false (by omega)
      have HF : Hid (lineS (spOf ⟨4, xa, xb, xc, xt, xh⟩) = some (bl l)) := Lib.hid (by
        rw [HSOME.out, HL.out, List.take_of_length_le (l := xh) (by have := HN.out; omega), HBASE.out, List.append_assoc, ← jT_app]
        rfl)
      clear HL
      go_wp2
      go_ret2
      exact ⟨BR.out, Or.inr ⟨l, HF.out, rfl⟩⟩
set_option maxHeartbeats 8000000 in
theorem lline_6 (x : Stp) (hk : x.k = 6) (hz : SzS x) (hrg : RgS x) (ha : Option Addr) (n hc : Nat) (hn : x.hs.length = n) (w : World) (hr : RdC w ha (hdV x.hs)) :
    Calls Tryd.prog 11 #[.agg (stA x.k x.a x.b x.c x.t ha n hc)] w (LwP x w) := by
  obtain ⟨xk, xa, xb, xc, xt, xh⟩ := x
  obtain ⟨hz1, hz2, hz3⟩ := hz
  obtain ⟨r1, r2, r3⟩ := hrg
  dsimp only at hk hz1 hz2 hz3 hn hr r1 r2 r3 ⊢
  subst hk
  have HZ3 := Lib.hid hz3
  have HN := Lib.hid hn
  have HR := Lib.hid hr
  have hn2 : n ≤ 100000 := by omega
  have hn3 : n ≤ 9223372036854775807 := by omega
  have HFM : (⟨6, [99, 97, 110, 99, 101, 108], 1, false, false⟩ : Fm) ∈ fms := by decide
  have HSO : Hid (covB ⟨6, [99, 97, 110, 99, 101, 108], 1, false, false⟩ (spOf ⟨6, xa, xb, xc, xt, xh⟩) = true → _) := Lib.hid (fun h => lineK HFM rfl h)
  have HNO : Hid (covB ⟨6, [99, 97, 110, 99, 101, 108], 1, false, false⟩ (spOf ⟨6, xa, xb, xc, xt, xh⟩) = false → _) := Lib.hid (fun h => lineK_no HFM rfl h)
  have HFM2 := Lib.hid HFM
  clear hn hz2 hz3 hr HFM
  unfold stA
  unfold LwP
  have dn : decide ((n : Int) > 0) = decide (0 < n) := by rw [Bool.eq_iff_iff, decide_eq_true_iff, decide_eq_true_iff]; omega
  have dn2 : decide ((0 : Int) < n) = decide (0 < n) := by rw [Bool.eq_iff_iff, decide_eq_true_iff, decide_eq_true_iff]; omega
  obtain ⟨et, het⟩ : ∃ b, xt.toList.isEmpty = b := ⟨_, rfl⟩
  have HCV : Hid (covB ⟨6, [99, 97, 110, 99, 101, 108], 1, false, false⟩ (spOf ⟨6, xa, xb, xc, xt, xh⟩) = ((([xa, xb, xc] : List Int).drop 1).all (fun v => v == 0) && ((false || et) && (false || decide (n = 0))))) := Lib.hid (by
    unfold covB numsS spOf
    dsimp only
    rw [← het, str_empty]
    congr 3
    rw [← HN.out, List.isEmpty_map]
    cases xh <;> simp)
  go_enter Tryd.func11, Tryd.ntmps11
  go_upto_region 1 with fail
  refine code_forget (fun W => Hid (Box W w.heap.size #[.int .i64 6, .int .i64 xa, .int .i64 xb, .int .i64 xc, .string xt, .slice ha n hc] 24) ∧ Hid (Below w.heap.size w W)) ⟨Lib.hid (Box.new w _ _), Lib.hid ((Below.refl w.heap.size w).alloc (Nat.le_refl _) _)⟩ ?_
  rintro w1 ⟨BX, B1⟩
  obtain ⟨bx, hbx⟩ : ∃ b, w.heap.size = b := ⟨_, rfl⟩
  rw [hbx] at BX ⊢
  clear hbx
  have s0 := BX.out.cell 0
  have s1 := BX.out.cell 1
  have s2 := BX.out.cell 2
  have s3 := BX.out.cell 3
  have s4 := BX.out.cell 4
  have s5 := BX.out.cell 5
  have ls := BX.out.lt
  have BA := Box.new w1 #[.string ⟨#[]⟩, .string ⟨#[97, 100, 100]⟩, .string ⟨#[99, 108, 111, 99, 107]⟩, .string ⟨#[112, 111, 108, 108]⟩, .string ⟨#[97, 110, 115, 119, 101, 114]⟩, .string ⟨#[108, 111, 115, 116]⟩, .string ⟨#[99, 97, 110, 99, 101, 108]⟩, .string ⟨#[99, 114, 97, 115, 104]⟩, .string ⟨#[102, 97, 117, 108, 116]⟩] 9
  have BB := Box.new (w1.alloc (.cells #[.string ⟨#[]⟩, .string ⟨#[97, 100, 100]⟩, .string ⟨#[99, 108, 111, 99, 107]⟩, .string ⟨#[112, 111, 108, 108]⟩, .string ⟨#[97, 110, 115, 119, 101, 114]⟩, .string ⟨#[108, 111, 115, 116]⟩, .string ⟨#[99, 97, 110, 99, 101, 108]⟩, .string ⟨#[99, 114, 97, 115, 104]⟩, .string ⟨#[102, 97, 117, 108, 116]⟩] 9)) #[.int .i64 0, .int .i64 2, .int .i64 1, .int .i64 0, .int .i64 3, .int .i64 3, .int .i64 1, .int .i64 1, .int .i64 2] 3
  rw [World.size_alloc] at BB
  go_upto_region 3 with fail
  refine code_forget (fun W => Hid (Box W bx #[.int .i64 6, .int .i64 xa, .int .i64 xb, .int .i64 xc, .string xt, .slice ha n hc] 24) ∧ Hid (Below w.heap.size w W) ∧ Hid (Box W w1.heap.size #[.string ⟨#[]⟩, .string ⟨#[97, 100, 100]⟩, .string ⟨#[99, 108, 111, 99, 107]⟩, .string ⟨#[112, 111, 108, 108]⟩, .string ⟨#[97, 110, 115, 119, 101, 114]⟩, .string ⟨#[108, 111, 115, 116]⟩, .string ⟨#[99, 97, 110, 99, 101, 108]⟩, .string ⟨#[99, 114, 97, 115, 104]⟩, .string ⟨#[102, 97, 117, 108, 116]⟩] 9) ∧ Hid (Box W (w1.heap.size + 1) #[.int .i64 0, .int .i64 2, .int .i64 1, .int .i64 0, .int .i64 3, .int .i64 3, .int .i64 1, .int .i64 1, .int .i64 2] 3)) ⟨Lib.hid ((BX.out.alloc _).alloc _), Lib.hid ((B1.out.alloc B1.out.size _).alloc (by have := B1.out.size; simp; omega) _), Lib.hid (BA.alloc _), Lib.hid BB⟩ ?_
  clear BA BB BX B1 s0 s1 s2 s3 s4 s5 ls
  obtain ⟨g1, hg1⟩ : ∃ g, w1.heap.size = g := ⟨_, rfl⟩
  rw [hg1]
  clear hg1
  obtain ⟨g2, hg2⟩ : ∃ g, g1 + 1 = g := ⟨_, rfl⟩
  rw [hg2]
  clear hg2
  rintro w2 ⟨BX, B2, BA, BB⟩
  have s0 := BX.out.cell 0
  have s1 := BX.out.cell 1
  have s2 := BX.out.cell 2
  have s3 := BX.out.cell 3
  have s4 := BX.out.cell 4
  have s5 := BX.out.cell 5
  have ls := BX.out.lt
  have ca := BA.out.cell 6
  have la := BA.out.lt
  have cb := BB.out.cell 6
  have lb := BB.out.lt
  by_cases hzxc : xc ≠ 0
  · have dz : (xc != 0) = true := by simpa using hzxc
    have HF := Lib.hid (HNO.out (by rw [HCV.out]; simp [hzxc]))
    go_wp2
    go_ret2
    exact ⟨B2.out, Or.inl ⟨HF.out, rfl⟩⟩
  · have hzxc : xc = 0 := Classical.not_not.1 hzxc
    subst hzxc
    by_cases hzxb : xb ≠ 0
    · have dz : (xb != 0) = true := by simpa using hzxb
      have HF := Lib.hid (HNO.out (by rw [HCV.out]; simp [hzxb]))
      go_wp2
      go_ret2
      exact ⟨B2.out, Or.inl ⟨HF.out, rfl⟩⟩
    · have hzxb : xb = 0 := Classical.not_not.1 hzxb
      subst hzxb
      cases et with
      | false =>
        have HF := Lib.hid (HNO.out (by rw [HCV.out]; simp))
        go_wp2
        go_ret2
        exact ⟨B2.out, Or.inl ⟨HF.out, rfl⟩⟩
      | true =>
        by_cases hp : 0 < n
        · have dp : decide (0 < n) = true := decide_eq_true hp
          have hn0 : n ≠ 0 := by omega
          rw [dp] at dn dn2
          clear dp
          have HF := Lib.hid (HNO.out (by rw [HCV.out]; simp [hn0]))
          go_wp2
          go_ret2
          exact ⟨B2.out, Or.inl ⟨HF.out, rfl⟩⟩
        · have hn00 : n = 0 := by omega
          subst hn00
          have hx0 := List.eq_nil_of_length_eq_zero HN.out
          subst hx0
          clear hp dn dn2
          have HN0 : Hid ((0 : Nat) = 0) := Lib.hid rfl
          have HSOME := Lib.hid (HSO.out (by rw [HCV.out]; simp [HN0.out]))
          have X0 := Lib.hid (Box.later BX.out (Below.refl _ _))
          have Y0 := B2
          obtain ⟨l0, hl0⟩ : ∃ l : ByteArray, (⟨#[99, 97, 110, 99, 101, 108]⟩ : ByteArray) = l := ⟨_, rfl⟩
          have hls0 : l0.size ≤ 10 := by rw [← hl0]; decide
          have HL0 : Hid (bl l0 = [99, 97, 110, 99, 101, 108]) := Lib.hid (by rw [← hl0]; rfl)
          obtain ⟨u0, hu0⟩ : ∃ x, stB (Lib.itoa xa) = x := ⟨_, rfl⟩
          have hus0 : u0.size ≤ 300000 := by rw [← hu0, stB_size]; have := itoa_len r1; omega
          obtain ⟨p0, l1, P0, Q0, hl1, hls1⟩ := add_word l0 u0 10 hls0 hus0 (by omega)
          have HL1 := Lib.hid hl1
          have HU0 := Lib.hid hu0
          clear hl1 hu0
          have HBASE : Hid (bl l1 = [99, 97, 110, 99, 101, 108] ++ jT [Lib.itoa xa]) := Lib.hid (by
            rw [HL1.out, HL0.out]
            rw [← HU0.out, bl_stB]
            try simp only [← jT_app, List.append_assoc]
            try rfl)
          have b0 := Below.refl w2.heap.size w2
          go_wp2_with fail
          refine (digits_at xa r1 u0 HU0.out _).mono ?_
          rintro e v0 ⟨rfl, b0'⟩
          have X1 := Lib.hid (X0.out.later b0')
          have Y1 := Lib.hid (Y0.out.trans (b0'.mono Y0.out.size))
          clear X0 Y0 b0' s0 s1 s2 s3 s4 s5 ls
          have s0 := X1.out.cell 0
          have s1 := X1.out.cell 1
          have s2 := X1.out.cell 2
          have s3 := X1.out.cell 3
          have s4 := X1.out.cell 4
          have s5 := X1.out.cell 5
          have ls := X1.out.lt
          go_wp2_with fail
          go_loopw [7, 8] (fun vl vi wr => ∃ (i : Nat) (l : ByteArray), i ≤ 0 ∧ vi = .int .i64 (i : Int) ∧ vl = .string l ∧ l.size ≤ 2000000 + 700000 * i ∧ Hid (bl l = bl l1 ++ jT (hdW ((([] : List (ByteArray × ByteArray)).take i).map hdB))) ∧ Hid (Box wr bx #[.int .i64 6, .int .i64 xa, .int .i64 0, .int .i64 0, .string xt, .slice ha 0 hc] 24) ∧ Hid (Below w.heap.size w wr)) (fun _ vi _ => 0 - (intOf vi).toNat)
          case atStart => exact ⟨0, l1, by omega, rfl, rfl, by omega, Lib.hid (by simp [hdW, jT, Lib.joinTail]), X1, Y1⟩
          case round =>
            obtain ⟨i, l, hi, rfl, rfl, hls, HL, XR, BR⟩ := hrel
            clear X1 Y1
            have s5 := XR.out.cell 5
            have ls := XR.out.lt
            obtain rfl : i = 0 := by omega
            have HF : Hid (lineS (spOf ⟨6, xa, 0, 0, xt, []⟩) = some (bl l)) := Lib.hid (by
              rw [HSOME.out, HL.out, HBASE.out, List.append_assoc, ← jT_app]
              rfl)
            clear HL
            go_wp2
            go_ret2
            exact ⟨BR.out, Or.inr ⟨l, HF.out, rfl⟩⟩
set_option maxHeartbeats 8000000 in
theorem lline_7 (x : Stp) (hk : x.k = 7) (hz : SzS x) (hrg : RgS x) (ha : Option Addr) (n hc : Nat) (hn : x.hs.length = n) (w : World) (hr : RdC w ha (hdV x.hs)) :
    Calls Tryd.prog 11 #[.agg (stA x.k x.a x.b x.c x.t ha n hc)] w (LwP x w) := by
  obtain ⟨xk, xa, xb, xc, xt, xh⟩ := x
  obtain ⟨hz1, hz2, hz3⟩ := hz
  obtain ⟨r1, r2, r3⟩ := hrg
  dsimp only at hk hz1 hz2 hz3 hn hr r1 r2 r3 ⊢
  subst hk
  have HZ3 := Lib.hid hz3
  have HN := Lib.hid hn
  have HR := Lib.hid hr
  have hn2 : n ≤ 100000 := by omega
  have hn3 : n ≤ 9223372036854775807 := by omega
  have HFM : (⟨7, [99, 114, 97, 115, 104], 1, false, false⟩ : Fm) ∈ fms := by decide
  have HSO : Hid (covB ⟨7, [99, 114, 97, 115, 104], 1, false, false⟩ (spOf ⟨7, xa, xb, xc, xt, xh⟩) = true → _) := Lib.hid (fun h => lineK HFM rfl h)
  have HNO : Hid (covB ⟨7, [99, 114, 97, 115, 104], 1, false, false⟩ (spOf ⟨7, xa, xb, xc, xt, xh⟩) = false → _) := Lib.hid (fun h => lineK_no HFM rfl h)
  have HFM2 := Lib.hid HFM
  clear hn hz2 hz3 hr HFM
  unfold stA
  unfold LwP
  have dn : decide ((n : Int) > 0) = decide (0 < n) := by rw [Bool.eq_iff_iff, decide_eq_true_iff, decide_eq_true_iff]; omega
  have dn2 : decide ((0 : Int) < n) = decide (0 < n) := by rw [Bool.eq_iff_iff, decide_eq_true_iff, decide_eq_true_iff]; omega
  obtain ⟨et, het⟩ : ∃ b, xt.toList.isEmpty = b := ⟨_, rfl⟩
  have HCV : Hid (covB ⟨7, [99, 114, 97, 115, 104], 1, false, false⟩ (spOf ⟨7, xa, xb, xc, xt, xh⟩) = ((([xa, xb, xc] : List Int).drop 1).all (fun v => v == 0) && ((false || et) && (false || decide (n = 0))))) := Lib.hid (by
    unfold covB numsS spOf
    dsimp only
    rw [← het, str_empty]
    congr 3
    rw [← HN.out, List.isEmpty_map]
    cases xh <;> simp)
  go_enter Tryd.func11, Tryd.ntmps11
  go_upto_region 1 with fail
  refine code_forget (fun W => Hid (Box W w.heap.size #[.int .i64 7, .int .i64 xa, .int .i64 xb, .int .i64 xc, .string xt, .slice ha n hc] 24) ∧ Hid (Below w.heap.size w W)) ⟨Lib.hid (Box.new w _ _), Lib.hid ((Below.refl w.heap.size w).alloc (Nat.le_refl _) _)⟩ ?_
  rintro w1 ⟨BX, B1⟩
  obtain ⟨bx, hbx⟩ : ∃ b, w.heap.size = b := ⟨_, rfl⟩
  rw [hbx] at BX ⊢
  clear hbx
  have s0 := BX.out.cell 0
  have s1 := BX.out.cell 1
  have s2 := BX.out.cell 2
  have s3 := BX.out.cell 3
  have s4 := BX.out.cell 4
  have s5 := BX.out.cell 5
  have ls := BX.out.lt
  have BA := Box.new w1 #[.string ⟨#[]⟩, .string ⟨#[97, 100, 100]⟩, .string ⟨#[99, 108, 111, 99, 107]⟩, .string ⟨#[112, 111, 108, 108]⟩, .string ⟨#[97, 110, 115, 119, 101, 114]⟩, .string ⟨#[108, 111, 115, 116]⟩, .string ⟨#[99, 97, 110, 99, 101, 108]⟩, .string ⟨#[99, 114, 97, 115, 104]⟩, .string ⟨#[102, 97, 117, 108, 116]⟩] 9
  have BB := Box.new (w1.alloc (.cells #[.string ⟨#[]⟩, .string ⟨#[97, 100, 100]⟩, .string ⟨#[99, 108, 111, 99, 107]⟩, .string ⟨#[112, 111, 108, 108]⟩, .string ⟨#[97, 110, 115, 119, 101, 114]⟩, .string ⟨#[108, 111, 115, 116]⟩, .string ⟨#[99, 97, 110, 99, 101, 108]⟩, .string ⟨#[99, 114, 97, 115, 104]⟩, .string ⟨#[102, 97, 117, 108, 116]⟩] 9)) #[.int .i64 0, .int .i64 2, .int .i64 1, .int .i64 0, .int .i64 3, .int .i64 3, .int .i64 1, .int .i64 1, .int .i64 2] 3
  rw [World.size_alloc] at BB
  go_upto_region 3 with fail
  refine code_forget (fun W => Hid (Box W bx #[.int .i64 7, .int .i64 xa, .int .i64 xb, .int .i64 xc, .string xt, .slice ha n hc] 24) ∧ Hid (Below w.heap.size w W) ∧ Hid (Box W w1.heap.size #[.string ⟨#[]⟩, .string ⟨#[97, 100, 100]⟩, .string ⟨#[99, 108, 111, 99, 107]⟩, .string ⟨#[112, 111, 108, 108]⟩, .string ⟨#[97, 110, 115, 119, 101, 114]⟩, .string ⟨#[108, 111, 115, 116]⟩, .string ⟨#[99, 97, 110, 99, 101, 108]⟩, .string ⟨#[99, 114, 97, 115, 104]⟩, .string ⟨#[102, 97, 117, 108, 116]⟩] 9) ∧ Hid (Box W (w1.heap.size + 1) #[.int .i64 0, .int .i64 2, .int .i64 1, .int .i64 0, .int .i64 3, .int .i64 3, .int .i64 1, .int .i64 1, .int .i64 2] 3)) ⟨Lib.hid ((BX.out.alloc _).alloc _), Lib.hid ((B1.out.alloc B1.out.size _).alloc (by have := B1.out.size; simp; omega) _), Lib.hid (BA.alloc _), Lib.hid BB⟩ ?_
  clear BA BB BX B1 s0 s1 s2 s3 s4 s5 ls
  obtain ⟨g1, hg1⟩ : ∃ g, w1.heap.size = g := ⟨_, rfl⟩
  rw [hg1]
  clear hg1
  obtain ⟨g2, hg2⟩ : ∃ g, g1 + 1 = g := ⟨_, rfl⟩
  rw [hg2]
  clear hg2
  rintro w2 ⟨BX, B2, BA, BB⟩
  have s0 := BX.out.cell 0
  have s1 := BX.out.cell 1
  have s2 := BX.out.cell 2
  have s3 := BX.out.cell 3
  have s4 := BX.out.cell 4
  have s5 := BX.out.cell 5
  have ls := BX.out.lt
  have ca := BA.out.cell 7
  have la := BA.out.lt
  have cb := BB.out.cell 7
  have lb := BB.out.lt
  by_cases hzxc : xc ≠ 0
  · have dz : (xc != 0) = true := by simpa using hzxc
    have HF := Lib.hid (HNO.out (by rw [HCV.out]; simp [hzxc]))
    go_wp2
    go_ret2
    exact ⟨B2.out, Or.inl ⟨HF.out, rfl⟩⟩
  · have hzxc : xc = 0 := Classical.not_not.1 hzxc
    subst hzxc
    by_cases hzxb : xb ≠ 0
    · have dz : (xb != 0) = true := by simpa using hzxb
      have HF := Lib.hid (HNO.out (by rw [HCV.out]; simp [hzxb]))
      go_wp2
      go_ret2
      exact ⟨B2.out, Or.inl ⟨HF.out, rfl⟩⟩
    · have hzxb : xb = 0 := Classical.not_not.1 hzxb
      subst hzxb
      cases et with
      | false =>
        have HF := Lib.hid (HNO.out (by rw [HCV.out]; simp))
        go_wp2
        go_ret2
        exact ⟨B2.out, Or.inl ⟨HF.out, rfl⟩⟩
      | true =>
        by_cases hp : 0 < n
        · have dp : decide (0 < n) = true := decide_eq_true hp
          have hn0 : n ≠ 0 := by omega
          rw [dp] at dn dn2
          clear dp
          have HF := Lib.hid (HNO.out (by rw [HCV.out]; simp [hn0]))
          go_wp2
          go_ret2
          exact ⟨B2.out, Or.inl ⟨HF.out, rfl⟩⟩
        · have hn00 : n = 0 := by omega
          subst hn00
          have hx0 := List.eq_nil_of_length_eq_zero HN.out
          subst hx0
          clear hp dn dn2
          have HN0 : Hid ((0 : Nat) = 0) := Lib.hid rfl
          have HSOME := Lib.hid (HSO.out (by rw [HCV.out]; simp [HN0.out]))
          have X0 := Lib.hid (Box.later BX.out (Below.refl _ _))
          have Y0 := B2
          obtain ⟨l0, hl0⟩ : ∃ l : ByteArray, (⟨#[99, 114, 97, 115, 104]⟩ : ByteArray) = l := ⟨_, rfl⟩
          have hls0 : l0.size ≤ 10 := by rw [← hl0]; decide
          have HL0 : Hid (bl l0 = [99, 114, 97, 115, 104]) := Lib.hid (by rw [← hl0]; rfl)
          obtain ⟨u0, hu0⟩ : ∃ x, stB (Lib.itoa xa) = x := ⟨_, rfl⟩
          have hus0 : u0.size ≤ 300000 := by rw [← hu0, stB_size]; have := itoa_len r1; omega
          obtain ⟨p0, l1, P0, Q0, hl1, hls1⟩ := add_word l0 u0 10 hls0 hus0 (by omega)
          have HL1 := Lib.hid hl1
          have HU0 := Lib.hid hu0
          clear hl1 hu0
          have HBASE : Hid (bl l1 = [99, 114, 97, 115, 104] ++ jT [Lib.itoa xa]) := Lib.hid (by
            rw [HL1.out, HL0.out]
            rw [← HU0.out, bl_stB]
            try simp only [← jT_app, List.append_assoc]
            try rfl)
          have b0 := Below.refl w2.heap.size w2
          go_wp2_with fail
          refine (digits_at xa r1 u0 HU0.out _).mono ?_
          rintro e v0 ⟨rfl, b0'⟩
          have X1 := Lib.hid (X0.out.later b0')
          have Y1 := Lib.hid (Y0.out.trans (b0'.mono Y0.out.size))
          clear X0 Y0 b0' s0 s1 s2 s3 s4 s5 ls
          have s0 := X1.out.cell 0
          have s1 := X1.out.cell 1
          have s2 := X1.out.cell 2
          have s3 := X1.out.cell 3
          have s4 := X1.out.cell 4
          have s5 := X1.out.cell 5
          have ls := X1.out.lt
          go_wp2_with fail
          go_loopw [7, 8] (fun vl vi wr => ∃ (i : Nat) (l : ByteArray), i ≤ 0 ∧ vi = .int .i64 (i : Int) ∧ vl = .string l ∧ l.size ≤ 2000000 + 700000 * i ∧ Hid (bl l = bl l1 ++ jT (hdW ((([] : List (ByteArray × ByteArray)).take i).map hdB))) ∧ Hid (Box wr bx #[.int .i64 7, .int .i64 xa, .int .i64 0, .int .i64 0, .string xt, .slice ha 0 hc] 24) ∧ Hid (Below w.heap.size w wr)) (fun _ vi _ => 0 - (intOf vi).toNat)
          case atStart => exact ⟨0, l1, by omega, rfl, rfl, by omega, Lib.hid (by simp [hdW, jT, Lib.joinTail]), X1, Y1⟩
          case round =>
            obtain ⟨i, l, hi, rfl, rfl, hls, HL, XR, BR⟩ := hrel
            clear X1 Y1
            have s5 := XR.out.cell 5
            have ls := XR.out.lt
            obtain rfl : i = 0 := by omega
            have HF : Hid (lineS (spOf ⟨7, xa, 0, 0, xt, []⟩) = some (bl l)) := Lib.hid (by
              rw [HSOME.out, HL.out, HBASE.out, List.append_assoc, ← jT_app]
              rfl)
            clear HL
            go_wp2
            go_ret2
            exact ⟨BR.out, Or.inr ⟨l, HF.out, rfl⟩⟩
set_option maxHeartbeats 8000000 in
theorem lline_8 (x : Stp) (hk : x.k = 8) (hz : SzS x) (hrg : RgS x) (ha : Option Addr) (n hc : Nat) (hn : x.hs.length = n) (w : World) (hr : RdC w ha (hdV x.hs)) :
    Calls Tryd.prog 11 #[.agg (stA x.k x.a x.b x.c x.t ha n hc)] w (LwP x w) := by
  obtain ⟨xk, xa, xb, xc, xt, xh⟩ := x
  obtain ⟨hz1, hz2, hz3⟩ := hz
  obtain ⟨r1, r2, r3⟩ := hrg
  dsimp only at hk hz1 hz2 hz3 hn hr r1 r2 r3 ⊢
  subst hk
  have HZ3 := Lib.hid hz3
  have HN := Lib.hid hn
  have HR := Lib.hid hr
  have hn2 : n ≤ 100000 := by omega
  have hn3 : n ≤ 9223372036854775807 := by omega
  have HFM : (⟨8, [102, 97, 117, 108, 116], 2, false, false⟩ : Fm) ∈ fms := by decide
  have HSO : Hid (covB ⟨8, [102, 97, 117, 108, 116], 2, false, false⟩ (spOf ⟨8, xa, xb, xc, xt, xh⟩) = true → _) := Lib.hid (fun h => lineK HFM rfl h)
  have HNO : Hid (covB ⟨8, [102, 97, 117, 108, 116], 2, false, false⟩ (spOf ⟨8, xa, xb, xc, xt, xh⟩) = false → _) := Lib.hid (fun h => lineK_no HFM rfl h)
  have HFM2 := Lib.hid HFM
  clear hn hz2 hz3 hr HFM
  unfold stA
  unfold LwP
  have dn : decide ((n : Int) > 0) = decide (0 < n) := by rw [Bool.eq_iff_iff, decide_eq_true_iff, decide_eq_true_iff]; omega
  have dn2 : decide ((0 : Int) < n) = decide (0 < n) := by rw [Bool.eq_iff_iff, decide_eq_true_iff, decide_eq_true_iff]; omega
  obtain ⟨et, het⟩ : ∃ b, xt.toList.isEmpty = b := ⟨_, rfl⟩
  have HCV : Hid (covB ⟨8, [102, 97, 117, 108, 116], 2, false, false⟩ (spOf ⟨8, xa, xb, xc, xt, xh⟩) = ((([xa, xb, xc] : List Int).drop 2).all (fun v => v == 0) && ((false || et) && (false || decide (n = 0))))) := Lib.hid (by
    unfold covB numsS spOf
    dsimp only
    rw [← het, str_empty]
    congr 3
    rw [← HN.out, List.isEmpty_map]
    cases xh <;> simp)
  go_enter Tryd.func11, Tryd.ntmps11
  go_upto_region 1 with fail
  refine code_forget (fun W => Hid (Box W w.heap.size #[.int .i64 8, .int .i64 xa, .int .i64 xb, .int .i64 xc, .string xt, .slice ha n hc] 24) ∧ Hid (Below w.heap.size w W)) ⟨Lib.hid (Box.new w _ _), Lib.hid ((Below.refl w.heap.size w).alloc (Nat.le_refl _) _)⟩ ?_
  rintro w1 ⟨BX, B1⟩
  obtain ⟨bx, hbx⟩ : ∃ b, w.heap.size = b := ⟨_, rfl⟩
  rw [hbx] at BX ⊢
  clear hbx
  have s0 := BX.out.cell 0
  have s1 := BX.out.cell 1
  have s2 := BX.out.cell 2
  have s3 := BX.out.cell 3
  have s4 := BX.out.cell 4
  have s5 := BX.out.cell 5
  have ls := BX.out.lt
  have BA := Box.new w1 #[.string ⟨#[]⟩, .string ⟨#[97, 100, 100]⟩, .string ⟨#[99, 108, 111, 99, 107]⟩, .string ⟨#[112, 111, 108, 108]⟩, .string ⟨#[97, 110, 115, 119, 101, 114]⟩, .string ⟨#[108, 111, 115, 116]⟩, .string ⟨#[99, 97, 110, 99, 101, 108]⟩, .string ⟨#[99, 114, 97, 115, 104]⟩, .string ⟨#[102, 97, 117, 108, 116]⟩] 9
  have BB := Box.new (w1.alloc (.cells #[.string ⟨#[]⟩, .string ⟨#[97, 100, 100]⟩, .string ⟨#[99, 108, 111, 99, 107]⟩, .string ⟨#[112, 111, 108, 108]⟩, .string ⟨#[97, 110, 115, 119, 101, 114]⟩, .string ⟨#[108, 111, 115, 116]⟩, .string ⟨#[99, 97, 110, 99, 101, 108]⟩, .string ⟨#[99, 114, 97, 115, 104]⟩, .string ⟨#[102, 97, 117, 108, 116]⟩] 9)) #[.int .i64 0, .int .i64 2, .int .i64 1, .int .i64 0, .int .i64 3, .int .i64 3, .int .i64 1, .int .i64 1, .int .i64 2] 3
  rw [World.size_alloc] at BB
  go_upto_region 3 with fail
  refine code_forget (fun W => Hid (Box W bx #[.int .i64 8, .int .i64 xa, .int .i64 xb, .int .i64 xc, .string xt, .slice ha n hc] 24) ∧ Hid (Below w.heap.size w W) ∧ Hid (Box W w1.heap.size #[.string ⟨#[]⟩, .string ⟨#[97, 100, 100]⟩, .string ⟨#[99, 108, 111, 99, 107]⟩, .string ⟨#[112, 111, 108, 108]⟩, .string ⟨#[97, 110, 115, 119, 101, 114]⟩, .string ⟨#[108, 111, 115, 116]⟩, .string ⟨#[99, 97, 110, 99, 101, 108]⟩, .string ⟨#[99, 114, 97, 115, 104]⟩, .string ⟨#[102, 97, 117, 108, 116]⟩] 9) ∧ Hid (Box W (w1.heap.size + 1) #[.int .i64 0, .int .i64 2, .int .i64 1, .int .i64 0, .int .i64 3, .int .i64 3, .int .i64 1, .int .i64 1, .int .i64 2] 3)) ⟨Lib.hid ((BX.out.alloc _).alloc _), Lib.hid ((B1.out.alloc B1.out.size _).alloc (by have := B1.out.size; simp; omega) _), Lib.hid (BA.alloc _), Lib.hid BB⟩ ?_
  clear BA BB BX B1 s0 s1 s2 s3 s4 s5 ls
  obtain ⟨g1, hg1⟩ : ∃ g, w1.heap.size = g := ⟨_, rfl⟩
  rw [hg1]
  clear hg1
  obtain ⟨g2, hg2⟩ : ∃ g, g1 + 1 = g := ⟨_, rfl⟩
  rw [hg2]
  clear hg2
  rintro w2 ⟨BX, B2, BA, BB⟩
  have s0 := BX.out.cell 0
  have s1 := BX.out.cell 1
  have s2 := BX.out.cell 2
  have s3 := BX.out.cell 3
  have s4 := BX.out.cell 4
  have s5 := BX.out.cell 5
  have ls := BX.out.lt
  have ca := BA.out.cell 8
  have la := BA.out.lt
  have cb := BB.out.cell 8
  have lb := BB.out.lt
  by_cases hzxc : xc ≠ 0
  · have dz : (xc != 0) = true := by simpa using hzxc
    have HF := Lib.hid (HNO.out (by rw [HCV.out]; simp [hzxc]))
    go_wp2
    go_ret2
    exact ⟨B2.out, Or.inl ⟨HF.out, rfl⟩⟩
  · have hzxc : xc = 0 := Classical.not_not.1 hzxc
    subst hzxc
    cases et with
    | false =>
      have HF := Lib.hid (HNO.out (by rw [HCV.out]; simp))
      go_wp2
      go_ret2
      exact ⟨B2.out, Or.inl ⟨HF.out, rfl⟩⟩
    | true =>
      by_cases hp : 0 < n
      · have dp : decide (0 < n) = true := decide_eq_true hp
        have hn0 : n ≠ 0 := by omega
        rw [dp] at dn dn2
        clear dp
        have HF := Lib.hid (HNO.out (by rw [HCV.out]; simp [hn0]))
        go_wp2
        go_ret2
        exact ⟨B2.out, Or.inl ⟨HF.out, rfl⟩⟩
      · have hn00 : n = 0 := by omega
        subst hn00
        have hx0 := List.eq_nil_of_length_eq_zero HN.out
        subst hx0
        clear hp dn dn2
        have HN0 : Hid ((0 : Nat) = 0) := Lib.hid rfl
        have HSOME := Lib.hid (HSO.out (by rw [HCV.out]; simp [HN0.out]))
        have X0 := Lib.hid (Box.later BX.out (Below.refl _ _))
        have Y0 := B2
        obtain ⟨l0, hl0⟩ : ∃ l : ByteArray, (⟨#[102, 97, 117, 108, 116]⟩ : ByteArray) = l := ⟨_, rfl⟩
        have hls0 : l0.size ≤ 10 := by rw [← hl0]; decide
        have HL0 : Hid (bl l0 = [102, 97, 117, 108, 116]) := Lib.hid (by rw [← hl0]; rfl)
        obtain ⟨u0, hu0⟩ : ∃ x, stB (Lib.itoa xa) = x := ⟨_, rfl⟩
        have hus0 : u0.size ≤ 300000 := by rw [← hu0, stB_size]; have := itoa_len r1; omega
        obtain ⟨p0, l1, P0, Q0, hl1, hls1⟩ := add_word l0 u0 10 hls0 hus0 (by omega)
        have HL1 := Lib.hid hl1
        have HU0 := Lib.hid hu0
        clear hl1 hu0
        obtain ⟨u1, hu1⟩ : ∃ x, stB (Lib.itoa xb) = x := ⟨_, rfl⟩
        have hus1 : u1.size ≤ 300000 := by rw [← hu1, stB_size]; have := itoa_len r2; omega
        obtain ⟨p1, l2, P1, Q1, hl2, hls2⟩ := add_word l1 u1 300011 hls1 hus1 (by omega)
        have HL2 := Lib.hid hl2
        have HU1 := Lib.hid hu1
        clear hl2 hu1
        have HBASE : Hid (bl l2 = [102, 97, 117, 108, 116] ++ jT [Lib.itoa xa, Lib.itoa xb]) := Lib.hid (by
          rw [HL2.out, HL1.out, HL0.out]
          rw [← HU0.out, bl_stB]
          rw [← HU1.out, bl_stB]
          try simp only [← jT_app, List.append_assoc]
          try rfl)
        have b0 := Below.refl w2.heap.size w2
        go_wp2_with fail
        refine (digits_at xa r1 u0 HU0.out _).mono ?_
        rintro e v0 ⟨rfl, b0'⟩
        have X1 := Lib.hid (X0.out.later b0')
        have Y1 := Lib.hid (Y0.out.trans (b0'.mono Y0.out.size))
        clear X0 Y0 b0' s0 s1 s2 s3 s4 s5 ls
        have s0 := X1.out.cell 0
        have s1 := X1.out.cell 1
        have s2 := X1.out.cell 2
        have s3 := X1.out.cell 3
        have s4 := X1.out.cell 4
        have s5 := X1.out.cell 5
        have ls := X1.out.lt
        go_wp2_with fail
        refine (digits_at xb r2 u1 HU1.out _).mono ?_
        rintro e v1 ⟨rfl, b1'⟩
        have X2 := Lib.hid (X1.out.later b1')
        have Y2 := Lib.hid (Y1.out.trans (b1'.mono Y1.out.size))
        clear X1 Y1 b1' s0 s1 s2 s3 s4 s5 ls
        have s0 := X2.out.cell 0
        have s1 := X2.out.cell 1
        have s2 := X2.out.cell 2
        have s3 := X2.out.cell 3
        have s4 := X2.out.cell 4
        have s5 := X2.out.cell 5
        have ls := X2.out.lt
        go_wp2_with fail
        go_loopw [7, 8] (fun vl vi wr => ∃ (i : Nat) (l : ByteArray), i ≤ 0 ∧ vi = .int .i64 (i : Int) ∧ vl = .string l ∧ l.size ≤ 2000000 + 700000 * i ∧ Hid (bl l = bl l2 ++ jT (hdW ((([] : List (ByteArray × ByteArray)).take i).map hdB))) ∧ Hid (Box wr bx #[.int .i64 8, .int .i64 xa, .int .i64 xb, .int .i64 0, .string xt, .slice ha 0 hc] 24) ∧ Hid (Below w.heap.size w wr)) (fun _ vi _ => 0 - (intOf vi).toNat)
        case atStart => exact ⟨0, l2, by omega, rfl, rfl, by omega, Lib.hid (by simp [hdW, jT, Lib.joinTail]), X2, Y2⟩
        case round =>
          obtain ⟨i, l, hi, rfl, rfl, hls, HL, XR, BR⟩ := hrel
          clear X2 Y2
          have s5 := XR.out.cell 5
          have ls := XR.out.lt
          obtain rfl : i = 0 := by omega
          have HF : Hid (lineS (spOf ⟨8, xa, xb, 0, xt, []⟩) = some (bl l)) := Lib.hid (by
            rw [HSOME.out, HL.out, HBASE.out, List.append_assoc, ← jT_app]
            rfl)
          clear HL
          go_wp2
          go_ret2
          exact ⟨BR.out, Or.inr ⟨l, HF.out, rfl⟩⟩
end Go.Proofs.YtmdaggcfnkacjaaDoor
