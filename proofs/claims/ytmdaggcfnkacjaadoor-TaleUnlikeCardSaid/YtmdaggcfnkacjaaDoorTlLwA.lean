/- The law's line of a step, some kinds. Written by gen_law.py. -/
import Derived.Test.YtmdaggcfnkacjaaDoorTlLwH
namespace Go.Proofs.YtmdaggcfnkacjaaDoor
open Go Go.RowKit
set_option linter.unusedVariables false
set_option linter.unusedSimpArgs false
set_option maxRecDepth 10000

set_option maxHeartbeats 8000000 in
theorem lline_1 (x : Stp) (hk : x.k = 1) (hz : SzS x) (hrg : RgS x) (ha : Option Addr) (n hc : Nat) (hn : x.hs.length = n) (w : World) (hr : RdC w ha (hdV x.hs)) :
    Calls Tryd.prog 11 #[.agg (stA x.k x.a x.b x.c x.t ha n hc)] w (LwP x w) := by
  obtain ⟨xk, xa, xb, xc, xt, xh⟩ := x
  obtain ⟨hz1, hz2, hz3⟩ := hz
  obtain ⟨r1, r2, r3⟩ := hrg
  dsimp only at hk hz1 hz2 hz3 hn hr r1 r2 r3 ⊢
  subst hk
  have HZ3 := Lib.hid hz3
  have HN := Lib.hid hn
  have HR := Lib.hid hr
  have hn2 : n ≤ 100000 := by omega
  have hn3 : n ≤ 9223372036854775807 := by omega
  have HFM : (⟨1, [97, 100, 100], 2, true, false⟩ : Fm) ∈ fms := by decide
  have HSO : Hid (covB ⟨1, [97, 100, 100], 2, true, false⟩ (spOf ⟨1, xa, xb, xc, xt, xh⟩) = true → _) := Lib.hid (fun h => lineK HFM rfl h)
  have HNO : Hid (covB ⟨1, [97, 100, 100], 2, true, false⟩ (spOf ⟨1, xa, xb, xc, xt, xh⟩) = false → _) := Lib.hid (fun h => lineK_no HFM rfl h)
  have HFM2 := Lib.hid HFM
  clear hn hz2 hz3 hr HFM
  unfold stA
  unfold LwP
  have dn : decide ((n : Int) > 0) = decide (0 < n) := by rw [Bool.eq_iff_iff, decide_eq_true_iff, decide_eq_true_iff]; omega
  have dn2 : decide ((0 : Int) < n) = decide (0 < n) := by rw [Bool.eq_iff_iff, decide_eq_true_iff, decide_eq_true_iff]; omega
  obtain ⟨et, het⟩ : ∃ b, xt.toList.isEmpty = b := ⟨_, rfl⟩
  have HCV : Hid (covB ⟨1, [97, 100, 100], 2, true, false⟩ (spOf ⟨1, xa, xb, xc, xt, xh⟩) = ((([xa, xb, xc] : List Int).drop 2).all (fun v => v == 0) && ((true || et) && (false || decide (n = 0))))) := Lib.hid (by
    unfold covB numsS spOf
    dsimp only
    rw [← het, str_empty]
    congr 3
    rw [← HN.out, List.isEmpty_map]
    cases xh <;> simp)
  go_enter Tryd.func11, Tryd.ntmps11
  go_upto_region 1 with fail
  refine code_forget (fun W => Hid (Box W w.heap.size #[.int .i64 1, .int .i64 xa, .int .i64 xb, .int .i64 xc, .string xt, .slice ha n hc] 24) ∧ Hid (Below w.heap.size w W)) ⟨Lib.hid (Box.new w _ _), Lib.hid ((Below.refl w.heap.size w).alloc (Nat.le_refl _) _)⟩ ?_
  rintro w1 ⟨BX, B1⟩
  obtain ⟨bx, hbx⟩ : ∃ b, w.heap.size = b := ⟨_, rfl⟩
  rw [hbx] at BX ⊢
  clear hbx
  have s0 := BX.out.cell 0
  have s1 := BX.out.cell 1
  have s2 := BX.out.cell 2
  have s3 := BX.out.cell 3
  have s4 := BX.out.cell 4
  have s5 := BX.out.cell 5
  have ls := BX.out.lt
  have BA := Box.new w1 #[.string ⟨#[]⟩, .string ⟨#[97, 100, 100]⟩, .string ⟨#[99, 108, 111, 99, 107]⟩, .string ⟨#[112, 111, 108, 108]⟩, .string ⟨#[97, 110, 115, 119, 101, 114]⟩, .string ⟨#[108, 111, 115, 116]⟩, .string ⟨#[99, 97, 110, 99, 101, 108]⟩, .string ⟨#[99, 114, 97, 115, 104]⟩, .string ⟨#[102, 97, 117, 108, 116]⟩] 9
  have BB := Box.new (w1.alloc (.cells #[.string ⟨#[]⟩, .string ⟨#[97, 100, 100]⟩, .string ⟨#[99, 108, 111, 99, 107]⟩, .string ⟨#[112, 111, 108, 108]⟩, .string ⟨#[97, 110, 115, 119, 101, 114]⟩, .string ⟨#[108, 111, 115, 116]⟩, .string ⟨#[99, 97, 110, 99, 101, 108]⟩, .string ⟨#[99, 114, 97, 115, 104]⟩, .string ⟨#[102, 97, 117, 108, 116]⟩] 9)) #[.int .i64 0, .int .i64 2, .int .i64 1, .int .i64 0, .int .i64 3, .int .i64 3, .int .i64 1, .int .i64 1, .int .i64 2] 3
  rw [World.size_alloc] at BB
  go_upto_region 3 with fail
  refine code_forget (fun W => Hid (Box W bx #[.int .i64 1, .int .i64 xa, .int .i64 xb, .int .i64 xc, .string xt, .slice ha n hc] 24) ∧ Hid (Below w.heap.size w W) ∧ Hid (Box W w1.heap.size #[.string ⟨#[]⟩, .string ⟨#[97, 100, 100]⟩, .string ⟨#[99, 108, 111, 99, 107]⟩, .string ⟨#[112, 111, 108, 108]⟩, .string ⟨#[97, 110, 115, 119, 101, 114]⟩, .string ⟨#[108, 111, 115, 116]⟩, .string ⟨#[99, 97, 110, 99, 101, 108]⟩, .string ⟨#[99, 114, 97, 115, 104]⟩, .string ⟨#[102, 97, 117, 108, 116]⟩] 9) ∧ Hid (Box W (w1.heap.size + 1) #[.int .i64 0, .int .i64 2, .int .i64 1, .int .i64 0, .int .i64 3, .int .i64 3, .int .i64 1, .int .i64 1, .int .i64 2] 3)) ⟨Lib.hid ((BX.out.alloc _).alloc _), Lib.hid ((B1.out.alloc B1.out.size _).alloc (by have := B1.out.size; simp; omega) _), Lib.hid (BA.alloc _), Lib.hid BB⟩ ?_
  clear BA BB BX B1 s0 s1 s2 s3 s4 s5 ls
  obtain ⟨g1, hg1⟩ : ∃ g, w1.heap.size = g := ⟨_, rfl⟩
  rw [hg1]
  clear hg1
  obtain ⟨g2, hg2⟩ : ∃ g, g1 + 1 = g := ⟨_, rfl⟩
  rw [hg2]
  clear hg2
  rintro w2 ⟨BX, B2, BA, BB⟩
  have s0 := BX.out.cell 0
  have s1 := BX.out.cell 1
  have s2 := BX.out.cell 2
  have s3 := BX.out.cell 3
  have s4 := BX.out.cell 4
  have s5 := BX.out.cell 5
  have ls := BX.out.lt
  have ca := BA.out.cell 1
  have la := BA.out.lt
  have cb := BB.out.cell 1
  have lb := BB.out.lt
  by_cases hzxc : xc ≠ 0
  · have dz : (xc != 0) = true := by simpa using hzxc
    have HF := Lib.hid (HNO.out (by rw [HCV.out]; simp [hzxc]))
    go_wp2
    go_ret2
    exact ⟨B2.out, Or.inl ⟨HF.out, rfl⟩⟩
  · have hzxc : xc = 0 := Classical.not_not.1 hzxc
    subst hzxc
    by_cases hp : 0 < n
    · have dp : decide (0 < n) = true := decide_eq_true hp
      have hn0 : n ≠ 0 := by omega
      rw [dp] at dn dn2
      clear dp
      have HF := Lib.hid (HNO.out (by rw [HCV.out]; simp [hn0]))
      clear hn0
      cases et <;> go_wp2 <;> go_ret2 <;> exact ⟨B2.out, Or.inl ⟨HF.out, rfl⟩⟩
    · have hn00 : n = 0 := by omega
      subst hn00
      have hx0 := List.eq_nil_of_length_eq_zero HN.out
      subst hx0
      clear hp dn dn2
      have HN0 : Hid ((0 : Nat) = 0) := Lib.hid rfl
      have HSOME := Lib.hid (HSO.out (by rw [HCV.out]; simp [HN0.out]))
      have X0 := Lib.hid (Box.later BX.out (Below.refl _ _))
      have Y0 := B2
      obtain ⟨l0, hl0⟩ : ∃ l : ByteArray, (⟨#[97, 100, 100]⟩ : ByteArray) = l := ⟨_, rfl⟩
      have hls0 : l0.size ≤ 10 := by rw [← hl0]; decide
      have HL0 : Hid (bl l0 = [97, 100, 100]) := Lib.hid (by rw [← hl0]; rfl)
      obtain ⟨u0, hu0⟩ : ∃ x, stB (Lib.itoa xa) = x := ⟨_, rfl⟩
      have hus0 : u0.size ≤ 300000 := by rw [← hu0, stB_size]; have := itoa_len r1; omega
      obtain ⟨p0, l1, P0, Q0, hl1, hls1⟩ := add_word l0 u0 10 hls0 hus0 (by omega)
      have HL1 := Lib.hid hl1
      have HU0 := Lib.hid hu0
      clear hl1 hu0
      obtain ⟨u1, hu1⟩ : ∃ x, stB (Lib.itoa xb) = x := ⟨_, rfl⟩
      have hus1 : u1.size ≤ 300000 := by rw [← hu1, stB_size]; have := itoa_len r2; omega
      obtain ⟨p1, l2, P1, Q1, hl2, hls2⟩ := add_word l1 u1 300011 hls1 hus1 (by omega)
      have HL2 := Lib.hid hl2
      have HU1 := Lib.hid hu1
      clear hl2 hu1
      obtain ⟨u2, hu2⟩ : ∃ x, stB (hexW (bl xt)) = x := ⟨_, rfl⟩
      have hus2 : u2.size ≤ 300000 := by rw [← hu2, stB_size]; unfold hexW; rw [List.length_cons, hexL_length, bl_len]; omega
      obtain ⟨p2, l3, P2, Q2, hl3, hls3⟩ := add_word l2 u2 600012 hls2 hus2 (by omega)
      have HL3 := Lib.hid hl3
      have HU2 := Lib.hid hu2
      clear hl3 hu2
      have HBASE : Hid (bl l3 = [97, 100, 100] ++ jT [Lib.itoa xa, Lib.itoa xb, hexW (bl xt)]) := Lib.hid (by
        rw [HL3.out, HL2.out, HL1.out, HL0.out]
        rw [← HU0.out, bl_stB]
        rw [← HU1.out, bl_stB]
        rw [← HU2.out, bl_stB]
        try simp only [← jT_app, List.append_assoc]
        try rfl)
      have b0 := Below.refl w2.heap.size w2
      go_wp2_with fail
      refine (digits_at xa r1 u0 HU0.out _).mono ?_
      rintro e v0 ⟨rfl, b0'⟩
      have X1 := Lib.hid (X0.out.later b0')
      have Y1 := Lib.hid (Y0.out.trans (b0'.mono Y0.out.size))
      clear X0 Y0 b0' s0 s1 s2 s3 s4 s5 ls
      have s0 := X1.out.cell 0
      have s1 := X1.out.cell 1
      have s2 := X1.out.cell 2
      have s3 := X1.out.cell 3
      have s4 := X1.out.cell 4
      have s5 := X1.out.cell 5
      have ls := X1.out.lt
      go_wp2_with fail
      refine (digits_at xb r2 u1 HU1.out _).mono ?_
      rintro e v1 ⟨rfl, b1'⟩
      have X2 := Lib.hid (X1.out.later b1')
      have Y2 := Lib.hid (Y1.out.trans (b1'.mono Y1.out.size))
      clear X1 Y1 b1' s0 s1 s2 s3 s4 s5 ls
      have s0 := X2.out.cell 0
      have s1 := X2.out.cell 1
      have s2 := X2.out.cell 2
      have s3 := X2.out.cell 3
      have s4 := X2.out.cell 4
      have s5 := X2.out.cell 5
      have ls := X2.out.lt
      go_wp2_with fail
      refine (hex_at xt u2 HU2.out hz1 _).mono ?_
      rintro e v2 ⟨rfl, b2'⟩
      have X3 := Lib.hid (X2.out.later b2')
      have Y3 := Lib.hid (Y2.out.trans (b2'.mono Y2.out.size))
      clear X2 Y2 b2' s0 s1 s2 s3 s4 s5 ls
      have s0 := X3.out.cell 0
      have s1 := X3.out.cell 1
      have s2 := X3.out.cell 2
      have s3 := X3.out.cell 3
      have s4 := X3.out.cell 4
      have s5 := X3.out.cell 5
      have ls := X3.out.lt
      go_wp2_with fail
      go_loopw [7, 8] (fun vl vi wr => ∃ (i : Nat) (l : ByteArray), i ≤ 0 ∧ vi = .int .i64 (i : Int) ∧ vl = .string l ∧ l.size ≤ 2000000 + 700000 * i ∧ Hid (bl l = bl l3 ++ jT (hdW ((([] : List (ByteArray × ByteArray)).take i).map hdB))) ∧ Hid (Box wr bx #[.int .i64 1, .int .i64 xa, .int .i64 xb, .int .i64 0, .string xt, .slice ha 0 hc] 24) ∧ Hid (Below w.heap.size w wr)) (fun _ vi _ => 0 - (intOf vi).toNat)
      case atStart => exact ⟨0, l3, by omega, rfl, rfl, by omega, Lib.hid (by simp [hdW, jT, Lib.joinTail]), X3, Y3⟩
      case round =>
        obtain ⟨i, l, hi, rfl, rfl, hls, HL, XR, BR⟩ := hrel
        clear X3 Y3
        have s5 := XR.out.cell 5
        have ls := XR.out.lt
        obtain rfl : i = 0 := by omega
        have HF : Hid (lineS (spOf ⟨1, xa, xb, 0, xt, []⟩) = some (bl l)) := Lib.hid (by
          rw [HSOME.out, HL.out, HBASE.out, List.append_assoc, ← jT_app]
          rfl)
        clear HL
        go_wp2
        go_ret2
        exact ⟨BR.out, Or.inr ⟨l, HF.out, rfl⟩⟩
set_option maxHeartbeats 8000000 in
theorem lline_2 (x : Stp) (hk : x.k = 2) (hz : SzS x) (hrg : RgS x) (ha : Option Addr) (n hc : Nat) (hn : x.hs.length = n) (w : World) (hr : RdC w ha (hdV x.hs)) :
    Calls Tryd.prog 11 #[.agg (stA x.k x.a x.b x.c x.t ha n hc)] w (LwP x w) := by
  obtain ⟨xk, xa, xb, xc, xt, xh⟩ := x
  obtain ⟨hz1, hz2, hz3⟩ := hz
  obtain ⟨r1, r2, r3⟩ := hrg
  dsimp only at hk hz1 hz2 hz3 hn hr r1 r2 r3 ⊢
  subst hk
  have HZ3 := Lib.hid hz3
  have HN := Lib.hid hn
  have HR := Lib.hid hr
  have hn2 : n ≤ 100000 := by omega
  have hn3 : n ≤ 9223372036854775807 := by omega
  have HFM : (⟨2, [99, 108, 111, 99, 107], 1, false, false⟩ : Fm) ∈ fms := by decide
  have HSO : Hid (covB ⟨2, [99, 108, 111, 99, 107], 1, false, false⟩ (spOf ⟨2, xa, xb, xc, xt, xh⟩) = true → _) := Lib.hid (fun h => lineK HFM rfl h)
  have HNO : Hid (covB ⟨2, [99, 108, 111, 99, 107], 1, false, false⟩ (spOf ⟨2, xa, xb, xc, xt, xh⟩) = false → _) := Lib.hid (fun h => lineK_no HFM rfl h)
  have HFM2 := Lib.hid HFM
  clear hn hz2 hz3 hr HFM
  unfold stA
  unfold LwP
  have dn : decide ((n : Int) > 0) = decide (0 < n) := by rw [Bool.eq_iff_iff, decide_eq_true_iff, decide_eq_true_iff]; omega
  have dn2 : decide ((0 : Int) < n) = decide (0 < n) := by rw [Bool.eq_iff_iff, decide_eq_true_iff, decide_eq_true_iff]; omega
  obtain ⟨et, het⟩ : ∃ b, xt.toList.isEmpty = b := ⟨_, rfl⟩
  have HCV : Hid (covB ⟨2, [99, 108, 111, 99, 107], 1, false, false⟩ (spOf ⟨2, xa, xb, xc, xt, xh⟩) = ((([xa, xb, xc] : List Int).drop 1).all (fun v => v == 0) && ((false || et) && (false || decide (n = 0))))) := Lib.hid (by
    unfold covB numsS spOf
    dsimp only
    rw [← het, str_empty]
    congr 3
    rw [← HN.out, List.isEmpty_map]
    cases xh <;> simp)
  go_enter Tryd.func11, Tryd.ntmps11
  go_upto_region 1 with fail
  refine code_forget (fun W => Hid (Box W w.heap.size #[.int .i64 2, .int .i64 xa, .int .i64 xb, .int .i64 xc, .string xt, .slice ha n hc] 24) ∧ Hid (Below w.heap.size w W)) ⟨Lib.hid (Box.new w _ _), Lib.hid ((Below.refl w.heap.size w).alloc (Nat.le_refl _) _)⟩ ?_
  rintro w1 ⟨BX, B1⟩
  obtain ⟨bx, hbx⟩ : ∃ b, w.heap.size = b := ⟨_, rfl⟩
  rw [hbx] at BX ⊢
  clear hbx
  have s0 := BX.out.cell 0
  have s1 := BX.out.cell 1
  have s2 := BX.out.cell 2
  have s3 := BX.out.cell 3
  have s4 := BX.out.cell 4
  have s5 := BX.out.cell 5
  have ls := BX.out.lt
  have BA := Box.new w1 #[.string ⟨#[]⟩, .string ⟨#[97, 100, 100]⟩, .string ⟨#[99, 108, 111, 99, 107]⟩, .string ⟨#[112, 111, 108, 108]⟩, .string ⟨#[97, 110, 115, 119, 101, 114]⟩, .string ⟨#[108, 111, 115, 116]⟩, .string ⟨#[99, 97, 110, 99, 101, 108]⟩, .string ⟨#[99, 114, 97, 115, 104]⟩, .string ⟨#[102, 97, 117, 108, 116]⟩] 9
  have BB := Box.new (w1.alloc (.cells #[.string ⟨#[]⟩, .string ⟨#[97, 100, 100]⟩, .string ⟨#[99, 108, 111, 99, 107]⟩, .string ⟨#[112, 111, 108, 108]⟩, .string ⟨#[97, 110, 115, 119, 101, 114]⟩, .string ⟨#[108, 111, 115, 116]⟩, .string ⟨#[99, 97, 110, 99, 101, 108]⟩, .string ⟨#[99, 114, 97, 115, 104]⟩, .string ⟨#[102, 97, 117, 108, 116]⟩] 9)) #[.int .i64 0, .int .i64 2, .int .i64 1, .int .i64 0, .int .i64 3, .int .i64 3, .int .i64 1, .int .i64 1, .int .i64 2] 3
  rw [World.size_alloc] at BB
  go_upto_region 3 with fail
  refine code_forget (fun W => Hid (Box W bx #[.int .i64 2, .int .i64 xa, .int .i64 xb, .int .i64 xc, .string xt, .slice ha n hc] 24) ∧ Hid (Below w.heap.size w W) ∧ Hid (Box W w1.heap.size #[.string ⟨#[]⟩, .string ⟨#[97, 100, 100]⟩, .string ⟨#[99, 108, 111, 99, 107]⟩, .string ⟨#[112, 111, 108, 108]⟩, .string ⟨#[97, 110, 115, 119, 101, 114]⟩, .string ⟨#[108, 111, 115, 116]⟩, .string ⟨#[99, 97, 110, 99, 101, 108]⟩, .string ⟨#[99, 114, 97, 115, 104]⟩, .string ⟨#[102, 97, 117, 108, 116]⟩] 9) ∧ Hid (Box W (w1.heap.size + 1) #[.int .i64 0, .int .i64 2, .int .i64 1, .int .i64 0, .int .i64 3, .int .i64 3, .int .i64 1, .int .i64 1, .int .i64 2] 3)) ⟨Lib.hid ((BX.out.alloc _).alloc _), Lib.hid ((B1.out.alloc B1.out.size _).alloc (by have := B1.out.size; simp; omega) _), Lib.hid (BA.alloc _), Lib.hid BB⟩ ?_
  clear BA BB BX B1 s0 s1 s2 s3 s4 s5 ls
  obtain ⟨g1, hg1⟩ : ∃ g, w1.heap.size = g := ⟨_, rfl⟩
  rw [hg1]
  clear hg1
  obtain ⟨g2, hg2⟩ : ∃ g, g1 + 1 = g := ⟨_, rfl⟩
  rw [hg2]
  clear hg2
  rintro w2 ⟨BX, B2, BA, BB⟩
  have s0 := BX.out.cell 0
  have s1 := BX.out.cell 1
  have s2 := BX.out.cell 2
  have s3 := BX.out.cell 3
  have s4 := BX.out.cell 4
  have s5 := BX.out.cell 5
  have ls := BX.out.lt
  have ca := BA.out.cell 2
  have la := BA.out.lt
  have cb := BB.out.cell 2
  have lb := BB.out.lt
  by_cases hzxc : xc ≠ 0
  · have dz : (xc != 0) = true := by simpa using hzxc
    have HF := Lib.hid (HNO.out (by rw [HCV.out]; simp [hzxc]))
    go_wp2
    go_ret2
    exact ⟨B2.out, Or.inl ⟨HF.out, rfl⟩⟩
  · have hzxc : xc = 0 := Classical.not_not.1 hzxc
    subst hzxc
    by_cases hzxb : xb ≠ 0
    · have dz : (xb != 0) = true := by simpa using hzxb
      have HF := Lib.hid (HNO.out (by rw [HCV.out]; simp [hzxb]))
      go_wp2
      go_ret2
      exact ⟨B2.out, Or.inl ⟨HF.out, rfl⟩⟩
    · have hzxb : xb = 0 := Classical.not_not.1 hzxb
      subst hzxb
      cases et with
      | false =>
        have HF := Lib.hid (HNO.out (by rw [HCV.out]; simp))
        go_wp2
        go_ret2
        exact ⟨B2.out, Or.inl ⟨HF.out, rfl⟩⟩
      | true =>
        by_cases hp : 0 < n
        · have dp : decide (0 < n) = true := decide_eq_true hp
          have hn0 : n ≠ 0 := by omega
          rw [dp] at dn dn2
          clear dp
          have HF := Lib.hid (HNO.out (by rw [HCV.out]; simp [hn0]))
          go_wp2
          go_ret2
          exact ⟨B2.out, Or.inl ⟨HF.out, rfl⟩⟩
        · have hn00 : n = 0 := by omega
          subst hn00
          have hx0 := List.eq_nil_of_length_eq_zero HN.out
          subst hx0
          clear hp dn dn2
          have HN0 : Hid ((0 : Nat) = 0) := Lib.hid rfl
          have HSOME := Lib.hid (HSO.out (by rw [HCV.out]; simp [HN0.out]))
          have X0 := Lib.hid (Box.later BX.out (Below.refl _ _))
          have Y0 := B2
          obtain ⟨l0, hl0⟩ : ∃ l : ByteArray, (⟨#[99, 108, 111, 99, 107]⟩ : ByteArray) = l := ⟨_, rfl⟩
          have hls0 : l0.size ≤ 10 := by rw [← hl0]; decide
          have HL0 : Hid (bl l0 = [99, 108, 111, 99, 107]) := Lib.hid (by rw [← hl0]; rfl)
          obtain ⟨u0, hu0⟩ : ∃ x, stB (Lib.itoa xa) = x := ⟨_, rfl⟩
          have hus0 : u0.size ≤ 300000 := by rw [← hu0, stB_size]; have := itoa_len r1; omega
          obtain ⟨p0, l1, P0, Q0, hl1, hls1⟩ := add_word l0 u0 10 hls0 hus0 (by omega)
          have HL1 := Lib.hid hl1
          have HU0 := Lib.hid hu0
          clear hl1 hu0
          have HBASE : Hid (bl l1 = [99, 108, 111, 99, 107] ++ jT [Lib.itoa xa]) := Lib.hid (by
            rw [HL1.out, HL0.out]
            rw [← HU0.out, bl_stB]
            try simp only [← jT_app, List.append_assoc]
            try rfl)
          have b0 := Below.refl w2.heap.size w2
          go_wp2_with fail
          refine (digits_at xa r1 u0 HU0.out _).mono ?_
          rintro e v0 ⟨rfl, b0'⟩
          have X1 := Lib.hid (X0.out.later b0')
          have Y1 := Lib.hid (Y0.out.trans (b0'.mono Y0.out.size))
          clear X0 Y0 b0' s0 s1 s2 s3 s4 s5 ls
          have s0 := X1.out.cell 0
          have s1 := X1.out.cell 1
          have s2 := X1.out.cell 2
          have s3 := X1.out.cell 3
          have s4 := X1.out.cell 4
          have s5 := X1.out.cell 5
          have ls := X1.out.lt
          go_wp2_with fail
          go_loopw [7, 8] (fun vl vi wr => ∃ (i : Nat) (l : ByteArray), i ≤ 0 ∧ vi = .int .i64 (i : Int) ∧ vl = .string l ∧ l.size ≤ 2000000 + 700000 * i ∧ Hid (bl l = bl l1 ++ jT (hdW ((([] : List (ByteArray × ByteArray)).take i).map hdB))) ∧ Hid (Box wr bx #[.int .i64 2, .int .i64 xa, .int .i64 0, .int .i64 0, .string xt, .slice ha 0 hc] 24) ∧ Hid (Below w.heap.size w wr)) (fun _ vi _ => 0 - (intOf vi).toNat)
          case atStart => exact ⟨0, l1, by omega, rfl, rfl, by omega, Lib.hid (by simp [hdW, jT, Lib.joinTail]), X1, Y1⟩
          case round =>
            obtain ⟨i, l, hi, rfl, rfl, hls, HL, XR, BR⟩ := hrel
            clear X1 Y1
            have s5 := XR.out.cell 5
            have ls := XR.out.lt
            obtain rfl : i = 0 := by omega
            have HF : Hid (lineS (spOf ⟨2, xa, 0, 0, xt, []⟩) = some (bl l)) := Lib.hid (by
              rw [HSOME.out, HL.out, HBASE.out, List.append_assoc, ← jT_app]
              rfl)
            clear HL
            go_wp2
            go_ret2
            exact ⟨BR.out, Or.inr ⟨l, HF.out, rfl⟩⟩
set_option maxHeartbeats 8000000 in
theorem lline_3 (x : Stp) (hk : x.k = 3) (hz : SzS x) (hrg : RgS x) (ha : Option Addr) (n hc : Nat) (hn : x.hs.length = n) (w : World) (hr : RdC w ha (hdV x.hs)) :
    Calls Tryd.prog 11 #[.agg (stA x.k x.a x.b x.c x.t ha n hc)] w (LwP x w) := by
  obtain ⟨xk, xa, xb, xc, xt, xh⟩ := x
  obtain ⟨hz1, hz2, hz3⟩ := hz
  obtain ⟨r1, r2, r3⟩ := hrg
  dsimp only at hk hz1 hz2 hz3 hn hr r1 r2 r3 ⊢
  subst hk
  have HZ3 := Lib.hid hz3
  have HN := Lib.hid hn
  have HR := Lib.hid hr
  have hn2 : n ≤ 100000 := by omega
  have hn3 : n ≤ 9223372036854775807 := by omega
  have HFM : (⟨3, [112, 111, 108, 108], 0, false, false⟩ : Fm) ∈ fms := by decide
  have HSO : Hid (covB ⟨3, [112, 111, 108, 108], 0, false, false⟩ (spOf ⟨3, xa, xb, xc, xt, xh⟩) = true → _) := Lib.hid (fun h => lineK HFM rfl h)
  have HNO : Hid (covB ⟨3, [112, 111, 108, 108], 0, false, false⟩ (spOf ⟨3, xa, xb, xc, xt, xh⟩) = false → _) := Lib.hid (fun h => lineK_no HFM rfl h)
  have HFM2 := Lib.hid HFM
  clear hn hz2 hz3 hr HFM
  unfold stA
  unfold LwP
  have dn : decide ((n : Int) > 0) = decide (0 < n) := by rw [Bool.eq_iff_iff, decide_eq_true_iff, decide_eq_true_iff]; omega
  have dn2 : decide ((0 : Int) < n) = decide (0 < n) := by rw [Bool.eq_iff_iff, decide_eq_true_iff, decide_eq_true_iff]; omega
  obtain ⟨et, het⟩ : ∃ b, xt.toList.isEmpty = b := ⟨_, rfl⟩
  have HCV : Hid (covB ⟨3, [112, 111, 108, 108], 0, false, false⟩ (spOf ⟨3, xa, xb, xc, xt, xh⟩) = ((([xa, xb, xc] : List Int).drop 0).all (fun v => v == 0) && ((false || et) && (false || decide (n = 0))))) := Lib.hid (by
    unfold covB numsS spOf
    dsimp only
    rw [← het, str_empty]
    congr 3
    rw [← HN.out, List.isEmpty_map]
    cases xh <;> simp)
  go_enter Tryd.func11, Tryd.ntmps11
  go_upto_region 1 with fail
  refine code_forget (fun W => Hid (Box W w.heap.size #[.int .i64 3, .int .i64 xa, .int .i64 xb, .int .i64 xc, .string xt, .slice ha n hc] 24) ∧ Hid (Below w.heap.size w W)) ⟨Lib.hid (Box.new w _ _), Lib.hid ((Below.refl w.heap.size w).alloc (Nat.le_refl _) _)⟩ ?_
  rintro w1 ⟨BX, B1⟩
  obtain ⟨bx, hbx⟩ : ∃ b, w.heap.size = b := ⟨_, rfl⟩
  rw [hbx] at BX ⊢
  clear hbx
  have s0 := BX.out.cell 0
  have s1 := BX.out.cell 1
  have s2 := BX.out.cell 2
  have s3 := BX.out.cell 3
  have s4 := BX.out.cell 4
  have s5 := BX.out.cell 5
  have ls := BX.out.lt
  have BA := Box.new w1 #[.string ⟨#[]⟩, .string ⟨#[97, 100, 100]⟩, .string ⟨#[99, 108, 111, 99, 107]⟩, .string ⟨#[112, 111, 108, 108]⟩, .string ⟨#[97, 110, 115, 119, 101, 114]⟩, .string ⟨#[108, 111, 115, 116]⟩, .string ⟨#[99, 97, 110, 99, 101, 108]⟩, .string ⟨#[99, 114, 97, 115, 104]⟩, .string ⟨#[102, 97, 117, 108, 116]⟩] 9
  have BB := Box.new (w1.alloc (.cells #[.string ⟨#[]⟩, .string ⟨#[97, 100, 100]⟩, .string ⟨#[99, 108, 111, 99, 107]⟩, .string ⟨#[112, 111, 108, 108]⟩, .string ⟨#[97, 110, 115, 119, 101, 114]⟩, .string ⟨#[108, 111, 115, 116]⟩, .string ⟨#[99, 97, 110, 99, 101, 108]⟩, .string ⟨#[99, 114, 97, 115, 104]⟩, .string ⟨#[102, 97, 117, 108, 116]⟩] 9)) #[.int .i64 0, .int .i64 2, .int .i64 1, .int .i64 0, .int .i64 3, .int .i64 3, .int .i64 1, .int .i64 1, .int .i64 2] 3
  rw [World.size_alloc] at BB
  go_upto_region 3 with fail
  refine code_forget (fun W => Hid (Box W bx #[.int .i64 3, .int .i64 xa, .int .i64 xb, .int .i64 xc, .string xt, .slice ha n hc] 24) ∧ Hid (Below w.heap.size w W) ∧ Hid (Box W w1.heap.size #[.string ⟨#[]⟩, .string ⟨#[97, 100, 100]⟩, .string ⟨#[99, 108, 111, 99, 107]⟩, .string ⟨#[112, 111, 108, 108]⟩, .string ⟨#[97, 110, 115, 119, 101, 114]⟩, .string ⟨#[108, 111, 115, 116]⟩, .string ⟨#[99, 97, 110, 99, 101, 108]⟩, .string ⟨#[99, 114, 97, 115, 104]⟩, .string ⟨#[102, 97, 117, 108, 116]⟩] 9) ∧ Hid (Box W (w1.heap.size + 1) #[.int .i64 0, .int .i64 2, .int .i64 1, .int .i64 0, .int .i64 3, .int .i64 3, .int .i64 1, .int .i64 1, .int .i64 2] 3)) ⟨Lib.hid ((BX.out.alloc _).alloc _), Lib.hid ((B1.out.alloc B1.out.size _).alloc (by have := B1.out.size; simp; omega) _), Lib.hid (BA.alloc _), Lib.hid BB⟩ ?_
  clear BA BB BX B1 s0 s1 s2 s3 s4 s5 ls
  obtain ⟨g1, hg1⟩ : ∃ g, w1.heap.size = g := ⟨_, rfl⟩
  rw [hg1]
  clear hg1
  obtain ⟨g2, hg2⟩ : ∃ g, g1 + 1 = g := ⟨_, rfl⟩
  rw [hg2]
  clear hg2
  rintro w2 ⟨BX, B2, BA, BB⟩
  have s0 := BX.out.cell 0
  have s1 := BX.out.cell 1
  have s2 := BX.out.cell 2
  have s3 := BX.out.cell 3
  have s4 := BX.out.cell 4
  have s5 := BX.out.cell 5
  have ls := BX.out.lt
  have ca := BA.out.cell 3
  have la := BA.out.lt
  have cb := BB.out.cell 3
  have lb := BB.out.lt
  by_cases hzxc : xc ≠ 0
  · have dz : (xc != 0) = true := by simpa using hzxc
    have HF := Lib.hid (HNO.out (by rw [HCV.out]; simp [hzxc]))
    go_wp2
    go_ret2
    exact ⟨B2.out, Or.inl ⟨HF.out, rfl⟩⟩
  · have hzxc : xc = 0 := Classical.not_not.1 hzxc
    subst hzxc
    by_cases hzxb : xb ≠ 0
    · have dz : (xb != 0) = true := by simpa using hzxb
      have HF := Lib.hid (HNO.out (by rw [HCV.out]; simp [hzxb]))
      go_wp2
      go_ret2
      exact ⟨B2.out, Or.inl ⟨HF.out, rfl⟩⟩
    · have hzxb : xb = 0 := Classical.not_not.1 hzxb
      subst hzxb
      by_cases hzxa : xa ≠ 0
      · have dz : (xa != 0) = true := by simpa using hzxa
        have HF := Lib.hid (HNO.out (by rw [HCV.out]; simp [hzxa]))
        go_wp2
        go_ret2
        exact ⟨B2.out, Or.inl ⟨HF.out, rfl⟩⟩
      · have hzxa : xa = 0 := Classical.not_not.1 hzxa
        subst hzxa
        cases et with
        | false =>
          have HF := Lib.hid (HNO.out (by rw [HCV.out]; simp))
          go_wp2
          go_ret2
          exact ⟨B2.out, Or.inl ⟨HF.out, rfl⟩⟩
        | true =>
          by_cases hp : 0 < n
          · have dp : decide (0 < n) = true := decide_eq_true hp
            have hn0 : n ≠ 0 := by omega
            rw [dp] at dn dn2
            clear dp
            have HF := Lib.hid (HNO.out (by rw [HCV.out]; simp [hn0]))
            go_wp2
            go_ret2
            exact ⟨B2.out, Or.inl ⟨HF.out, rfl⟩⟩
          · have hn00 : n = 0 := by omega
            subst hn00
            have hx0 := List.eq_nil_of_length_eq_zero HN.out
            subst hx0
            clear hp dn dn2
            have HN0 : Hid ((0 : Nat) = 0) := Lib.hid rfl
            have HSOME := Lib.hid (HSO.out (by rw [HCV.out]; simp [HN0.out]))
            have X0 := Lib.hid (Box.later BX.out (Below.refl _ _))
            have Y0 := B2
            obtain ⟨l0, hl0⟩ : ∃ l : ByteArray, (⟨#[112, 111, 108, 108]⟩ : ByteArray) = l := ⟨_, rfl⟩
            have hls0 : l0.size ≤ 10 := by rw [← hl0]; decide
            have HL0 : Hid (bl l0 = [112, 111, 108, 108]) := Lib.hid (by rw [← hl0]; rfl)
            have HBASE : Hid (bl l0 = [112, 111, 108, 108] ++ jT []) := Lib.hid (by
              rw [HL0.out]; rfl)
            go_wp2_with fail
            go_loopw [7, 8] (fun vl vi wr => ∃ (i : Nat) (l : ByteArray), i ≤ 0 ∧ vi = .int .i64 (i : Int) ∧ vl = .string l ∧ l.size ≤ 2000000 + 700000 * i ∧ Hid (bl l = bl l0 ++ jT (hdW ((([] : List (ByteArray × ByteArray)).take i).map hdB))) ∧ Hid (Box wr bx #[.int .i64 3, .int .i64 0, .int .i64 0, .int .i64 0, .string xt, .slice ha 0 hc] 24) ∧ Hid (Below w.heap.size w wr)) (fun _ vi _ => 0 - (intOf vi).toNat)
            case atStart => exact ⟨0, l0, by omega, rfl, rfl, by omega, Lib.hid (by simp [hdW, jT, Lib.joinTail]), X0, Y0⟩
            case round =>
              obtain ⟨i, l, hi, rfl, rfl, hls, HL, XR, BR⟩ := hrel
              clear X0 Y0
              have s5 := XR.out.cell 5
              have ls := XR.out.lt
              obtain rfl : i = 0 := by omega
              have HF : Hid (lineS (spOf ⟨3, 0, 0, 0, xt, []⟩) = some (bl l)) := Lib.hid (by
                rw [HSOME.out, HL.out, HBASE.out, List.append_assoc, ← jT_app]
                rfl)
              clear HL
              go_wp2
              go_ret2
              exact ⟨BR.out, Or.inr ⟨l, HF.out, rfl⟩⟩
set_option maxHeartbeats 8000000 in
theorem lline_5 (x : Stp) (hk : x.k = 5) (hz : SzS x) (hrg : RgS x) (ha : Option Addr) (n hc : Nat) (hn : x.hs.length = n) (w : World) (hr : RdC w ha (hdV x.hs)) :
    Calls Tryd.prog 11 #[.agg (stA x.k x.a x.b x.c x.t ha n hc)] w (LwP x w) := by
  obtain ⟨xk, xa, xb, xc, xt, xh⟩ := x
  obtain ⟨hz1, hz2, hz3⟩ := hz
  obtain ⟨r1, r2, r3⟩ := hrg
  dsimp only at hk hz1 hz2 hz3 hn hr r1 r2 r3 ⊢
  subst hk
  have HZ3 := Lib.hid hz3
  have HN := Lib.hid hn
  have HR := Lib.hid hr
  have hn2 : n ≤ 100000 := by omega
  have hn3 : n ≤ 9223372036854775807 := by omega
  have HFM : (⟨5, [108, 111, 115, 116], 3, false, false⟩ : Fm) ∈ fms := by decide
  have HSO : Hid (covB ⟨5, [108, 111, 115, 116], 3, false, false⟩ (spOf ⟨5, xa, xb, xc, xt, xh⟩) = true → _) := Lib.hid (fun h => lineK HFM rfl h)
  have HNO : Hid (covB ⟨5, [108, 111, 115, 116], 3, false, false⟩ (spOf ⟨5, xa, xb, xc, xt, xh⟩) = false → _) := Lib.hid (fun h => lineK_no HFM rfl h)
  have HFM2 := Lib.hid HFM
  clear hn hz2 hz3 hr HFM
  unfold stA
  unfold LwP
  have dn : decide ((n : Int) > 0) = decide (0 < n) := by rw [Bool.eq_iff_iff, decide_eq_true_iff, decide_eq_true_iff]; omega
  have dn2 : decide ((0 : Int) < n) = decide (0 < n) := by rw [Bool.eq_iff_iff, decide_eq_true_iff, decide_eq_true_iff]; omega
  obtain ⟨et, het⟩ : ∃ b, xt.toList.isEmpty = b := ⟨_, rfl⟩
  have HCV : Hid (covB ⟨5, [108, 111, 115, 116], 3, false, false⟩ (spOf ⟨5, xa, xb, xc, xt, xh⟩) = ((([xa, xb, xc] : List Int).drop 3).all (fun v => v == 0) && ((false || et) && (false || decide (n = 0))))) := Lib.hid (by
    unfold covB numsS spOf
    dsimp only
    rw [← het, str_empty]
    congr 3
    rw [← HN.out, List.isEmpty_map]
    cases xh <;> simp)
  go_enter Tryd.func11, Tryd.ntmps11
  go_upto_region 1 with fail
  refine code_forget (fun W => Hid (Box W w.heap.size #[.int .i64 5, .int .i64 xa, .int .i64 xb, .int .i64 xc, .string xt, .slice ha n hc] 24) ∧ Hid (Below w.heap.size w W)) ⟨Lib.hid (Box.new w _ _), Lib.hid ((Below.refl w.heap.size w).alloc (Nat.le_refl _) _)⟩ ?_
  rintro w1 ⟨BX, B1⟩
  obtain ⟨bx, hbx⟩ : ∃ b, w.heap.size = b := ⟨_, rfl⟩
  rw [hbx] at BX ⊢
  clear hbx
  have s0 := BX.out.cell 0
  have s1 := BX.out.cell 1
  have s2 := BX.out.cell 2
  have s3 := BX.out.cell 3
  have s4 := BX.out.cell 4
  have s5 := BX.out.cell 5
  have ls := BX.out.lt
  have BA := Box.new w1 #[.string ⟨#[]⟩, .string ⟨#[97, 100, 100]⟩, .string ⟨#[99, 108, 111, 99, 107]⟩, .string ⟨#[112, 111, 108, 108]⟩, .string ⟨#[97, 110, 115, 119, 101, 114]⟩, .string ⟨#[108, 111, 115, 116]⟩, .string ⟨#[99, 97, 110, 99, 101, 108]⟩, .string ⟨#[99, 114, 97, 115, 104]⟩, .string ⟨#[102, 97, 117, 108, 116]⟩] 9
  have BB := Box.new (w1.alloc (.cells #[.string ⟨#[]⟩, .string ⟨#[97, 100, 100]⟩, .string ⟨#[99, 108, 111, 99, 107]⟩, .string ⟨#[112, 111, 108, 108]⟩, .string ⟨#[97, 110, 115, 119, 101, 114]⟩, .string ⟨#[108, 111, 115, 116]⟩, .string ⟨#[99, 97, 110, 99, 101, 108]⟩, .string ⟨#[99, 114, 97, 115, 104]⟩, .string ⟨#[102, 97, 117, 108, 116]⟩] 9)) #[.int .i64 0, .int .i64 2, .int .i64 1, .int .i64 0, .int .i64 3, .int .i64 3, .int .i64 1, .int .i64 1, .int .i64 2] 3
  rw [World.size_alloc] at BB
  go_upto_region 3 with fail
  refine code_forget (fun W => Hid (Box W bx #[.int .i64 5, .int .i64 xa, .int .i64 xb, .int .i64 xc, .string xt, .slice ha n hc] 24) ∧ Hid (Below w.heap.size w W) ∧ Hid (Box W w1.heap.size #[.string ⟨#[]⟩, .string ⟨#[97, 100, 100]⟩, .string ⟨#[99, 108, 111, 99, 107]⟩, .string ⟨#[112, 111, 108, 108]⟩, .string ⟨#[97, 110, 115, 119, 101, 114]⟩, .string ⟨#[108, 111, 115, 116]⟩, .string ⟨#[99, 97, 110, 99, 101, 108]⟩, .string ⟨#[99, 114, 97, 115, 104]⟩, .string ⟨#[102, 97, 117, 108, 116]⟩] 9) ∧ Hid (Box W (w1.heap.size + 1) #[.int .i64 0, .int .i64 2, .int .i64 1, .int .i64 0, .int .i64 3, .int .i64 3, .int .i64 1, .int .i64 1, .int .i64 2] 3)) ⟨Lib.hid ((BX.out.alloc _).alloc _), Lib.hid ((B1.out.alloc B1.out.size _).alloc (by have := B1.out.size; simp; omega) _), Lib.hid (BA.alloc _), Lib.hid BB⟩ ?_
  clear BA BB BX B1 s0 s1 s2 s3 s4 s5 ls
  obtain ⟨g1, hg1⟩ : ∃ g, w1.heap.size = g := ⟨_, rfl⟩
  rw [hg1]
  clear hg1
  obtain ⟨g2, hg2⟩ : ∃ g, g1 + 1 = g := ⟨_, rfl⟩
  rw [hg2]
  clear hg2
  rintro w2 ⟨BX, B2, BA, BB⟩
  have s0 := BX.out.cell 0
  have s1 := BX.out.cell 1
  have s2 := BX.out.cell 2
  have s3 := BX.out.cell 3
  have s4 := BX.out.cell 4
  have s5 := BX.out.cell 5
  have ls := BX.out.lt
  have ca := BA.out.cell 5
  have la := BA.out.lt
  have cb := BB.out.cell 5
  have lb := BB.out.lt
  cases et with
  | false =>
    have HF := Lib.hid (HNO.out (by rw [HCV.out]; simp))
    go_wp2
    go_ret2
    exact ⟨B2.out, Or.inl ⟨HF.out, rfl⟩⟩
  | true =>
    by_cases hp : 0 < n
    · have dp : decide (0 < n) = true := decide_eq_true hp
      have hn0 : n ≠ 0 := by omega
      rw [dp] at dn dn2
      clear dp
      have HF := Lib.hid (HNO.out (by rw [HCV.out]; simp [hn0]))
      go_wp2
      go_ret2
      exact ⟨B2.out, Or.inl ⟨HF.out, rfl⟩⟩
    · have hn00 : n = 0 := by omega
      subst hn00
      have hx0 := List.eq_nil_of_length_eq_zero HN.out
      subst hx0
      clear hp dn dn2
      have HN0 : Hid ((0 : Nat) = 0) := Lib.hid rfl
      have HSOME := Lib.hid (HSO.out (by rw [HCV.out]; simp [HN0.out]))
      have X0 := Lib.hid (Box.later BX.out (Below.refl _ _))
      have Y0 := B2
      obtain ⟨l0, hl0⟩ : ∃ l : ByteArray, (⟨#[108, 111, 115, 116]⟩ : ByteArray) = l := ⟨_, rfl⟩
      have hls0 : l0.size ≤ 10 := by rw [← hl0]; decide
      have HL0 : Hid (bl l0 = [108, 111, 115, 116]) := Lib.hid (by rw [← hl0]; rfl)
      obtain ⟨u0, hu0⟩ : ∃ x, stB (Lib.itoa xa) = x := ⟨_, rfl⟩
      have hus0 : u0.size ≤ 300000 := by rw [← hu0, stB_size]; have := itoa_len r1; omega
      obtain ⟨p0, l1, P0, Q0, hl1, hls1⟩ := add_word l0 u0 10 hls0 hus0 (by omega)
      have HL1 := Lib.hid hl1
      have HU0 := Lib.hid hu0
      clear hl1 hu0
      obtain ⟨u1, hu1⟩ : ∃ x, stB (Lib.itoa xb) = x := ⟨_, rfl⟩
      have hus1 : u1.size ≤ 300000 := by rw [← hu1, stB_size]; have := itoa_len r2; omega
      obtain ⟨p1, l2, P1, Q1, hl2, hls2⟩ := add_word l1 u1 300011 hls1 hus1 (by omega)
      have HL2 := Lib.hid hl2
      have HU1 := Lib.hid hu1
      clear hl2 hu1
      obtain ⟨u2, hu2⟩ : ∃ x, stB (Lib.itoa xc) = x := ⟨_, rfl⟩
      have hus2 : u2.size ≤ 300000 := by rw [← hu2, stB_size]; have := itoa_len r3; omega
      obtain ⟨p2, l3, P2, Q2, hl3, hls3⟩ := add_word l2 u2 600012 hls2 hus2 (by omega)
      have HL3 := Lib.hid hl3
      have HU2 := Lib.hid hu2
      clear hl3 hu2
      have HBASE : Hid (bl l3 = [108, 111, 115, 116] ++ jT [Lib.itoa xa, Lib.itoa xb, Lib.itoa xc]) := Lib.hid (by
        rw [HL3.out, HL2.out, HL1.out, HL0.out]
        rw [← HU0.out, bl_stB]
        rw [← HU1.out, bl_stB]
        rw [← HU2.out, bl_stB]
        try simp only [← jT_app, List.append_assoc]
        try rfl)
      have b0 := Below.refl w2.heap.size w2
      go_wp2_with fail
      refine (digits_at xa r1 u0 HU0.out _).mono ?_
      rintro e v0 ⟨rfl, b0'⟩
      have X1 := Lib.hid (X0.out.later b0')
      have Y1 := Lib.hid (Y0.out.trans (b0'.mono Y0.out.size))
      clear X0 Y0 b0' s0 s1 s2 s3 s4 s5 ls
      have s0 := X1.out.cell 0
      have s1 := X1.out.cell 1
      have s2 := X1.out.cell 2
      have s3 := X1.out.cell 3
      have s4 := X1.out.cell 4
      have s5 := X1.out.cell 5
      have ls := X1.out.lt
      go_wp2_with fail
      refine (digits_at xb r2 u1 HU1.out _).mono ?_
      rintro e v1 ⟨rfl, b1'⟩
      have X2 := Lib.hid (X1.out.later b1')
      have Y2 := Lib.hid (Y1.out.trans (b1'.mono Y1.out.size))
      clear X1 Y1 b1' s0 s1 s2 s3 s4 s5 ls
      have s0 := X2.out.cell 0
      have s1 := X2.out.cell 1
      have s2 := X2.out.cell 2
      have s3 := X2.out.cell 3
      have s4 := X2.out.cell 4
      have s5 := X2.out.cell 5
      have ls := X2.out.lt
      go_wp2_with fail
      refine (digits_at xc r3 u2 HU2.out _).mono ?_
      rintro e v2 ⟨rfl, b2'⟩
      have X3 := Lib.hid (X2.out.later b2')
      have Y3 := Lib.hid (Y2.out.trans (b2'.mono Y2.out.size))
      clear X2 Y2 b2' s0 s1 s2 s3 s4 s5 ls
      have s0 := X3.out.cell 0
      have s1 := X3.out.cell 1
      have s2 := X3.out.cell 2
      have s3 := X3.out.cell 3
      have s4 := X3.out.cell 4
      have s5 := X3.out.cell 5
      have ls := X3.out.lt
      go_wp2_with fail
      go_loopw [7, 8] (fun vl vi wr => ∃ (i : Nat) (l : ByteArray), i ≤ 0 ∧ vi = .int .i64 (i : Int) ∧ vl = .string l ∧ l.size ≤ 2000000 + 700000 * i ∧ Hid (bl l = bl l3 ++ jT (hdW ((([] : List (ByteArray × ByteArray)).take i).map hdB))) ∧ Hid (Box wr bx #[.int .i64 5, .int .i64 xa, .int .i64 xb, .int .i64 xc, .string xt, .slice ha 0 hc] 24) ∧ Hid (Below w.heap.size w wr)) (fun _ vi _ => 0 - (intOf vi).toNat)
      case atStart => exact ⟨0, l3, by omega, rfl, rfl, by omega, Lib.hid (by simp [hdW, jT, Lib.joinTail]), X3, Y3⟩
      case round =>
        obtain ⟨i, l, hi, rfl, rfl, hls, HL, XR, BR⟩ := hrel
        clear X3 Y3
        have s5 := XR.out.cell 5
        have ls := XR.out.lt
        obtain rfl : i = 0 := by omega
        have HF : Hid (lineS (spOf ⟨5, xa, xb, xc, xt, []⟩) = some (bl l)) := Lib.hid (by
          rw [HSOME.out, HL.out, HBASE.out, List.append_assoc, ← jT_app]
          rfl)
        clear HL
        go_wp2
        go_ret2
        exact ⟨BR.out, Or.inr ⟨l, HF.out, rfl⟩⟩
end Go.Proofs.YtmdaggcfnkacjaaDoor
