/- The law's comparison of steps, and the size of one. Written by gen_sam.py. -/
import Derived.Test.YtbfdklmljcdonaaDoorTlDig
import Derived.Laws.StructEq
namespace Go.Proofs.YtbfdklmljcdonaaDoor
open Go Go.RowKit
set_option linter.unusedVariables false
set_option linter.unusedSimpArgs false
set_option maxRecDepth 10000

theorem hdr_ne (a b c d : ByteArray) (w : World) : (binOp .neq 36 (.agg #[.string a, .string b]) (.agg #[.string c, .string d])).run Tryd.prog w = .ok (.bool (!(a.toList == c.toList && b.toList == d.toList))) w := by
  have ht : Tryd.prog.underlying 36 = some (.struct (Tryd.prog.fieldsOf 36)) := by kernel_rfl
  have hp : Tryd.prog.stoodInHeld 36 = false := by kernel_rfl
  have _hm : Tryd.prog.eqGuardType Tryd.prog.depth 36 = false := by kernel_rfl
  have hE : ∀ w, (Op.equalIn 10000 36 (.agg #[.string a, .string b]) (.agg #[.string c, .string d])).run Tryd.prog w = .ok (a.toList == c.toList && b.toList == d.toList) w := fun w => by
    rw [run_equalIn_agg w 9999 _ _ _ ht hp]
    simp only [Program.fieldsOf, Tryd.underlying36]
    simp [go_sem, Tryd.underlying9]
    repeat' split
    all_goals simp_all
  first
    | (rw [run_neq_struct, hE]; rfl)
    | (unfold binOp; simp only [Sem.run_bind, hE, Result.andThen_ok, Sem.run_pure])
theorem bl_eq {a b : ByteArray} (h : bl a = bl b) : a = b := by rw [← stB_bl a, h, stB_bl]
theorem tl_iff (a b : ByteArray) : (a.toList == b.toList) = decide (a = b) := by
  rw [str_eq, Bool.eq_iff_iff, decide_eq_true_iff, decide_eq_true_iff]
  exact ⟨bl_eq, fun h => by rw [h]⟩
/-- The same step, seen through the pairs of texts. -/
theorem sp_eq {x y : Stp} : spOf x = spOf y ↔ x = y := by
  constructor
  · intro h
    obtain ⟨xk, xa, xb, xc, xt, xh⟩ := x
    obtain ⟨yk, ya, yb, yc, yt, yh⟩ := y
    unfold spOf at h
    injection h with h1 h2 h3 h4 h5 h6
    have h7 : xh = yh := by
      have inj : ∀ p q : ByteArray × ByteArray, hdB p = hdB q → p = q := fun p q e => by
        unfold hdB at e
        injection e with e1 e2
        exact Prod.ext (bl_eq e1) (bl_eq e2)
      clear h1 h2 h3 h4 h5
      induction xh generalizing yh with
      | nil => cases yh with
        | nil => rfl
        | cons q r => cases h6
      | cons p r ih => cases yh with
        | nil => cases h6
        | cons q r2 =>
          injection h6 with e1 e2
          rw [inj p q e1, ih r2 e2]
    dsimp only at h1 h2 h3 h4 h5
    rw [h1, h2, h3, h4, bl_eq h5, h7]
  · intro h
    rw [h]
def SamP (x y : Stp) (w : World) (e : Ending) (w' : World) : Prop := ∃ q : Bool, e = .returned (.bool q) ∧ (q = true ↔ x = y) ∧ Below w.heap.size w w'
theorem SamP.mk' {x y : Stp} {w : World} {e : Ending} {w' : World} (q : Bool) (h1 : e = .returned (.bool q)) (h2 : q = true ↔ x = y) (h3 : Below w.heap.size w w') : SamP x y w e w' := ⟨q, h1, h2, h3⟩
set_option maxHeartbeats 8000000 in
theorem same_at (x y : Stp) (ha hb : Option Addr) (n m hc hd : Nat) (hn : x.hs.length = n) (hm : y.hs.length = m) (hnb : n ≤ 3000000) (w : World) (hrx : RdC w ha (hdV x.hs)) (hry : RdC w hb (hdV y.hs)) :
    Calls Tryd.prog 7 #[.agg (stA x.k x.a x.b x.c x.t ha n hc), .agg (stA y.k y.a y.b y.c y.t hb m hd)] w (SamP x y w) := by
  obtain ⟨xk, xa, xb, xc, xt, xh⟩ := x
  obtain ⟨yk, ya, yb, yc, yt, yh⟩ := y
  dsimp only at hn hm hrx hry ⊢
  have HN := Lib.hid hn
  have HM := Lib.hid hm
  have RX := Lib.hid hrx
  have RY := Lib.hid hry
  clear hn hm hrx hry
  unfold stA
  have EQ := Lib.hid (show ((⟨xk, xa, xb, xc, xt, xh⟩ : Stp) = ⟨yk, ya, yb, yc, yt, yh⟩) ↔ (xk = yk ∧ xa = ya ∧ xb = yb ∧ xc = yc ∧ xt = yt ∧ xh = yh) from ⟨fun h => by injection h with h1 h2 h3 h4 h5 h6; exact ⟨h1, h2, h3, h4, h5, h6⟩, fun ⟨h1, h2, h3, h4, h5, h6⟩ => by rw [h1, h2, h3, h4, h5, h6]⟩)
  have BX0 := Box.new w #[.int .i64 xk, .int .i64 xa, .int .i64 xb, .int .i64 xc, .string xt, .slice ha n hc] 26
  have BY0 := Box.new (w.alloc (.cells #[.int .i64 xk, .int .i64 xa, .int .i64 xb, .int .i64 xc, .string xt, .slice ha n hc] 26)) #[.int .i64 yk, .int .i64 ya, .int .i64 yb, .int .i64 yc, .string yt, .slice hb m hd] 26
  rw [World.size_alloc] at BY0
  go_enter Tryd.func7, Tryd.ntmps7
  go_upto_region 1 with fail
  refine code_forget (fun W => Hid (Box W w.heap.size #[.int .i64 xk, .int .i64 xa, .int .i64 xb, .int .i64 xc, .string xt, .slice ha n hc] 26) ∧ Hid (Box W (w.heap.size + 1) #[.int .i64 yk, .int .i64 ya, .int .i64 yb, .int .i64 yc, .string yt, .slice hb m hd] 26) ∧ Hid (Below w.heap.size w W)) ⟨Lib.hid (BX0.alloc _), Lib.hid BY0, Lib.hid (((Below.refl w.heap.size w).alloc (Nat.le_refl _) _).alloc (by simp) _)⟩ ?_
  clear BX0 BY0
  obtain ⟨ax, hax⟩ : ∃ b, w.heap.size = b := ⟨_, rfl⟩
  obtain ⟨ay, hay⟩ : ∃ b, w.heap.size + 1 = b := ⟨_, rfl⟩
  rw [hay]
  rintro w1 ⟨BX, BY, B1⟩
  rw [hax] at BX ⊢
  clear hay hax
  have s0 := BX.out.cell 0
  have s1 := BX.out.cell 1
  have s2 := BX.out.cell 2
  have s3 := BX.out.cell 3
  have s4 := BX.out.cell 4
  have s5 := BX.out.cell 5
  have ls := BX.out.lt
  have r0 := BY.out.cell 0
  have r1 := BY.out.cell 1
  have r2 := BY.out.cell 2
  have r3 := BY.out.cell 3
  have r4 := BY.out.cell 4
  have r5 := BY.out.cell 5
  have lr := BY.out.lt
  by_cases hk : xk = yk
  rotate_left
  · have dz : (xk != yk) = true := by simpa using hk
    have HF : Hid (¬ ((⟨xk, xa, xb, xc, xt, xh⟩ : Stp) = ⟨yk, ya, yb, yc, yt, yh⟩)) := Lib.hid (fun h => hk (EQ.out.1 h).1)
    go_wp2
    go_ret
    exact SamP.mk' false rfl ⟨fun h => by (exact absurd h (by decide)), fun h => absurd h HF.out⟩ B1.out
  have dk : (xk != yk) = false := by simpa using hk
  have Hk := Lib.hid hk
  clear hk
  by_cases ha : xa = ya
  rotate_left
  · have dz : (xa != ya) = true := by simpa using ha
    have HF : Hid (¬ ((⟨xk, xa, xb, xc, xt, xh⟩ : Stp) = ⟨yk, ya, yb, yc, yt, yh⟩)) := Lib.hid (fun h => ha (EQ.out.1 h).2.1)
    go_wp2
    go_ret
    exact SamP.mk' false rfl ⟨fun h => by (exact absurd h (by decide)), fun h => absurd h HF.out⟩ B1.out
  have da : (xa != ya) = false := by simpa using ha
  have Ha := Lib.hid ha
  clear ha
  by_cases hb : xb = yb
  rotate_left
  · have dz : (xb != yb) = true := by simpa using hb
    have HF : Hid (¬ ((⟨xk, xa, xb, xc, xt, xh⟩ : Stp) = ⟨yk, ya, yb, yc, yt, yh⟩)) := Lib.hid (fun h => hb (EQ.out.1 h).2.2.1)
    go_wp2
    go_ret
    exact SamP.mk' false rfl ⟨fun h => by (exact absurd h (by decide)), fun h => absurd h HF.out⟩ B1.out
  have db : (xb != yb) = false := by simpa using hb
  have Hb := Lib.hid hb
  clear hb
  by_cases hc : xc = yc
  rotate_left
  · have dz : (xc != yc) = true := by simpa using hc
    have HF : Hid (¬ ((⟨xk, xa, xb, xc, xt, xh⟩ : Stp) = ⟨yk, ya, yb, yc, yt, yh⟩)) := Lib.hid (fun h => hc (EQ.out.1 h).2.2.2.1)
    go_wp2
    go_ret
    exact SamP.mk' false rfl ⟨fun h => by (exact absurd h (by decide)), fun h => absurd h HF.out⟩ B1.out
  have dc : (xc != yc) = false := by simpa using hc
  have Hc := Lib.hid hc
  clear hc
  by_cases ht : xt = yt
  rotate_left
  · have dz : (xt.toList == yt.toList) = false := by rw [tl_iff]; exact decide_eq_false ht
    have HF : Hid (¬ ((⟨xk, xa, xb, xc, xt, xh⟩ : Stp) = ⟨yk, ya, yb, yc, yt, yh⟩)) := Lib.hid (fun h => ht (EQ.out.1 h).2.2.2.2.1)
    go_wp2
    go_ret
    exact SamP.mk' false rfl ⟨fun h => by (exact absurd h (by decide)), fun h => absurd h HF.out⟩ B1.out
  have dt : (xt.toList == yt.toList) = true := by rw [tl_iff]; exact decide_eq_true ht
  have Ht := Lib.hid ht
  clear ht
  by_cases hl : n = m
  rotate_left
  · have dz : ((n : Int) != (m : Int)) = true := by rw [bne_iff_ne]; omega
    have HF : Hid (¬ ((⟨xk, xa, xb, xc, xt, xh⟩ : Stp) = ⟨yk, ya, yb, yc, yt, yh⟩)) := Lib.hid (fun h => hl (by rw [← HN.out, ← HM.out, (EQ.out.1 h).2.2.2.2.2]))
    go_wp2
    go_ret
    exact SamP.mk' false rfl ⟨fun h => by (exact absurd h (by decide)), fun h => absurd h HF.out⟩ B1.out
  subst hl
  go_wp2_with fail
  go_loopw [5] (fun vi wr => ∃ i : Nat, i ≤ n ∧ vi = .int .i64 (i : Int) ∧ Hid (xh.take i = yh.take i) ∧ Hid (Box wr ax #[.int .i64 xk, .int .i64 xa, .int .i64 xb, .int .i64 xc, .string xt, .slice ha n hc] 26) ∧ Hid (Box wr ay #[.int .i64 yk, .int .i64 ya, .int .i64 yb, .int .i64 yc, .string yt, .slice hb n hd] 26) ∧ Hid (Below w.heap.size w wr)) (fun vi _ => n - (intOf vi).toNat)
  case atStart => exact ⟨0, by omega, rfl, Lib.hid rfl, BX, BY, B1⟩
  case round =>
    obtain ⟨i, hi, rfl, HE, XR, YR, BR⟩ := hrel
    clear BX BY B1 s0 s1 s2 s3 s4 s5 ls r0 r1 r2 r3 r4 r5 lr
    have s5 := XR.out.cell 5
    have ls := XR.out.lt
    have r5 := YR.out.cell 5
    have lr := YR.out.lt
    by_cases hlt : i < n
    · have hkd : decide ((i : Int) < (n : Int)) = true := decide_eq_true (by omega)
      obtain ⟨⟨h1, h2⟩, hv⟩ : ∃ v, xh[i]? = some v := ⟨xh[i]'(by have := HN.out; omega), List.getElem?_eq_getElem _⟩
      obtain ⟨⟨k1, k2⟩, kv⟩ : ∃ v, yh[i]? = some v := ⟨yh[i]'(by have := HM.out; omega), List.getElem?_eq_getElem _⟩
      obtain ⟨p1, p2⟩ := hdV_at hv
      obtain ⟨u1, u2⟩ := hdV_at kv
      obtain ⟨q1, o1, e1', hc1⟩ := RX.out _ _ p1
      obtain ⟨q2, o2, e2', hc2⟩ := RX.out _ _ p2
      subst e1'
      injection e2' with e2'
      injection e2' with j1 j2 _
      subst j1 j2
      obtain ⟨q2, o2, e1', hd1⟩ := RY.out _ _ u1
      obtain ⟨q3, o3, e2', hd2⟩ := RY.out _ _ u2
      subst e1'
      injection e2' with e2'
      injection e2' with j1 j2 _
      subst j1 j2
      rw [← Nat.add_assoc] at hc2 hd2
      dsimp only at hc1 hc2 hd1 hd2
      have C1 := Lib.hid hc1
      have C2 := Lib.hid hc2
      have D1 := Lib.hid hd1
      have D2 := Lib.hid hd2
      have HV := Lib.hid hv
      have KV := Lib.hid kv
      have hk0 : (0 : Int) ≤ (i : Int) := by omega
      have hk1 : (i : Int) < (n : Int) := by omega
      have NE := Lib.hid (hdr_ne h1 h2 k1 k2)
      obtain ⟨q, hq⟩ : ∃ q, (h1.toList == k1.toList && h2.toList == k2.toList) = q := ⟨_, rfl⟩
      rw [hq] at NE
      have HQ : Hid (q = true ↔ (h1, h2) = (k1, k2)) := Lib.hid (by
        rw [← hq, tl_iff, tl_iff, Bool.and_eq_true, decide_eq_true_iff, decide_eq_true_iff]
        exact ⟨fun ⟨a, b⟩ => by rw [a, b], fun h => by injection h with a b; exact ⟨a, b⟩⟩)
      clear hv kv p1 p2 u1 u2 hc1 hc2 hd1 hd2 hq
      go_upto_region 6 with fail
      clear s5 ls r5 lr
      refine wp_region_last 10 (fun w' => Box w' ax #[.int .i64 xk, .int .i64 xa, .int .i64 xb, .int .i64 xc, .string xt, .slice (some ⟨q1, o1, none⟩) n hc] 26 ∧ Box w' ay #[.int .i64 yk, .int .i64 ya, .int .i64 yb, .int .i64 yc, .string yt, .slice (some ⟨q2, o2, none⟩) n hd] 26 ∧ Below w.heap.size w w') (by kernel_rfl) (⟨XR.out.drew, YR.out.drew, BR.out.drew⟩) (fun hHeld hClosed => ?_)
      refine wpAnyL_take (i := 0) (v := ?_) rfl (by kernel_rfl) (by kernel_rfl) (by kernel_rfl) (by kernel_rfl) (fun _ _ _ h => h) (by kernel_rfl) hClosed (Or.inl ⟨by rfl, ?_⟩) hHeld (fun hClosed => ?_)
      rotate_left
      · intro wv hSw; go_simp; all_goals (with_reducible rfl)
      (try simp only [List.getElem_toArray, List.getElem_cons_zero, put_at, List.set])
      refine wpAnyL_take (i := 1) (v := ?_) rfl (by kernel_rfl) (by kernel_rfl) (by kernel_rfl) (by kernel_rfl) (fun _ _ _ h => h) (by kernel_rfl) hClosed (Or.inl ⟨by rfl, ?_⟩) hHeld (fun hClosed => ?_)
      rotate_left
      · intro wv hSw; have s5 := hSw.1.cell 5; have ls := hSw.1.lt; have r5 := hSw.2.1.cell 5; have lr := hSw.2.1.lt; have c1 := (hSw.2.2.cell (World.block_lt_of_cell? _ _ C1.out)).trans C1.out; have c2 := (hSw.2.2.cell (World.block_lt_of_cell? _ _ C2.out)).trans C2.out; have d1 := (hSw.2.2.cell (World.block_lt_of_cell? _ _ D1.out)).trans D1.out; have d2 := (hSw.2.2.cell (World.block_lt_of_cell? _ _ D2.out)).trans D2.out; go_simp; all_goals (with_reducible rfl)
      (try simp only [List.getElem_toArray, List.getElem_cons_succ, List.getElem_cons_zero, put_at, List.set])
      refine wpAnyL_take (i := 2) (v := ?_) rfl (by kernel_rfl) (by kernel_rfl) (by kernel_rfl) (by kernel_rfl) (fun _ _ _ h => h) (by kernel_rfl) hClosed (Or.inl ⟨by rfl, ?_⟩) hHeld (fun hClosed => ?_)
      rotate_left
      · intro wv hSw; go_simp; all_goals (with_reducible rfl)
      (try simp only [List.getElem_toArray, List.getElem_cons_succ, List.getElem_cons_zero, put_at, List.set])
      refine wpAnyL_take (i := 3) (v := ?_) rfl (by kernel_rfl) (by kernel_rfl) (by kernel_rfl) (by kernel_rfl) (fun _ _ _ h => h) (by kernel_rfl) hClosed (Or.inl ⟨by rfl, ?_⟩) hHeld (fun hClosed => ?_)
      rotate_left
      · intro wv hSw; go_simp; all_goals (with_reducible rfl)
      (try simp only [List.getElem_toArray, List.getElem_cons_succ, List.getElem_cons_zero, put_at, List.set])
      refine wpAnyL_take (i := 4) (v := ?_) rfl (by kernel_rfl) (by kernel_rfl) (by kernel_rfl) (by kernel_rfl) (fun _ _ _ h => h) (by kernel_rfl) hClosed (Or.inl ⟨by rfl, ?_⟩) hHeld (fun hClosed => ?_)
      rotate_left
      · intro wv hSw; have s5 := hSw.1.cell 5; have ls := hSw.1.lt; have r5 := hSw.2.1.cell 5; have lr := hSw.2.1.lt; have c1 := (hSw.2.2.cell (World.block_lt_of_cell? _ _ C1.out)).trans C1.out; have c2 := (hSw.2.2.cell (World.block_lt_of_cell? _ _ C2.out)).trans C2.out; have d1 := (hSw.2.2.cell (World.block_lt_of_cell? _ _ D1.out)).trans D1.out; have d2 := (hSw.2.2.cell (World.block_lt_of_cell? _ _ D2.out)).trans D2.out; go_simp; all_goals (with_reducible rfl)
      (try simp only [List.getElem_toArray, List.getElem_cons_succ, List.getElem_cons_zero, put_at, List.set])
      refine wpAnyL_take (i := 5) (v := ?_) rfl (by kernel_rfl) (by kernel_rfl) (by kernel_rfl) (by kernel_rfl) (fun _ _ _ h => h) (by kernel_rfl) hClosed (Or.inl ⟨by rfl, ?_⟩) hHeld (fun hClosed => ?_)
      rotate_left
      · intro wv hSw; go_simp; all_goals (with_reducible rfl)
      (try simp only [List.getElem_toArray, List.getElem_cons_succ, List.getElem_cons_zero, put_at, List.set])
      refine wpAnyL_take (i := 6) (v := ?_) rfl (by kernel_rfl) (by kernel_rfl) (by kernel_rfl) (by kernel_rfl) (fun _ _ _ h => h) (by kernel_rfl) hClosed (Or.inl ⟨by rfl, ?_⟩) hHeld (fun hClosed => ?_)
      rotate_left
      · intro wv hSw; have s5 := hSw.1.cell 5; have ls := hSw.1.lt; have r5 := hSw.2.1.cell 5; have lr := hSw.2.1.lt; have c1 := (hSw.2.2.cell (World.block_lt_of_cell? _ _ C1.out)).trans C1.out; have c2 := (hSw.2.2.cell (World.block_lt_of_cell? _ _ C2.out)).trans C2.out; have d1 := (hSw.2.2.cell (World.block_lt_of_cell? _ _ D1.out)).trans D1.out; have d2 := (hSw.2.2.cell (World.block_lt_of_cell? _ _ D2.out)).trans D2.out; go_simp; all_goals (with_reducible rfl)
      (try simp only [List.getElem_toArray, List.getElem_cons_succ, List.getElem_cons_zero, put_at, List.set])
      refine wpAnyL_take (i := 7) (v := ?_) rfl (by kernel_rfl) (by kernel_rfl) (by kernel_rfl) (by kernel_rfl) (fun _ _ _ h => h) (by kernel_rfl) hClosed (Or.inl ⟨by rfl, ?_⟩) hHeld (fun hClosed => ?_)
      rotate_left
      · intro wv hSw; go_simp; all_goals (with_reducible rfl)
      (try simp only [List.getElem_toArray, List.getElem_cons_succ, List.getElem_cons_zero, put_at, List.set])
      refine wpAnyL_take (i := 8) (v := ?_) rfl (by kernel_rfl) (by kernel_rfl) (by kernel_rfl) (by kernel_rfl) (fun _ _ _ h => h) (by kernel_rfl) hClosed (Or.inl ⟨by rfl, ?_⟩) hHeld (fun hClosed => ?_)
      rotate_left
      · intro wv hSw; go_simp; all_goals (with_reducible rfl)
      (try simp only [List.getElem_toArray, List.getElem_cons_succ, List.getElem_cons_zero, put_at, List.set])
      refine wpAnyL_take (i := 9) (v := ?_) rfl (by kernel_rfl) (by kernel_rfl) (by kernel_rfl) (by kernel_rfl) (fun _ _ _ h => h) (by kernel_rfl) hClosed (Or.inl ⟨by rfl, ?_⟩) hHeld (fun hClosed => ?_)
      rotate_left
      · intro wv hSw; have s5 := hSw.1.cell 5; have ls := hSw.1.lt; have r5 := hSw.2.1.cell 5; have lr := hSw.2.1.lt; have c1 := (hSw.2.2.cell (World.block_lt_of_cell? _ _ C1.out)).trans C1.out; have c2 := (hSw.2.2.cell (World.block_lt_of_cell? _ _ C2.out)).trans C2.out; have d1 := (hSw.2.2.cell (World.block_lt_of_cell? _ _ D1.out)).trans D1.out; have d2 := (hSw.2.2.cell (World.block_lt_of_cell? _ _ D2.out)).trans D2.out; go_simp; all_goals (with_reducible rfl)
      (try simp only [List.getElem_toArray, List.getElem_cons_succ, List.getElem_cons_zero, put_at, List.set])
      refine wpAnyL_last rfl (by kernel_rfl) (by kernel_rfl) (fun KK hK => ?_)
      have NE0 := NE.out
      go_simp
      refine hK.out _ _ ?_
      (try simp only [put_at, List.set])
      have XN := Lib.hid hHeld.1
      have YN := Lib.hid hHeld.2.1
      have BN := Lib.hid hHeld.2.2
      clear hHeld XR YR BR
      cases q with
      | true =>
        have HE2 : Hid (xh.take (i + 1) = yh.take (i + 1)) := Lib.hid (by rw [List.take_add_one, List.take_add_one, HE.out, HV.out, KV.out, HQ.out.1 rfl])
        go_wp2
        go_roundw
        case rel => exact ⟨i + 1, by omega, by go_num, HE2, XN, YN, BN⟩
        case measure => simp [intOf]; omega
      | false =>
        have HF : Hid (¬ ((⟨xk, xa, xb, xc, xt, xh⟩ : Stp) = ⟨yk, ya, yb, yc, yt, yh⟩)) := Lib.hid (fun h => by have h6 := (EQ.out.1 h).2.2.2.2.2; have h7 := HV.out; rw [h6, KV.out] at h7; injection h7 with h7; exact absurd (HQ.out.2 h7.symm) (by decide))
        go_wp2
        go_ret
        exact SamP.mk' false rfl ⟨fun h => absurd h (by decide), fun h => absurd h HF.out⟩ BN.out
    · have hkd : decide ((i : Int) < (n : Int)) = false := decide_eq_false (by omega)
      have HT : Hid ((⟨xk, xa, xb, xc, xt, xh⟩ : Stp) = ⟨yk, ya, yb, yc, yt, yh⟩) := Lib.hid (EQ.out.2 ⟨Hk.out, Ha.out, Hb.out, Hc.out, Ht.out, by have h9 := HE.out; rw [List.take_of_length_le (by have := HN.out; omega), List.take_of_length_le (by have := HM.out; omega)] at h9; exact h9⟩)
      go_wp2
      go_ret
      exact SamP.mk' true rfl ⟨fun _ => HT.out, fun _ => rfl⟩ BR.out
end Go.Proofs.YtbfdklmljcdonaaDoor
