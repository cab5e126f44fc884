/- The law's size of a step. Written by gen_sam.py. -/
import Derived.Test.YtbfdklmljcdonaaDoorTlSam
namespace Go.Proofs.YtbfdklmljcdonaaDoor
open Go Go.RowKit
set_option linter.unusedVariables false
set_option linter.unusedSimpArgs false
set_option maxRecDepth 10000

def big : Nat := 140737488351232
def SzB (x : Stp) : Prop := x.t.size ≤ 140737488351232 ∧ x.hs.length ≤ 140737488351232 ∧ ∀ h ∈ x.hs, h.1.size ≤ 140737488351232 ∧ h.2.size ≤ 140737488351232
def szH (hs : List (ByteArray × ByteArray)) : Nat := (hs.map fun h => h.1.size + h.2.size + 4).sum
def szS (x : Stp) : Nat := x.t.size + szH x.hs
theorem szH_cons (h : ByteArray × ByteArray) (hs : List (ByteArray × ByteArray)) : szH (h :: hs) = h.1.size + h.2.size + 4 + szH hs := rfl
theorem szH_app (a b : List (ByteArray × ByteArray)) : szH (a ++ b) = szH a + szH b := by unfold szH; rw [List.map_append, List.sum_append]
theorem szH_len : ∀ hs : List (ByteArray × ByteArray), 4 * hs.length ≤ szH hs ∧ ∀ h ∈ hs, h.1.size + h.2.size ≤ szH hs
  | [] => ⟨by simp [szH], fun h hh => by cases hh⟩
  | h :: r => by
    obtain ⟨i1, i2⟩ := szH_len r
    rw [szH_cons]
    refine ⟨by rw [List.length_cons]; omega, fun q hq => ?_⟩
    rcases List.mem_cons.1 hq with rfl | hq
    · omega
    · have := i2 q hq
      omega
theorem szS_szS {x : Stp} (h : szS x ≤ 4000) : SzS x := by
  unfold szS at h
  obtain ⟨h1, h2⟩ := szH_len x.hs
  refine ⟨by omega, by omega, fun q hq => ?_⟩
  have := h2 q hq
  omega
theorem i64_in (n : Int) (h1 : -9223372036854775808 ≤ n) (h2 : n ≤ 9223372036854775807) : IntKind.i64.wrap n = n := by rw [IntKind.wrap_i64]; omega
theorem siz_b (v a b v2 : Nat) (hv : v < 3000) (ha : a ≤ 140737488351232) (hb : b ≤ 140737488351232) (h : v + (a + b + 4) = v2) :
    v2 ≤ 1000000000000000 ∧ IntKind.i64.wrap ((a : Int) + (b : Int)) = (a : Int) + (b : Int) ∧ IntKind.i64.wrap ((a : Int) + (b : Int) + 4) = (a : Int) + (b : Int) + 4 ∧ IntKind.i64.wrap ((v : Int) + ((a : Int) + (b : Int) + 4)) = (v2 : Int) := by
  refine ⟨by omega, ?_, ?_, ?_⟩
  · rw [i64_in _ (by omega) (by omega)]; try omega
  · rw [i64_in _ (by omega) (by omega)]; try omega
  · rw [i64_in _ (by omega) (by omega)]; try omega
def SizP (x : Stp) (w : World) (e : Ending) (w' : World) : Prop := ∃ v : Nat, e = .returned (.int .i64 (v : Int)) ∧ Below w.heap.size w w' ∧ v ≤ 1000000000000000 ∧ (v ≤ 2999 → v = szS x)
theorem SizP.mk' {x : Stp} {w : World} {e : Ending} {w' : World} (v : Nat) (h1 : e = .returned (.int .i64 (v : Int))) (h2 : Below w.heap.size w w') (h3 : v ≤ 1000000000000000) (h4 : v ≤ 2999 → v = szS x) : SizP x w e w' := ⟨v, h1, h2, h3, h4⟩
set_option maxHeartbeats 8000000 in
theorem size_at (x : Stp) (ha : Option Addr) (n hc : Nat) (hn : x.hs.length = n) (hz : SzB x) (w : World) (hrx : RdC w ha (hdV x.hs)) :
    Calls Tryd.prog 4 #[.agg (stA x.k x.a x.b x.c x.t ha n hc)] w (SizP x w) := by
  obtain ⟨xk, xa, xb, xc, xt, xh⟩ := x
  obtain ⟨z1, z2, z3⟩ := hz
  dsimp only at hn hrx z1 z2 z3 ⊢
  have HN := Lib.hid hn
  have RX := Lib.hid hrx
  have Z3 := Lib.hid z3
  have hnb : n ≤ 140737488351232 := by omega
  clear hn hrx z3 z2
  unfold stA
  have BX0 := Box.new w #[.int .i64 xk, .int .i64 xa, .int .i64 xb, .int .i64 xc, .string xt, .slice ha n hc] 26
  go_enter Tryd.func4, Tryd.ntmps4
  go_upto_region 1 with fail
  refine code_forget (fun W => Hid (Box W w.heap.size #[.int .i64 xk, .int .i64 xa, .int .i64 xb, .int .i64 xc, .string xt, .slice ha n hc] 26) ∧ Hid (Below w.heap.size w W)) ⟨Lib.hid BX0, Lib.hid ((Below.refl w.heap.size w).alloc (Nat.le_refl _) _)⟩ ?_
  clear BX0
  obtain ⟨ax, hax⟩ : ∃ b, w.heap.size = b := ⟨_, rfl⟩
  rintro w1 ⟨BX, B1⟩
  rw [hax] at BX ⊢
  clear hax
  have s4 := BX.out.cell 4
  have s5 := BX.out.cell 5
  have ls := BX.out.lt
  go_wp2_with fail
  go_loopw [3, 4] (fun vn vi wr => ∃ i v : Nat, i ≤ n ∧ vi = .int .i64 (i : Int) ∧ vn = .int .i64 (v : Int) ∧ v ≤ 1000000000000000 ∧ Hid (v = xt.size + szH (xh.take i)) ∧ Hid (Box wr ax #[.int .i64 xk, .int .i64 xa, .int .i64 xb, .int .i64 xc, .string xt, .slice ha n hc] 26) ∧ Hid (Below w.heap.size w wr)) (fun _ vi _ => n - (intOf vi).toNat)
  case atStart => exact ⟨0, xt.size, by omega, rfl, rfl, by omega, Lib.hid (by simp [szH]), BX, B1⟩
  case round =>
    obtain ⟨i, v, hi, rfl, rfl, hv, HV, XR, BR⟩ := hrel
    clear BX B1 s4 s5 ls
    have s5 := XR.out.cell 5
    have ls := XR.out.lt
    by_cases hlt : i < n
    · have hkd : decide ((i : Int) < (n : Int)) = true := decide_eq_true (by omega)
      by_cases hbg : v < 3000
      · have hkb : decide ((v : Int) < 3000) = true := decide_eq_true (by omega)
        obtain ⟨⟨h1, h2⟩, hv⟩ : ∃ v, xh[i]? = some v := ⟨xh[i]'(by have := HN.out; omega), List.getElem?_eq_getElem _⟩
        obtain ⟨p1, p2⟩ := hdV_at hv
        obtain ⟨q1, o1, e1', hc1⟩ := RX.out _ _ p1
        obtain ⟨q2, o2, e2', hc2⟩ := RX.out _ _ p2
        subst e1'
        injection e2' with e2'
        injection e2' with j1 j2 _
        subst j1 j2
        rw [← Nat.add_assoc] at hc2
        dsimp only at hc1 hc2
        have C1 := Lib.hid hc1
        have C2 := Lib.hid hc2
        obtain ⟨y1, y2⟩ := Z3.out _ (List.mem_of_getElem? hv)
        dsimp only at y1 y2
        have HV2 : Hid (v + (h1.size + h2.size + 4) = xt.size + szH (xh.take (i + 1))) := Lib.hid (by
          rw [List.take_add_one, hv, szH_app]
          show _ = _ + (_ + szH [(h1, h2)])
          rw [szH_cons]
          have := HV.out
          simp only [szH, List.map_nil, List.sum_nil] at this ⊢
          omega)
        obtain ⟨v2, hv2⟩ : ∃ v2, v + (h1.size + h2.size + 4) = v2 := ⟨_, rfl⟩
        rw [hv2] at HV2
        have hk0 : (0 : Int) ≤ (i : Int) := by omega
        have hk1 : (i : Int) < (n : Int) := by omega
        obtain ⟨hv2b, a1, a2, a3⟩ := siz_b v h1.size h2.size v2 hbg y1 y2 hv2
        clear hv p1 p2 hc1 hc2 hv2
        go_upto_region 5 with fail
        clear s5 ls
        refine wp_region_last 18 (fun w' => Box w' ax #[.int .i64 xk, .int .i64 xa, .int .i64 xb, .int .i64 xc, .string xt, .slice (some ⟨q1, o1, none⟩) n hc] 26 ∧ Below w.heap.size w w') (by kernel_rfl) (⟨XR.out.drew, BR.out.drew⟩) (fun hHeld hClosed => ?_)
        refine wpAnyL_take (i := 0) (v := ?_) rfl (by kernel_rfl) (by kernel_rfl) (by kernel_rfl) (by kernel_rfl) (fun _ _ _ h => h) (by kernel_rfl) hClosed (Or.inl ⟨by rfl, ?_⟩) hHeld (fun hClosed => ?_)
        rotate_left
        · intro wv hSw; go_simp; all_goals (with_reducible rfl)
        (try simp only [List.getElem_toArray, List.getElem_cons_zero, put_at, List.set])
        refine wpAnyL_take (i := 1) (v := ?_) rfl (by kernel_rfl) (by kernel_rfl) (by kernel_rfl) (by kernel_rfl) (fun _ _ _ h => h) (by kernel_rfl) hClosed (Or.inl ⟨by rfl, ?_⟩) hHeld (fun hClosed => ?_)
        rotate_left
        · intro wv hSw; go_simp; all_goals (with_reducible rfl)
        (try simp only [List.getElem_toArray, List.getElem_cons_succ, List.getElem_cons_zero, put_at, List.set])
        refine wpAnyL_take (i := 2) (v := ?_) rfl (by kernel_rfl) (by kernel_rfl) (by kernel_rfl) (by kernel_rfl) (fun _ _ _ h => h) (by kernel_rfl) hClosed (Or.inl ⟨by rfl, ?_⟩) hHeld (fun hClosed => ?_)
        rotate_left
        · intro wv hSw; have s5 := hSw.1.cell 5; have ls := hSw.1.lt; have c1 := (hSw.2.cell (World.block_lt_of_cell? _ _ C1.out)).trans C1.out; have c2 := (hSw.2.cell (World.block_lt_of_cell? _ _ C2.out)).trans C2.out; go_simp; all_goals (with_reducible rfl)
        (try simp only [List.getElem_toArray, List.getElem_cons_succ, List.getElem_cons_zero, put_at, List.set])
        refine wpAnyL_take (i := 3) (v := ?_) rfl (by kernel_rfl) (by kernel_rfl) (by kernel_rfl) (by kernel_rfl) (fun _ _ _ h => h) (by kernel_rfl) hClosed (Or.inl ⟨by rfl, ?_⟩) hHeld (fun hClosed => ?_)
        rotate_left
        · intro wv hSw; go_simp; all_goals (with_reducible rfl)
        (try simp only [List.getElem_toArray, List.getElem_cons_succ, List.getElem_cons_zero, put_at, List.set])
        refine wpAnyL_take (i := 4) (v := ?_) rfl (by kernel_rfl) (by kernel_rfl) (by kernel_rfl) (by kernel_rfl) (fun _ _ _ h => h) (by kernel_rfl) hClosed (Or.inl ⟨by rfl, ?_⟩) hHeld (fun hClosed => ?_)
        rotate_left
        · intro wv hSw; go_simp; all_goals (with_reducible rfl)
        (try simp only [List.getElem_toArray, List.getElem_cons_succ, List.getElem_cons_zero, put_at, List.set])
        refine wpAnyL_take (i := 5) (v := ?_) rfl (by kernel_rfl) (by kernel_rfl) (by kernel_rfl) (by kernel_rfl) (fun _ _ _ h => h) (by kernel_rfl) hClosed (Or.inl ⟨by rfl, ?_⟩) hHeld (fun hClosed => ?_)
        rotate_left
        · intro wv hSw; go_simp; all_goals (with_reducible rfl)
        (try simp only [List.getElem_toArray, List.getElem_cons_succ, List.getElem_cons_zero, put_at, List.set])
        refine wpAnyL_take (i := 6) (v := ?_) rfl (by kernel_rfl) (by kernel_rfl) (by kernel_rfl) (by kernel_rfl) (fun _ _ _ h => h) (by kernel_rfl) hClosed (Or.inl ⟨by rfl, ?_⟩) hHeld (fun hClosed => ?_)
        rotate_left
        · intro wv hSw; have s5 := hSw.1.cell 5; have ls := hSw.1.lt; have c1 := (hSw.2.cell (World.block_lt_of_cell? _ _ C1.out)).trans C1.out; have c2 := (hSw.2.cell (World.block_lt_of_cell? _ _ C2.out)).trans C2.out; go_simp; all_goals (with_reducible rfl)
        (try simp only [List.getElem_toArray, List.getElem_cons_succ, List.getElem_cons_zero, put_at, List.set])
        refine wpAnyL_take (i := 8) (v := ?_) rfl (by kernel_rfl) (by kernel_rfl) (by kernel_rfl) (by kernel_rfl) (fun _ _ _ h => h) (by kernel_rfl) hClosed (Or.inl ⟨by rfl, ?_⟩) hHeld (fun hClosed => ?_)
        rotate_left
        · intro wv hSw; go_simp; all_goals (with_reducible rfl)
        (try simp only [List.getElem_toArray, List.getElem_cons_succ, List.getElem_cons_zero, put_at, List.set])
        refine wpAnyL_take (i := 9) (v := ?_) rfl (by kernel_rfl) (by kernel_rfl) (by kernel_rfl) (by kernel_rfl) (fun _ _ _ h => h) (by kernel_rfl) hClosed (Or.inl ⟨by rfl, ?_⟩) hHeld (fun hClosed => ?_)
        rotate_left
        · intro wv hSw; have s5 := hSw.1.cell 5; have ls := hSw.1.lt; have c1 := (hSw.2.cell (World.block_lt_of_cell? _ _ C1.out)).trans C1.out; have c2 := (hSw.2.cell (World.block_lt_of_cell? _ _ C2.out)).trans C2.out; go_simp; all_goals (with_reducible rfl)
        (try simp only [List.getElem_toArray, List.getElem_cons_succ, List.getElem_cons_zero, put_at, List.set])
        refine wpAnyL_take (i := 10) (v := ?_) rfl (by kernel_rfl) (by kernel_rfl) (by kernel_rfl) (by kernel_rfl) (fun _ _ _ h => h) (by kernel_rfl) hClosed (Or.inl ⟨by rfl, ?_⟩) hHeld (fun hClosed => ?_)
        rotate_left
        · intro wv hSw; go_simp; all_goals (with_reducible rfl)
        (try simp only [List.getElem_toArray, List.getElem_cons_succ, List.getElem_cons_zero, put_at, List.set])
        refine wpAnyL_take (i := 11) (v := ?_) rfl (by kernel_rfl) (by kernel_rfl) (by kernel_rfl) (by kernel_rfl) (fun _ _ _ h => h) (by kernel_rfl) hClosed (Or.inl ⟨by rfl, ?_⟩) hHeld (fun hClosed => ?_)
        rotate_left
        · intro wv hSw; go_simp; all_goals (with_reducible rfl)
        (try simp only [List.getElem_toArray, List.getElem_cons_succ, List.getElem_cons_zero, put_at, List.set])
        refine wpAnyL_take (i := 12) (v := ?_) rfl (by kernel_rfl) (by kernel_rfl) (by kernel_rfl) (by kernel_rfl) (fun _ _ _ h => h) (by kernel_rfl) hClosed (Or.inl ⟨by rfl, ?_⟩) hHeld (fun hClosed => ?_)
        rotate_left
        · intro wv hSw; go_simp; all_goals (with_reducible rfl)
        (try simp only [List.getElem_toArray, List.getElem_cons_succ, List.getElem_cons_zero, put_at, List.set])
        refine wpAnyL_take (i := 13) (v := ?_) rfl (by kernel_rfl) (by kernel_rfl) (by kernel_rfl) (by kernel_rfl) (fun _ _ _ h => h) (by kernel_rfl) hClosed (Or.inl ⟨by rfl, ?_⟩) hHeld (fun hClosed => ?_)
        rotate_left
        · intro wv hSw; have s5 := hSw.1.cell 5; have ls := hSw.1.lt; have c1 := (hSw.2.cell (World.block_lt_of_cell? _ _ C1.out)).trans C1.out; have c2 := (hSw.2.cell (World.block_lt_of_cell? _ _ C2.out)).trans C2.out; go_simp; all_goals (with_reducible rfl)
        (try simp only [List.getElem_toArray, List.getElem_cons_succ, List.getElem_cons_zero, put_at, List.set])
        refine wpAnyL_two (i := 7) (j := 14) rfl rfl (by kernel_rfl) (by kernel_rfl) (by kernel_rfl) hClosed (fun KK hK => ?_) (fun KK hK => ?_)
        · go_simp
          refine hK.out _ _ ?_ (fun hClosed hHeld => ?_)
          · assumption
          clear hK KK
          (first | simp only [List.getElem_toArray, List.getElem_cons_succ, List.getElem_cons_zero, put_at, List.set] | (try simp only [put_at, List.set]))
          refine wpAnyL_one (i := 14) rfl (by kernel_rfl) (by kernel_rfl) hClosed (fun KK hK => ?_)
          go_simp
          refine hK.out _ _ ?_ (fun hClosed hHeld => ?_)
          · assumption
          clear hK KK
          (first | simp only [List.getElem_toArray, List.getElem_cons_succ, List.getElem_cons_zero, put_at, List.set] | (try simp only [put_at, List.set]))
          refine wpAnyL_take (i := 15) (v := ?_) rfl (by kernel_rfl) (by kernel_rfl) (by kernel_rfl) (by kernel_rfl) (fun _ _ _ h => h) (by kernel_rfl) hClosed (Or.inl ⟨by rfl, ?_⟩) hHeld (fun hClosed => ?_)
          rotate_left
          · intro wv hSw; go_simp; all_goals (with_reducible rfl)
          (try simp only [List.getElem_toArray, List.getElem_cons_succ, List.getElem_cons_zero, put_at, List.set])
          refine wpAnyL_take (i := 16) (v := ?_) rfl (by kernel_rfl) (by kernel_rfl) (by kernel_rfl) (by kernel_rfl) (fun _ _ _ h => h) (by kernel_rfl) hClosed (Or.inl ⟨by rfl, ?_⟩) hHeld (fun hClosed => ?_)
          rotate_left
          · intro wv hSw; go_simp; all_goals (with_reducible rfl)
          (try simp only [List.getElem_toArray, List.getElem_cons_succ, List.getElem_cons_zero, put_at, List.set])
          refine wpAnyL_take (i := 17) (v := ?_) rfl (by kernel_rfl) (by kernel_rfl) (by kernel_rfl) (by kernel_rfl) (fun _ _ _ h => h) (by kernel_rfl) hClosed (Or.inl ⟨by rfl, ?_⟩) hHeld (fun hClosed => ?_)
          rotate_left
          · intro wv hSw; go_simp; all_goals (with_reducible rfl)
          (try simp only [List.getElem_toArray, List.getElem_cons_succ, List.getElem_cons_zero, put_at, List.set])
          refine wpAnyL_last rfl (by kernel_rfl) (by kernel_rfl) (fun KK hK => ?_)
          go_simp
          refine hK.out _ _ ?_
          (try simp only [put_at, List.set])
          have XN := Lib.hid hHeld.1
          have BN := Lib.hid hHeld.2
          clear hHeld XR BR
          go_wp2
          go_roundw
          case rel => exact ⟨i + 1, v2, by omega, by go_num, rfl, hv2b, HV2, XN, BN⟩
          case measure => simp [intOf]; omega
        · go_simp
          refine hK.out _ _ ?_ (fun hClosed hHeld => ?_)
          · assumption
          clear hK KK
          (first | simp only [List.getElem_toArray, List.getElem_cons_succ, List.getElem_cons_zero, put_at, List.set] | (try simp only [put_at, List.set]))
          refine wpAnyL_one (i := 7) rfl (by kernel_rfl) (by kernel_rfl) hClosed (fun KK hK => ?_)
          go_simp
          refine hK.out _ _ ?_ (fun hClosed hHeld => ?_)
          · assumption
          clear hK KK
          (first | simp only [List.getElem_toArray, List.getElem_cons_succ, List.getElem_cons_zero, put_at, List.set] | (try simp only [put_at, List.set]))
          refine wpAnyL_take (i := 15) (v := ?_) rfl (by kernel_rfl) (by kernel_rfl) (by kernel_rfl) (by kernel_rfl) (fun _ _ _ h => h) (by kernel_rfl) hClosed (Or.inl ⟨by rfl, ?_⟩) hHeld (fun hClosed => ?_)
          rotate_left
          · intro wv hSw; go_simp; all_goals (with_reducible rfl)
          (try simp only [List.getElem_toArray, List.getElem_cons_succ, List.getElem_cons_zero, put_at, List.set])
          refine wpAnyL_take (i := 16) (v := ?_) rfl (by kernel_rfl) (by kernel_rfl) (by kernel_rfl) (by kernel_rfl) (fun _ _ _ h => h) (by kernel_rfl) hClosed (Or.inl ⟨by rfl, ?_⟩) hHeld (fun hClosed => ?_)
          rotate_left
          · intro wv hSw; go_simp; all_goals (with_reducible rfl)
          (try simp only [List.getElem_toArray, List.getElem_cons_succ, List.getElem_cons_zero, put_at, List.set])
          refine wpAnyL_take (i := 17) (v := ?_) rfl (by kernel_rfl) (by kernel_rfl) (by kernel_rfl) (by kernel_rfl) (fun _ _ _ h => h) (by kernel_rfl) hClosed (Or.inl ⟨by rfl, ?_⟩) hHeld (fun hClosed => ?_)
          rotate_left
          · intro wv hSw; go_simp; all_goals (with_reducible rfl)
          (try simp only [List.getElem_toArray, List.getElem_cons_succ, List.getElem_cons_zero, put_at, List.set])
          refine wpAnyL_last rfl (by kernel_rfl) (by kernel_rfl) (fun KK hK => ?_)
          go_simp
          refine hK.out _ _ ?_
          (try simp only [put_at, List.set])
          have XN := Lib.hid hHeld.1
          have BN := Lib.hid hHeld.2
          clear hHeld XR BR
          go_wp2
          go_roundw
          case rel => exact ⟨i + 1, v2, by omega, by go_num, rfl, hv2b, HV2, XN, BN⟩
          case measure => simp [intOf]; omega
      · have hkb : decide ((v : Int) < 3000) = false := decide_eq_false (by omega)
        go_wp2
        go_ret
        exact SizP.mk' v rfl BR.out hv (fun h => by omega)
    · have hkd : decide ((i : Int) < (n : Int)) = false := decide_eq_false (by omega)
      have HF : Hid (v = szS ⟨xk, xa, xb, xc, xt, xh⟩) := Lib.hid (by rw [HV.out, List.take_of_length_le (by have := HN.out; omega)]; rfl)
      go_wp2
      go_ret
      exact SizP.mk' v rfl BR.out hv (fun _ => HF.out)
end Go.Proofs.YtbfdklmljcdonaaDoor
