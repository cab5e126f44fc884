/- Part of a chain: SrCmp, SrIns, SrSym, SrStb, SpKep. -/
import Derived.Test.YteinblpkcpjpnaaGreatDoorSc31
import Derived.Test.YteinblpkcpjpnaaGreatDoorSc32
/- Sorting records: their order. Written by gen_srcmp.py. -/
namespace Go.Proofs.YteinblpkcpjpnaaGreatDoor
open Go Go.RowKit
set_option linter.unusedVariables false
set_option linter.unusedSimpArgs false
set_option maxRecDepth 100000

def cmpE (a b : En) : Int := cmpPl a.p b.p
def ltE (a b : En) : Bool := decide (cmpE a b < 0)
theorem cmpE_at (a b : En) (w : World) : Calls Tryz.prog 74 #[.agg (enE a).toArray, .agg (enE b).toArray] w fun e w' => e = .returned (.int .i64 (cmpE a b)) ∧ Below w.heap.size w w' := by
  obtain ⟨x, hx⟩ : ∃ x, cmpI a.p.seg b.p.seg = x := ⟨_, rfl⟩
  obtain ⟨y, hy⟩ : ∃ y, cmpI a.p.off b.p.off = y := ⟨_, rfl⟩
  have HV : Hid (cmpE a b = orI x y) := Lib.hid (by rw [← hx, ← hy]; rfl)
  obtain ⟨v, hv⟩ : ∃ v, cmpE a b = v := ⟨_, rfl⟩
  rw [hv] at HV ⊢
  have C1 := Lib.hid (fun W => compare_at a.p.seg b.p.seg W)
  have C2 := Lib.hid (fun W => compare_at a.p.off b.p.off W)
  rw [hx] at C1
  rw [hy] at C2
  have CO := Lib.hid (fun g W h0 h1 => or_at x y g W h0 h1)
  clear hx hy hv
  obtain ⟨⟨x1, x2, x3⟩, xa, xn, xc, xb⟩ := a
  obtain ⟨⟨y1, y2, y3⟩, ya, yn, yc, yb⟩ := b
  dsimp only at *
  show Calls Tryz.prog 74 #[.agg #[.int .i64 x1, .int .i64 x2, .int .i64 x3, .slice xa xn xc], .agg #[.int .i64 y1, .int .i64 y2, .int .i64 y3, .slice ya yn yc]] w _
  go_enter Tryz.func74, Tryz.ntmps74
  go_upto_region 1 with fail
  refine code_forget (fun W => Hid (Box W w.heap.size #[.int .i64 x1, .int .i64 x2, .int .i64 x3, .slice xa xn xc] 125) ∧ Hid (Box W (w.heap.size + 1) #[.int .i64 y1, .int .i64 y2, .int .i64 y3, .slice ya yn yc] 125) ∧ Hid (Below w.heap.size w W)) ⟨Lib.hid ((Box.new w _ _).alloc _), Lib.hid (by have h9 := Box.new (w.alloc (.cells #[.int .i64 x1, .int .i64 x2, .int .i64 x3, .slice xa xn xc] 125)) #[.int .i64 y1, .int .i64 y2, .int .i64 y3, .slice ya yn yc] 125; rw [World.size_alloc] at h9; exact h9), Lib.hid (((Below.refl w.heap.size w).alloc (Nat.le_refl _) _).alloc (by simp) _)⟩ ?_
  obtain ⟨A, hA⟩ : ∃ A, w.heap.size = A := ⟨_, rfl⟩
  have HA := Lib.hid hA
  obtain ⟨G, hG⟩ : ∃ G, A + 1 = G := ⟨_, rfl⟩
  rw [hA, hG]
  rintro w1 ⟨BX, BY, BB⟩
  rw [← HA.out] at BB
  clear hA hG
  refine wp_region_last 16 (fun w' => Box w' A #[.int .i64 x1, .int .i64 x2, .int .i64 x3, .slice xa xn xc] 125 ∧ Box w' G #[.int .i64 y1, .int .i64 y2, .int .i64 y3, .slice ya yn yc] 125 ∧ Below w.heap.size w w') (by kernel_rfl) (⟨BX.out.drew, BY.out.drew, BB.out.drew⟩) (fun hHeld hClosed => ?_)
  refine wpAnyL_take (i := 0) (v := ?_) rfl (by kernel_rfl) (by kernel_rfl) (by kernel_rfl) (by kernel_rfl) (fun _ _ _ h => h) (by kernel_rfl) hClosed (Or.inl ⟨by rfl, ?_⟩) hHeld (fun hClosed => ?_)
  rotate_left
  · intro wv hSw; go_simp; all_goals (with_reducible rfl)
  (try simp only [List.getElem_toArray, List.getElem_cons_zero, put_at, List.set])
  refine wpAnyL_take (i := 1) (v := ?_) rfl (by kernel_rfl) (by kernel_rfl) (by kernel_rfl) (by kernel_rfl) (fun _ _ _ h => h) (by kernel_rfl) hClosed (Or.inl ⟨by rfl, ?_⟩) hHeld (fun hClosed => ?_)
  rotate_left
  · intro wv hSw; go_simp; all_goals (with_reducible rfl)
  (try simp only [List.getElem_toArray, List.getElem_cons_succ, List.getElem_cons_zero, put_at, List.set])
  refine wpAnyL_take (i := 2) (v := ?_) rfl (by kernel_rfl) (by kernel_rfl) (by kernel_rfl) (by kernel_rfl) (fun _ _ _ h => h) (by kernel_rfl) hClosed (Or.inl ⟨by rfl, ?_⟩) hHeld (fun hClosed => ?_)
  rotate_left
  · intro wv hSw; have a0 := hSw.1.cell 0; have a1 := hSw.1.cell 1; have b0 := hSw.2.1.cell 0; have b1 := hSw.2.1.cell 1; go_simp; all_goals (with_reducible rfl)
  (try simp only [List.getElem_toArray, List.getElem_cons_succ, List.getElem_cons_zero, put_at, List.set])
  refine wpAnyL_take (i := 3) (v := ?_) rfl (by kernel_rfl) (by kernel_rfl) (by kernel_rfl) (by kernel_rfl) (fun _ _ _ h => h) (by kernel_rfl) hClosed (Or.inl ⟨by rfl, ?_⟩) hHeld (fun hClosed => ?_)
  rotate_left
  · intro wv hSw; go_simp; all_goals (with_reducible rfl)
  (try simp only [List.getElem_toArray, List.getElem_cons_succ, List.getElem_cons_zero, put_at, List.set])
  refine wpAnyL_take (i := 4) (v := ?_) rfl (by kernel_rfl) (by kernel_rfl) (by kernel_rfl) (by kernel_rfl) (fun _ _ _ h => h) (by kernel_rfl) hClosed (Or.inl ⟨by rfl, ?_⟩) hHeld (fun hClosed => ?_)
  rotate_left
  · intro wv hSw; go_simp; all_goals (with_reducible rfl)
  (try simp only [List.getElem_toArray, List.getElem_cons_succ, List.getElem_cons_zero, put_at, List.set])
  refine wpAnyL_take (i := 5) (v := ?_) rfl (by kernel_rfl) (by kernel_rfl) (by kernel_rfl) (by kernel_rfl) (fun _ _ _ h => h) (by kernel_rfl) hClosed (Or.inl ⟨by rfl, ?_⟩) hHeld (fun hClosed => ?_)
  rotate_left
  · intro wv hSw; have a0 := hSw.1.cell 0; have a1 := hSw.1.cell 1; have b0 := hSw.2.1.cell 0; have b1 := hSw.2.1.cell 1; go_simp; all_goals (with_reducible rfl)
  (try simp only [List.getElem_toArray, List.getElem_cons_succ, List.getElem_cons_zero, put_at, List.set])
  refine wpAnyL_take (i := 7) (v := ?_) rfl (by kernel_rfl) (by kernel_rfl) (by kernel_rfl) (by kernel_rfl) (fun _ _ _ h => h) (by kernel_rfl) hClosed (Or.inl ⟨by rfl, ?_⟩) hHeld (fun hClosed => ?_)
  rotate_left
  · intro wv hSw; go_simp; all_goals (with_reducible rfl)
  (try simp only [List.getElem_toArray, List.getElem_cons_succ, List.getElem_cons_zero, put_at, List.set])
  refine wpAnyL_take (i := 8) (v := ?_) rfl (by kernel_rfl) (by kernel_rfl) (by kernel_rfl) (by kernel_rfl) (fun _ _ _ h => h) (by kernel_rfl) hClosed (Or.inl ⟨by rfl, ?_⟩) hHeld (fun hClosed => ?_)
  rotate_left
  · intro wv hSw; go_simp; all_goals (with_reducible rfl)
  (try simp only [List.getElem_toArray, List.getElem_cons_succ, List.getElem_cons_zero, put_at, List.set])
  refine wpAnyL_take (i := 9) (v := ?_) rfl (by kernel_rfl) (by kernel_rfl) (by kernel_rfl) (by kernel_rfl) (fun _ _ _ h => h) (by kernel_rfl) hClosed (Or.inl ⟨by rfl, ?_⟩) hHeld (fun hClosed => ?_)
  rotate_left
  · intro wv hSw; have a0 := hSw.1.cell 0; have a1 := hSw.1.cell 1; have b0 := hSw.2.1.cell 0; have b1 := hSw.2.1.cell 1; go_simp; all_goals (with_reducible rfl)
  (try simp only [List.getElem_toArray, List.getElem_cons_succ, List.getElem_cons_zero, put_at, List.set])
  refine wpAnyL_take (i := 10) (v := ?_) rfl (by kernel_rfl) (by kernel_rfl) (by kernel_rfl) (by kernel_rfl) (fun _ _ _ h => h) (by kernel_rfl) hClosed (Or.inl ⟨by rfl, ?_⟩) hHeld (fun hClosed => ?_)
  rotate_left
  · intro wv hSw; go_simp; all_goals (with_reducible rfl)
  (try simp only [List.getElem_toArray, List.getElem_cons_succ, List.getElem_cons_zero, put_at, List.set])
  refine wpAnyL_take (i := 11) (v := ?_) rfl (by kernel_rfl) (by kernel_rfl) (by kernel_rfl) (by kernel_rfl) (fun _ _ _ h => h) (by kernel_rfl) hClosed (Or.inl ⟨by rfl, ?_⟩) hHeld (fun hClosed => ?_)
  rotate_left
  · intro wv hSw; go_simp; all_goals (with_reducible rfl)
  (try simp only [List.getElem_toArray, List.getElem_cons_succ, List.getElem_cons_zero, put_at, List.set])
  refine wpAnyL_take (i := 12) (v := ?_) rfl (by kernel_rfl) (by kernel_rfl) (by kernel_rfl) (by kernel_rfl) (fun _ _ _ h => h) (by kernel_rfl) hClosed (Or.inl ⟨by rfl, ?_⟩) hHeld (fun hClosed => ?_)
  rotate_left
  · intro wv hSw; have a0 := hSw.1.cell 0; have a1 := hSw.1.cell 1; have b0 := hSw.2.1.cell 0; have b1 := hSw.2.1.cell 1; go_simp; all_goals (with_reducible rfl)
  (try simp only [List.getElem_toArray, List.getElem_cons_succ, List.getElem_cons_zero, put_at, List.set])
  refine wpAnyL_one (i := 6) rfl (by kernel_rfl) (by kernel_rfl) hClosed (fun KK hK => ?_)
  go_simp
  refine (C1.out _).mono ?_
  rintro e wq ⟨rfl, rfl⟩
  go_wp2_with fail
  refine hK.out _ _ ?_ (fun hClosed hHeld => ?_)
  · exact hHeld
  clear hK KK
  (first | simp only [List.getElem_toArray, List.getElem_cons_succ, List.getElem_cons_zero, put_at, List.set] | (try simp only [put_at, List.set]))
  refine wpAnyL_one (i := 13) rfl (by kernel_rfl) (by kernel_rfl) hClosed (fun KK hK => ?_)
  go_simp
  refine (C2.out _).mono ?_
  rintro e wq ⟨rfl, rfl⟩
  go_wp2_with fail
  refine hK.out _ _ ?_ (fun hClosed hHeld => ?_)
  · exact hHeld
  clear hK KK
  (first | simp only [List.getElem_toArray, List.getElem_cons_succ, List.getElem_cons_zero, put_at, List.set] | (try simp only [put_at, List.set]))
  refine wpAnyL_one (i := 14) rfl (by kernel_rfl) (by kernel_rfl) hClosed (fun KK hK => ?_)
  go_simp
  refine hK.out _ _ ?_ (fun hClosed hHeld => ?_)
  · exact ⟨hHeld.1.alloc _, hHeld.2.1.alloc _, hHeld.2.2.alloc hHeld.2.2.size _⟩
  clear hK KK
  (first | simp only [List.getElem_toArray, List.getElem_cons_succ, List.getElem_cons_zero, put_at, List.set] | (try simp only [put_at, List.set]))
  refine wpAnyL_one (i := 15) rfl (by kernel_rfl) (by kernel_rfl) hClosed (fun KK hK => ?_)
  go_simp
  refine (CO.out _ _ (by simp [World.cell?_alloc_new]) (by simp [World.cell?_alloc_new])).mono ?_
  rintro e wq ⟨rfl, rfl⟩
  go_wp2_with fail
  refine hK.out _ _ ?_ (fun hClosed hHeld => ?_)
  · exact hHeld
  clear hK KK
  (first | simp only [List.getElem_toArray, List.getElem_cons_succ, List.getElem_cons_zero, put_at, List.set] | (try simp only [put_at, List.set]))
  refine wpAnyL_last rfl (by kernel_rfl) (by kernel_rfl) (fun KK hK => ?_)
  go_simp
  refine hK.out _ _ ?_
  (try simp only [put_at, List.set])
  go_wp2
  go_ret
  exact ⟨by rw [HV.out]; rfl, hHeld.2.2⟩
end Go.Proofs.YteinblpkcpjpnaaGreatDoor
/- Sorting records: by insertion. Written by gen_srins.py. -/
namespace Go.Proofs.YteinblpkcpjpnaaGreatDoor
open Go Go.RowKit Go.Sort
set_option linter.unusedVariables false
set_option linter.unusedSimpArgs false
set_option maxRecDepth 100000

theorem insI_go {a j : Nat} {d : Array En} (h : a < j + 1) (hl : ltE d[j + 1]! d[j]! = true) : insInner ltE a (j + 1) d = insInner ltE a j (swp d (j + 1) j) := by
  show (if (j + 1 > a && ltE d[j + 1]! d[j]!) = true then _ else _) = _
  rw [hl, if_pos (by simp; omega)]
theorem insI_stop {a j : Nat} {d : Array En} (h : ¬ a < j + 1 ∨ ltE d[j + 1]! d[j]! = false) : insInner ltE a (j + 1) d = d := by
  show (if (j + 1 > a && ltE d[j + 1]! d[j]!) = true then _ else _) = _
  rw [if_neg]
  rcases h with h | h
  · simp; omega
  · rw [h]; simp
theorem insI_at {a : Nat} {d : Array En} : ∀ {j : Nat}, ¬ a < j → insInner ltE a j d = d
  | 0, _ => rfl
  | j + 1, h => insI_stop (Or.inl h)
theorem insO_go {a b i : Nat} {d : Array En} (h : i < b) : insOuter ltE a b i d = insOuter ltE a b (i + 1) (insInner ltE a i d) := by rw [insOuter, if_pos h]
theorem insO_end {a b i : Nat} {d : Array En} (h : ¬ i < b) : insOuter ltE a b i d = d := by rw [insOuter, if_neg h]
set_option maxHeartbeats 4000000 in
theorem ins_at (a b : Nat) {w0 w : World} {B g n c : Nat} {d : Array En} (h : SrW w0 B g n c d w) (hab : a ≤ b) (hb : b ≤ n) (hn : n ≤ 100000000) :
    Calls Tryz.prog 106 #[.slice (some ⟨g, 0, none⟩) n c, .int .i64 (a : Int), .int .i64 (b : Int), .func (.func 74) #[] #[]] w fun e w' => e = .returned (.tuple #[]) ∧ SrW w0 B g n c (insertionSort ltE d a b) w' := by
  obtain ⟨F, hF⟩ : ∃ F, insertionSort ltE d a b = F := ⟨_, rfl⟩
  rw [hF]
  have ST : Hid (SrW w0 B g n c d w ∧ insOuter ltE a b (a + 1) d = F) := Lib.hid ⟨h, hF⟩
  have ENT : ∀ args w, (callFunc 74 args).run Tryz.prog w = .ok (.enter 74 args) w := enters_of Tryz.func74 (by kernel_rfl) rfl
  clear h hF
  go_enter Tryz.func106, Tryz.ntmps106
  go_wp2_with fail
  go_loopw [8] (fun vi wr => ∃ (i : Nat) (d : Array En), vi = .int .i64 (i : Int) ∧ a < i ∧ i ≤ b + 1 ∧ Hid (SrW w0 B g n c d wr ∧ insOuter ltE a b i d = F)) (fun vi _ => b + 1 - (intV vi).toNat)
  case atStart => exact ⟨a + 1, d, by go_num, by omega, by omega, ST⟩
  case round =>
    clear ST d
    obtain ⟨i, d, rfl, hai, hib, HS⟩ := hrel
    by_cases hlt : i < b
    · have d1 : decide ((i : Int) < (b : Int)) = true := decide_eq_true (by omega)
      have d1n : decide (i < b) = true := decide_eq_true hlt
      have ST : Hid (SrW w0 B g n c d wr ∧ insOuter ltE a b (i + 1) (insInner ltE a i d) = F) := Lib.hid ⟨HS.out.1, by rw [← insO_go hlt]; exact HS.out.2⟩
      clear HS
      go_wp2_with fail
      go_loopw [9] (fun vj wr => ∃ (j : Nat) (d : Array En), vj = .int .i64 (j : Int) ∧ j ≤ i ∧ Hid (SrW w0 B g n c d wr ∧ insOuter ltE a b (i + 1) (insInner ltE a j d) = F)) (fun vj _ => (intV vj).toNat)
      case atStart => exact ⟨i, d, rfl, Nat.le_refl _, ST⟩
      case round =>
        clear ST d
        obtain ⟨j, d, rfl, hji, HS⟩ := hrel
        have ST := Lib.hid HS.out.1
        by_cases hja : a < j
        · obtain ⟨k, rfl⟩ : ∃ k, j = k + 1 := ⟨j - 1, by omega⟩
          have da : decide (((k + 1 : Nat) : Int) > (a : Int)) = true := decide_eq_true (by omega)
          have da2 : decide ((a : Int) < ((k + 1 : Nat) : Int)) = true := decide_eq_true (by omega)
          have da3 : decide (a < k + 1) = true := decide_eq_true hja
          have wk : IntKind.i64.wrap (((k + 1 : Nat) : Int) - 1) = (k : Int) := by rw [IntKind.wrap_i64]; omega
          have j0 : (0 : Int) ≤ ((k + 1 : Nat) : Int) := by omega
          have j1 : ((k + 1 : Nat) : Int) < (n : Int) := by omega
          have k0 : (0 : Int) ≤ (k : Int) := by omega
          have k1 : (k : Int) < (n : Int) := by omega
          obtain ⟨X, hX⟩ : ∃ e, d[k + 1]! = e := ⟨_, rfl⟩
          obtain ⟨Y, hY⟩ : ∃ e, d[k]! = e := ⟨_, rfl⟩
          have HX : Hid (d.toList[k + 1]? = some X) := Lib.hid (by rw [← hX]; exact get_some d (by rw [ST.out.len]; omega))
          have HY : Hid (d.toList[k]? = some Y) := Lib.hid (by rw [← hY]; exact get_some d (by rw [ST.out.len]; omega))
          have HDL : Hid (d.toList.length = n) := Lib.hid (by rw [Array.length_toList]; exact ST.out.len)
          obtain ⟨v, hv⟩ : ∃ v, cmpE X Y = v := ⟨_, rfl⟩
          have HV := Lib.hid hv
          have NEXT : Hid (v < 0 → insOuter ltE a b (i + 1) (insInner ltE a k (swp d (k + 1) k)) = F) := Lib.hid (fun hv0 => by rw [← HS.out.2, insI_go hja (by rw [hX, hY]; unfold ltE; rw [hv]; exact decide_eq_true hv0)])
          have OUT : Hid (¬ v < 0 → insOuter ltE a b (i + 1) d = F) := Lib.hid (fun hv0 => by rw [← HS.out.2, insI_stop (Or.inr (by rw [hX, hY]; unfold ltE; rw [hv]; exact decide_eq_false hv0))])
          have LN : Hid (∀ w', Own w' B 125 4 (some ⟨g, 0, none⟩) n c (flE enE ((d.toList.set (k + 1) Y).set k X)) → Only (fun k => k = g) w0 w' → SrW w0 B g n c (swp d (k + 1) k) w') := Lib.hid (fun w' q1 q2 => ST.out.swp (by omega) (by omega) HX.out HY.out q1 q2)
          obtain ⟨jj, hjj⟩ : ∃ jj, k + 1 = jj := ⟨_, rfl⟩
          rw [hjj] at da da2 da3 wk j0 j1 HX NEXT LN hji ⊢
          have HJJ := Lib.hid hjj
          have hjn : jj < n := by omega
          have hkn : k < n := by omega
          clear hX hY HS hv hjj hja
          go_upto_region 4 with fail
          refine wp_region_last 16 (fun w' => SrW w0 B g n c d w') (by kernel_rfl) (ST.out.drew) (fun hHeld hClosed => ?_)
          refine wpAnyL_take (i := 0) (v := ?_) rfl (by kernel_rfl) (by kernel_rfl) (by kernel_rfl) (by kernel_rfl) (fun _ _ _ h => h) (by kernel_rfl) hClosed (Or.inl ⟨by rfl, ?_⟩) hHeld (fun hClosed => ?_)
          rotate_left
          · intro wv hSw; go_simp; all_goals (with_reducible rfl)
          (try simp only [List.getElem_toArray, List.getElem_cons_zero, put_at, List.set])
          refine wpAnyL_take (i := 1) (v := ?_) rfl (by kernel_rfl) (by kernel_rfl) (by kernel_rfl) (by kernel_rfl) (fun _ _ _ h => h) (by kernel_rfl) hClosed (Or.inl ⟨by rfl, ?_⟩) hHeld (fun hClosed => ?_)
          rotate_left
          · intro wv hSw; go_simp; all_goals (with_reducible rfl)
          (try simp only [List.getElem_toArray, List.getElem_cons_succ, List.getElem_cons_zero, put_at, List.set])
          refine wpAnyL_take (i := 2) (v := ?_) rfl (by kernel_rfl) (by kernel_rfl) (by kernel_rfl) (by kernel_rfl) (fun _ _ _ h => h) (by kernel_rfl) hClosed (Or.inl ⟨by rfl, ?_⟩) hHeld (fun hClosed => ?_)
          rotate_left
          · intro wv hSw; go_simp; all_goals (with_reducible rfl)
          (try simp only [List.getElem_toArray, List.getElem_cons_succ, List.getElem_cons_zero, put_at, List.set])
          refine wpAnyL_take (i := 3) (v := ?_) rfl (by kernel_rfl) (by kernel_rfl) (by kernel_rfl) (by kernel_rfl) (fun _ _ _ h => h) (by kernel_rfl) hClosed (Or.inl ⟨by rfl, ?_⟩) hHeld (fun hClosed => ?_)
          rotate_left
          · intro wv hSw; go_simp; all_goals (with_reducible rfl)
          (try simp only [List.getElem_toArray, List.getElem_cons_succ, List.getElem_cons_zero, put_at, List.set])
          refine wpAnyL_take (i := 4) (v := ?_) rfl (by kernel_rfl) (by kernel_rfl) (by kernel_rfl) (by kernel_rfl) (fun _ _ _ h => h) (by kernel_rfl) hClosed (Or.inl ⟨by rfl, ?_⟩) hHeld (fun hClosed => ?_)
          rotate_left
          · intro wv hSw; go_simp; all_goals (with_reducible rfl)
          (try simp only [List.getElem_toArray, List.getElem_cons_succ, List.getElem_cons_zero, put_at, List.set])
          refine wpAnyL_take (i := 5) (v := ?_) rfl (by kernel_rfl) (by kernel_rfl) (by kernel_rfl) (by kernel_rfl) (fun _ _ _ h => h) (by kernel_rfl) hClosed (Or.inl ⟨by rfl, ?_⟩) hHeld (fun hClosed => ?_)
          rotate_left
          · intro wv hSw; go_simp; all_goals (with_reducible rfl)
          (try simp only [List.getElem_toArray, List.getElem_cons_succ, List.getElem_cons_zero, put_at, List.set])
          refine wpAnyL_take (i := 6) (v := ?_) rfl (by kernel_rfl) (by kernel_rfl) (by kernel_rfl) (by kernel_rfl) (fun _ _ _ h => h) (by kernel_rfl) hClosed (Or.inl ⟨by rfl, ?_⟩) hHeld (fun hClosed => ?_)
          rotate_left
          · intro wv hSw; go_simp; all_goals (with_reducible rfl)
          (try simp only [List.getElem_toArray, List.getElem_cons_succ, List.getElem_cons_zero, put_at, List.set])
          refine wpAnyL_take (i := 7) (v := ?_) rfl (by kernel_rfl) (by kernel_rfl) (by kernel_rfl) (by kernel_rfl) (fun _ _ _ h => h) (by kernel_rfl) hClosed (Or.inl ⟨by rfl, ?_⟩) hHeld (fun hClosed => ?_)
          rotate_left
          · intro wv hSw; go_simp; all_goals (with_reducible rfl)
          (try simp only [List.getElem_toArray, List.getElem_cons_succ, List.getElem_cons_zero, put_at, List.set])
          refine wpAnyL_take (i := 8) (v := .agg (enE X).toArray) rfl (by kernel_rfl) (by kernel_rfl) (by kernel_rfl) (by kernel_rfl) (fun _ _ _ h => h) (by kernel_rfl) hClosed (Or.inl ⟨by rfl, ?_⟩) hHeld (fun hClosed => ?_)
          · intro wv hSw; exact exec_load_at (by rfl) (by rfl) (own_elem enE_len hSw.own HX.out) Tryz.underlying125 rfl (by kernel_rfl)
          (try simp only [List.getElem_toArray, List.getElem_cons_succ, List.getElem_cons_zero, put_at, List.set])
          refine wpAnyL_take (i := 9) (v := ?_) rfl (by kernel_rfl) (by kernel_rfl) (by kernel_rfl) (by kernel_rfl) (fun _ _ _ h => h) (by kernel_rfl) hClosed (Or.inl ⟨by rfl, ?_⟩) hHeld (fun hClosed => ?_)
          rotate_left
          · intro wv hSw; go_simp; all_goals (with_reducible rfl)
          (try simp only [List.getElem_toArray, List.getElem_cons_succ, List.getElem_cons_zero, put_at, List.set])
          refine wpAnyL_take (i := 10) (v := ?_) rfl (by kernel_rfl) (by kernel_rfl) (by kernel_rfl) (by kernel_rfl) (fun _ _ _ h => h) (by kernel_rfl) hClosed (Or.inl ⟨by rfl, ?_⟩) hHeld (fun hClosed => ?_)
          rotate_left
          · intro wv hSw; go_simp; all_goals (with_reducible rfl)
          (try simp only [List.getElem_toArray, List.getElem_cons_succ, List.getElem_cons_zero, put_at, List.set])
          refine wpAnyL_take (i := 11) (v := ?_) rfl (by kernel_rfl) (by kernel_rfl) (by kernel_rfl) (by kernel_rfl) (fun _ _ _ h => h) (by kernel_rfl) hClosed (Or.inl ⟨by rfl, ?_⟩) hHeld (fun hClosed => ?_)
          rotate_left
          · intro wv hSw; go_simp; all_goals (with_reducible rfl)
          (try simp only [List.getElem_toArray, List.getElem_cons_succ, List.getElem_cons_zero, put_at, List.set])
          refine wpAnyL_take (i := 12) (v := ?_) rfl (by kernel_rfl) (by kernel_rfl) (by kernel_rfl) (by kernel_rfl) (fun _ _ _ h => h) (by kernel_rfl) hClosed (Or.inl ⟨by rfl, ?_⟩) hHeld (fun hClosed => ?_)
          rotate_left
          · intro wv hSw; go_simp; all_goals (with_reducible rfl)
          (try simp only [List.getElem_toArray, List.getElem_cons_succ, List.getElem_cons_zero, put_at, List.set])
          refine wpAnyL_take (i := 13) (v := .agg (enE Y).toArray) rfl (by kernel_rfl) (by kernel_rfl) (by kernel_rfl) (by kernel_rfl) (fun _ _ _ h => h) (by kernel_rfl) hClosed (Or.inl ⟨by rfl, ?_⟩) hHeld (fun hClosed => ?_)
          · intro wv hSw; exact exec_load_at (by rfl) (by rfl) (own_elem enE_len hSw.own HY.out) Tryz.underlying125 rfl (by kernel_rfl)
          (try simp only [List.getElem_toArray, List.getElem_cons_succ, List.getElem_cons_zero, put_at, List.set])
          refine wpAnyL_one (i := 14) rfl (by kernel_rfl) (by kernel_rfl) hClosed (fun KK hK => ?_)
          go_simp
          refine (cmpE_at X Y _).mono ?_
          rintro e wq ⟨rfl, hwq⟩
          go_wp2_with fail
          refine hK.out _ _ ?_ (fun hClosed hHeld => ?_)
          · exact hHeld.later hwq
          clear hK KK
          (first | simp only [List.getElem_toArray, List.getElem_cons_succ, List.getElem_cons_zero, put_at, List.set] | (try simp only [put_at, List.set]))
          refine wpAnyL_take (i := 15) (v := ?_) rfl (by kernel_rfl) (by kernel_rfl) (by kernel_rfl) (by kernel_rfl) (fun _ _ _ h => h) (by kernel_rfl) hClosed (Or.inl ⟨by rfl, ?_⟩) hHeld (fun hClosed => ?_)
          rotate_left
          · intro wv hSw; go_simp; all_goals (with_reducible rfl)
          (try simp only [List.getElem_toArray, List.getElem_cons_succ, List.getElem_cons_zero, put_at, List.set])
          refine wpAnyL_last rfl (by kernel_rfl) (by kernel_rfl) (fun KK hK => ?_)
          go_simp
          refine hK.out _ _ ?_
          (try simp only [put_at, List.set])
          rw [HV.out]
          have ST2 := Lib.hid hHeld
          clear hHeld hClosed ST
          by_cases hv0 : v < 0
          · have dv : decide (v < 0) = true := decide_eq_true hv0
            have NX := Lib.hid (NEXT.out (by omega))
            clear NEXT OUT HV
            go_upto_region 6 with fail
            refine wp_region_lastM [15, 16, 17] (fun w' => Own w' B 125 4 (some ⟨g, 0, none⟩) n c (flE enE d.toList)) (by kernel_rfl) (ST2.out.drew.own) (fun hHeld hClosed => ?_)
            refine wpAnyM_takeP (i := 0) (v := ?_) rfl (by kernel_rfl) (by kernel_rfl) (by kernel_rfl) (fun _ _ _ h => h) (by kernel_rfl) hClosed (Or.inl ⟨by rfl, ?_⟩) (fun _ => hHeld) (fun hClosed => ?_)
            rotate_left
            · intro wv hSw; go_simp; all_goals (with_reducible rfl)
            (try simp only [List.getElem_toArray, List.getElem_cons_zero, put_at, List.set])
            refine wpAnyM_takeP (i := 1) (v := ?_) rfl (by kernel_rfl) (by kernel_rfl) (by kernel_rfl) (fun _ _ _ h => h) (by kernel_rfl) hClosed (Or.inl ⟨by rfl, ?_⟩) (fun _ => hHeld) (fun hClosed => ?_)
            rotate_left
            · intro wv hSw; go_simp; all_goals (with_reducible rfl)
            (try simp only [List.getElem_toArray, List.getElem_cons_succ, List.getElem_cons_zero, put_at, List.set])
            refine wpAnyM_takeP (i := 2) (v := ?_) rfl (by kernel_rfl) (by kernel_rfl) (by kernel_rfl) (fun _ _ _ h => h) (by kernel_rfl) hClosed (Or.inl ⟨by rfl, ?_⟩) (fun _ => hHeld) (fun hClosed => ?_)
            rotate_left
            · intro wv hSw; go_simp; all_goals (with_reducible rfl)
            (try simp only [List.getElem_toArray, List.getElem_cons_succ, List.getElem_cons_zero, put_at, List.set])
            refine wpAnyM_takeP (i := 3) (v := ?_) rfl (by kernel_rfl) (by kernel_rfl) (by kernel_rfl) (fun _ _ _ h => h) (by kernel_rfl) hClosed (Or.inl ⟨by rfl, ?_⟩) (fun _ => hHeld) (fun hClosed => ?_)
            rotate_left
            · intro wv hSw; go_simp; all_goals (with_reducible rfl)
            (try simp only [List.getElem_toArray, List.getElem_cons_succ, List.getElem_cons_zero, put_at, List.set])
            refine wpAnyM_takeP (i := 4) (v := ?_) rfl (by kernel_rfl) (by kernel_rfl) (by kernel_rfl) (fun _ _ _ h => h) (by kernel_rfl) hClosed (Or.inl ⟨by rfl, ?_⟩) (fun _ => hHeld) (fun hClosed => ?_)
            rotate_left
            · intro wv hSw; go_simp; all_goals (with_reducible rfl)
            (try simp only [List.getElem_toArray, List.getElem_cons_succ, List.getElem_cons_zero, put_at, List.set])
            refine wpAnyM_takeP (i := 5) (v := ?_) rfl (by kernel_rfl) (by kernel_rfl) (by kernel_rfl) (fun _ _ _ h => h) (by kernel_rfl) hClosed (Or.inl ⟨by rfl, ?_⟩) (fun _ => hHeld) (fun hClosed => ?_)
            rotate_left
            · intro wv hSw; go_simp; all_goals (with_reducible rfl)
            (try simp only [List.getElem_toArray, List.getElem_cons_succ, List.getElem_cons_zero, put_at, List.set])
            refine wpAnyM_takeP (i := 6) (v := ?_) rfl (by kernel_rfl) (by kernel_rfl) (by kernel_rfl) (fun _ _ _ h => h) (by kernel_rfl) hClosed (Or.inl ⟨by rfl, ?_⟩) (fun _ => hHeld) (fun hClosed => ?_)
            rotate_left
            · intro wv hSw; go_simp; all_goals (with_reducible rfl)
            (try simp only [List.getElem_toArray, List.getElem_cons_succ, List.getElem_cons_zero, put_at, List.set])
            refine wpAnyM_takeP (i := 7) (v := ?_) rfl (by kernel_rfl) (by kernel_rfl) (by kernel_rfl) (fun _ _ _ h => h) (by kernel_rfl) hClosed (Or.inl ⟨by rfl, ?_⟩) (fun _ => hHeld) (fun hClosed => ?_)
            rotate_left
            · intro wv hSw; go_simp; all_goals (with_reducible rfl)
            (try simp only [List.getElem_toArray, List.getElem_cons_succ, List.getElem_cons_zero, put_at, List.set])
            refine wpAnyM_takeP (i := 8) (v := ?_) rfl (by kernel_rfl) (by kernel_rfl) (by kernel_rfl) (fun _ _ _ h => h) (by kernel_rfl) hClosed (Or.inl ⟨by rfl, ?_⟩) (fun _ => hHeld) (fun hClosed => ?_)
            rotate_left
            · intro wv hSw; go_simp; all_goals (with_reducible rfl)
            (try simp only [List.getElem_toArray, List.getElem_cons_succ, List.getElem_cons_zero, put_at, List.set])
            refine wpAnyM_take (i := 9) (v := .agg (enE Y).toArray) rfl (by kernel_rfl) (by kernel_rfl) (by kernel_rfl) (by kernel_rfl) (fun _ _ _ h => h) (by kernel_rfl) hClosed (Or.inl ⟨by rfl, ?_⟩) (fun _ => hHeld) (fun hClosed => ?_)
            · intro wv hSw; exact exec_load_at (by rfl) (by rfl) (own_elem enE_len hSw HY.out) Tryz.underlying125 rfl (by kernel_rfl)
            (try simp only [List.getElem_toArray, List.getElem_cons_succ, List.getElem_cons_zero, put_at, List.set])
            refine wpAnyM_takeP (i := 10) (v := ?_) rfl (by kernel_rfl) (by kernel_rfl) (by kernel_rfl) (fun _ _ _ h => h) (by kernel_rfl) hClosed (Or.inl ⟨by rfl, ?_⟩) (fun _ => hHeld) (fun hClosed => ?_)
            rotate_left
            · intro wv hSw; go_simp; all_goals (with_reducible rfl)
            (try simp only [List.getElem_toArray, List.getElem_cons_succ, List.getElem_cons_zero, put_at, List.set])
            refine wpAnyM_takeP (i := 11) (v := ?_) rfl (by kernel_rfl) (by kernel_rfl) (by kernel_rfl) (fun _ _ _ h => h) (by kernel_rfl) hClosed (Or.inl ⟨by rfl, ?_⟩) (fun _ => hHeld) (fun hClosed => ?_)
            rotate_left
            · intro wv hSw; go_simp; all_goals (with_reducible rfl)
            (try simp only [List.getElem_toArray, List.getElem_cons_succ, List.getElem_cons_zero, put_at, List.set])
            refine wpAnyM_takeP (i := 12) (v := ?_) rfl (by kernel_rfl) (by kernel_rfl) (by kernel_rfl) (fun _ _ _ h => h) (by kernel_rfl) hClosed (Or.inl ⟨by rfl, ?_⟩) (fun _ => hHeld) (fun hClosed => ?_)
            rotate_left
            · intro wv hSw; go_simp; all_goals (with_reducible rfl)
            (try simp only [List.getElem_toArray, List.getElem_cons_succ, List.getElem_cons_zero, put_at, List.set])
            refine wpAnyM_take (i := 13) (v := .agg (enE X).toArray) rfl (by kernel_rfl) (by kernel_rfl) (by kernel_rfl) (by kernel_rfl) (fun _ _ _ h => h) (by kernel_rfl) hClosed (Or.inl ⟨by rfl, ?_⟩) (fun _ => hHeld) (fun hClosed => ?_)
            · intro wv hSw; exact exec_load_at (by rfl) (by rfl) (own_elem enE_len hSw HX.out) Tryz.underlying125 rfl (by kernel_rfl)
            (try simp only [List.getElem_toArray, List.getElem_cons_succ, List.getElem_cons_zero, put_at, List.set])
            refine wpAnyM_takeP (i := 14) (v := ?_) rfl (by kernel_rfl) (by kernel_rfl) (by kernel_rfl) (fun _ _ _ h => h) (by kernel_rfl) hClosed (Or.inl ⟨by rfl, ?_⟩) (fun _ => hHeld) (fun hClosed => ?_)
            rotate_left
            · intro wv hSw; go_simp; all_goals (with_reducible rfl)
            (try simp only [List.getElem_toArray, List.getElem_cons_succ, List.getElem_cons_zero, put_at, List.set])
            refine wpAnyM_end (i := 15) rfl (by kernel_rfl) (by kernel_rfl) hClosed (fun KK hK => ?_)
            refine step_storeE rfl rfl rfl rfl enE_len enE_one (by kernel_rfl) hHeld HDL.out hjn ?_
            intro w1 p1 p2 p3
            refine hK.out _ _ (fun hClosed => ?_)
            clear hK KK
            (try simp only [List.getElem_toArray, List.getElem_cons_succ, List.getElem_cons_zero, put_at, List.set])
            refine wpAnyM_end (i := 16) rfl (by kernel_rfl) (by kernel_rfl) hClosed (fun KK hK => ?_)
            go_simp
            refine hK.out _ _ (fun hClosed => ?_)
            clear hK KK
            (try simp only [List.getElem_toArray, List.getElem_cons_succ, List.getElem_cons_zero, put_at, List.set])
            refine wpAnyM_end (i := 17) rfl (by kernel_rfl) (by kernel_rfl) hClosed (fun KK hK => ?_)
            refine step_storeE rfl rfl rfl rfl enE_len enE_one (by kernel_rfl) p1 (by rw [List.length_set]; exact HDL.out) hkn ?_
            intro w2 p4 p5 p6
            refine hK.out _ _ (fun hClosed => ?_)
            clear hK KK
            (try simp only [List.getElem_toArray, List.getElem_cons_succ, List.getElem_cons_zero, put_at, List.set])
            refine wpAnyM_over (by kernel_rfl) ?_
            have NX2 := Lib.hid (And.intro (LN.out _ p4 (only_grown (only_grown ST2.out.drew.only p2) p5)) NX.out)
            clear p1 p2 p3 p4 p5 p6 hClosed hHeld ST2
            go_wp2_with fail
            go_roundw
            case rel => exact ⟨k, _, rfl, by have := HJJ.out; omega, NX2⟩
            case measure => simp [intV]; have := HJJ.out; omega
          · have dv : decide (v < 0) = false := decide_eq_false hv0
            have NX : Hid (SrW w0 B g n c d wq ∧ insOuter ltE a b (i + 1) d = F) := Lib.hid ⟨ST2.out, OUT.out (by omega)⟩
            clear NEXT OUT HV ST2
            go_wp2_with fail
            go_roundw
            case rel => exact ⟨i + 1, d, by go_num, by omega, by omega, NX⟩
            case measure => simp [intV]; omega
        · have da : decide ((j : Int) > (a : Int)) = false := decide_eq_false (by omega)
          have da2 : decide ((a : Int) < (j : Int)) = false := decide_eq_false (by omega)
          have da3 : decide (a < j) = false := decide_eq_false hja
          have NX : Hid (insOuter ltE a b (i + 1) d = F) := Lib.hid (by rw [← HS.out.2, insI_at hja])
          clear HS
          go_upto_region 4 with fail
          refine wp_region_last 16 (fun w' => SrW w0 B g n c d w') (by kernel_rfl) (ST.out.drew) (fun hHeld hClosed => ?_)
          refine wpAnyL_take (i := 0) (v := ?_) rfl (by kernel_rfl) (by kernel_rfl) (by kernel_rfl) (by kernel_rfl) (fun _ _ _ h => h) (by kernel_rfl) hClosed (Or.inl ⟨by rfl, ?_⟩) hHeld (fun hClosed => ?_)
          rotate_left
          · intro wv hSw; go_simp; all_goals (with_reducible rfl)
          (try simp only [List.getElem_toArray, List.getElem_cons_zero, put_at, List.set])
          refine wpAnyL_take (i := 1) (v := ?_) rfl (by kernel_rfl) (by kernel_rfl) (by kernel_rfl) (by kernel_rfl) (fun _ _ _ h => h) (by kernel_rfl) hClosed (Or.inl ⟨by rfl, ?_⟩) hHeld (fun hClosed => ?_)
          rotate_left
          · intro wv hSw; go_simp; all_goals (with_reducible rfl)
          (try simp only [List.getElem_toArray, List.getElem_cons_succ, List.getElem_cons_zero, put_at, List.set])
          refine wpAnyL_take (i := 2) (v := ?_) rfl (by kernel_rfl) (by kernel_rfl) (by kernel_rfl) (by kernel_rfl) (fun _ _ _ h => h) (by kernel_rfl) hClosed (Or.inl ⟨by rfl, ?_⟩) hHeld (fun hClosed => ?_)
          rotate_left
          · intro wv hSw; go_simp; all_goals (with_reducible rfl)
          (try simp only [List.getElem_toArray, List.getElem_cons_succ, List.getElem_cons_zero, put_at, List.set])
          refine wpAnyL_take (i := 3) (v := ?_) rfl (by kernel_rfl) (by kernel_rfl) (by kernel_rfl) (by kernel_rfl) (fun _ _ _ h => h) (by kernel_rfl) hClosed (Or.inl ⟨by rfl, ?_⟩) hHeld (fun hClosed => ?_)
          rotate_left
          · intro wv hSw; go_simp; all_goals (with_reducible rfl)
          (try simp only [List.getElem_toArray, List.getElem_cons_succ, List.getElem_cons_zero, put_at, List.set])
          refine wpAnyL_take (i := 4) (v := undef) rfl (by kernel_rfl) (by kernel_rfl) (by kernel_rfl) (by kernel_rfl) (fun _ _ _ h => h) (by kernel_rfl) hClosed (Or.inr ⟨by rfl, rfl⟩) hHeld (fun hClosed => ?_)
          (try simp only [List.getElem_toArray, List.getElem_cons_succ, List.getElem_cons_zero, put_at, List.set])
          refine wpAnyL_take (i := 5) (v := undef) rfl (by kernel_rfl) (by kernel_rfl) (by kernel_rfl) (by kernel_rfl) (fun _ _ _ h => h) (by kernel_rfl) hClosed (Or.inr ⟨by rfl, rfl⟩) hHeld (fun hClosed => ?_)
          (try simp only [List.getElem_toArray, List.getElem_cons_succ, List.getElem_cons_zero, put_at, List.set])
          refine wpAnyL_take (i := 6) (v := undef) rfl (by kernel_rfl) (by kernel_rfl) (by kernel_rfl) (by kernel_rfl) (fun _ _ _ h => h) (by kernel_rfl) hClosed (Or.inr ⟨by rfl, rfl⟩) hHeld (fun hClosed => ?_)
          (try simp only [List.getElem_toArray, List.getElem_cons_succ, List.getElem_cons_zero, put_at, List.set])
          refine wpAnyL_take (i := 7) (v := undef) rfl (by kernel_rfl) (by kernel_rfl) (by kernel_rfl) (by kernel_rfl) (fun _ _ _ h => h) (by kernel_rfl) hClosed (Or.inr ⟨by rfl, rfl⟩) hHeld (fun hClosed => ?_)
          (try simp only [List.getElem_toArray, List.getElem_cons_succ, List.getElem_cons_zero, put_at, List.set])
          refine wpAnyL_take (i := 8) (v := undef) rfl (by kernel_rfl) (by kernel_rfl) (by kernel_rfl) (by kernel_rfl) (fun _ _ _ h => h) (by kernel_rfl) hClosed (Or.inr ⟨by rfl, rfl⟩) hHeld (fun hClosed => ?_)
          (try simp only [List.getElem_toArray, List.getElem_cons_succ, List.getElem_cons_zero, put_at, List.set])
          refine wpAnyL_take (i := 9) (v := undef) rfl (by kernel_rfl) (by kernel_rfl) (by kernel_rfl) (by kernel_rfl) (fun _ _ _ h => h) (by kernel_rfl) hClosed (Or.inr ⟨by rfl, rfl⟩) hHeld (fun hClosed => ?_)
          (try simp only [List.getElem_toArray, List.getElem_cons_succ, List.getElem_cons_zero, put_at, List.set])
          refine wpAnyL_take (i := 10) (v := undef) rfl (by kernel_rfl) (by kernel_rfl) (by kernel_rfl) (by kernel_rfl) (fun _ _ _ h => h) (by kernel_rfl) hClosed (Or.inr ⟨by rfl, rfl⟩) hHeld (fun hClosed => ?_)
          (try simp only [List.getElem_toArray, List.getElem_cons_succ, List.getElem_cons_zero, put_at, List.set])
          refine wpAnyL_take (i := 11) (v := undef) rfl (by kernel_rfl) (by kernel_rfl) (by kernel_rfl) (by kernel_rfl) (fun _ _ _ h => h) (by kernel_rfl) hClosed (Or.inr ⟨by rfl, rfl⟩) hHeld (fun hClosed => ?_)
          (try simp only [List.getElem_toArray, List.getElem_cons_succ, List.getElem_cons_zero, put_at, List.set])
          refine wpAnyL_take (i := 12) (v := undef) rfl (by kernel_rfl) (by kernel_rfl) (by kernel_rfl) (by kernel_rfl) (fun _ _ _ h => h) (by kernel_rfl) hClosed (Or.inr ⟨by rfl, rfl⟩) hHeld (fun hClosed => ?_)
          (try simp only [List.getElem_toArray, List.getElem_cons_succ, List.getElem_cons_zero, put_at, List.set])
          refine wpAnyL_take (i := 13) (v := undef) rfl (by kernel_rfl) (by kernel_rfl) (by kernel_rfl) (by kernel_rfl) (fun _ _ _ h => h) (by kernel_rfl) hClosed (Or.inr ⟨by rfl, rfl⟩) hHeld (fun hClosed => ?_)
          (try simp only [List.getElem_toArray, List.getElem_cons_succ, List.getElem_cons_zero, put_at, List.set])
          refine wpAnyL_take (i := 14) (v := undef) rfl (by kernel_rfl) (by kernel_rfl) (by kernel_rfl) (by kernel_rfl) (fun _ _ _ h => h) (by kernel_rfl) hClosed (Or.inr ⟨by rfl, rfl⟩) hHeld (fun hClosed => ?_)
          (try simp only [List.getElem_toArray, List.getElem_cons_succ, List.getElem_cons_zero, put_at, List.set])
          refine wpAnyL_take (i := 15) (v := undef) rfl (by kernel_rfl) (by kernel_rfl) (by kernel_rfl) (by kernel_rfl) (fun _ _ _ h => h) (by kernel_rfl) hClosed (Or.inr ⟨by rfl, rfl⟩) hHeld (fun hClosed => ?_)
          (try simp only [List.getElem_toArray, List.getElem_cons_succ, List.getElem_cons_zero, put_at, List.set])
          refine wpAnyL_last rfl (by kernel_rfl) (by kernel_rfl) (fun KK hK => ?_)
          go_simp
          refine hK.out _ _ ?_
          (try simp only [put_at, List.set])
          have NX2 : Hid (SrW w0 B g n c d wr.drew ∧ insOuter ltE a b (i + 1) d = F) := Lib.hid ⟨hHeld, NX.out⟩
          clear hHeld hClosed ST NX
          go_wp2_with fail
          go_roundw
          case rel => exact ⟨i + 1, d, by go_num, by omega, by omega, NX2⟩
          case measure => simp [intV]; omega
    · have d1 : decide ((i : Int) < (b : Int)) = false := decide_eq_false (by omega)
      have FIN : Hid (SrW w0 B g n c F wr) := Lib.hid (by
        have h9 := HS.out.2
        rw [insO_end hlt] at h9
        exact h9 ▸ HS.out.1)
      clear HS
      go_wp2_with fail
      go_end0
      exact ⟨rfl, FIN.out⟩
end Go.Proofs.YteinblpkcpjpnaaGreatDoor
/- Sorting records: merges by rotation. Written by gen_srsym.py. -/
namespace Go.Proofs.YteinblpkcpjpnaaGreatDoor
open Go Go.RowKit Go.Sort
set_option linter.unusedVariables false
set_option linter.unusedSimpArgs false
set_option maxRecDepth 100000

theorem sym_c {f a m b : Nat} {d : Array En} (hA : ¬ m - a = 1) (hB : ¬ b - m = 1) : sym ltE (f + 1) d a m b =
    (if (a + b) / 2 < (a + b) / 2 + m - symS ltE d a m b ∧ (a + b) / 2 + m - symS ltE d a m b < b then
      sym ltE f (if a < symS ltE d a m b ∧ symS ltE d a m b < (a + b) / 2 then sym ltE f (sym1 ltE d a m b) a (symS ltE d a m b) ((a + b) / 2) else sym1 ltE d a m b) ((a + b) / 2) ((a + b) / 2 + m - symS ltE d a m b) b
    else (if a < symS ltE d a m b ∧ symS ltE d a m b < (a + b) / 2 then sym ltE f (sym1 ltE d a m b) a (symS ltE d a m b) ((a + b) / 2) else sym1 ltE d a m b)) := by
  conv => lhs; unfold sym
  rw [if_neg hA, if_neg hB]
set_option maxHeartbeats 8000000 in
theorem sym_ka (f : Nat) {w0 : World} {B g n c : Nat} (hn : n ≤ 100000000)
    (ih : ∀ (a m b : Nat) {w : World} {d : Array En}, SrW w0 B g n c d w → a < m → m < b → b ≤ n → b - a ≤ f → Calls Tryz.prog 107 #[.slice (some ⟨g, 0, none⟩) n c, .int .i64 (a : Int), .int .i64 (m : Int), .int .i64 (b : Int), .func (.func 74) #[] #[]] w fun e w' => e = .returned (.tuple #[]) ∧ SrW w0 B g n c (sym ltE f d a m b) w')
    (a m b : Nat) {w : World} {d : Array En} (h : SrW w0 B g n c d w) (h1 : a < m) (h2 : m < b) (h3 : b ≤ n) (hf : b - a ≤ f + 1) (hA : m - a = 1) :
    Calls Tryz.prog 107 #[.slice (some ⟨g, 0, none⟩) n c, .int .i64 (a : Int), .int .i64 (m : Int), .int .i64 (b : Int), .func (.func 74) #[] #[]] w fun e w' => e = .returned (.tuple #[]) ∧ SrW w0 B g n c (sym ltE (f + 1) d a m b) w' := by
  obtain ⟨F, hF⟩ : ∃ F, sym ltE (f + 1) d a m b = F := ⟨_, rfl⟩
  rw [hF]
  have IH := Lib.hid ih
  clear ih
  have ENT : ∀ args w, (callFunc 74 args).run Tryz.prog w = .ok (.enter 74 args) w := enters_of Tryz.func74 (by kernel_rfl) rfl
  have ST := Lib.hid h
  have HF := Lib.hid hF
  have wma : IntKind.i64.wrap ((m : Int) - (a : Int)) = ((m - a : Nat) : Int) := by rw [IntKind.wrap_i64]; omega
  have wbm : IntKind.i64.wrap ((b : Int) - (m : Int)) = ((b - m : Nat) : Int) := by rw [IntKind.wrap_i64]; omega
  clear h hF
  have dA : (((m - a : Nat) : Int) == 1) = true := beq_iff_eq.2 (by omega)
  obtain ⟨PD, hPD⟩ : ∃ PD : Nat → Bool, (fun h => ltE d[h]! d[a]!) = PD := ⟨_, rfl⟩
  have HPD : Hid (∀ h, PD h = ltE d[h]! d[a]!) := Lib.hid (fun h => by rw [← hPD])
  obtain ⟨r, hr⟩ : ∃ r, bsR PD m b = r := ⟨_, rfl⟩
  have HFA : Hid (F = upS d a (r - 1)) := Lib.hid (by rw [← HF.out]; unfold sym; rw [if_pos hA, hPD, hr])
  have BS0 : Hid (SrW w0 B g n c d w ∧ bsR PD m b = r) := Lib.hid ⟨ST.out, hr⟩
  clear hr ST HF hPD
  go_enter Tryz.func107, Tryz.ntmps107
  go_wp2_with fail
  go_loopw [10, 11] (fun vi vj wr => ∃ (i j : Nat), vi = .int .i64 (i : Int) ∧ vj = .int .i64 (j : Int) ∧ m ≤ i ∧ i ≤ j ∧ j ≤ b ∧ Hid (SrW w0 B g n c d wr ∧ bsR PD i j = r)) (fun vi vj _ => (intV vj).toNat - (intV vi).toNat)
  case atStart => exact ⟨_, _, rfl, rfl, Nat.le_refl _, by omega, Nat.le_refl _, BS0⟩
  case round =>
    clear BS0
    obtain ⟨i, j, rfl, rfl, hlo, hij, hhi, HS⟩ := hrel
    by_cases hlt : i < j
    · have d1 : decide ((i : Int) < (j : Int)) = true := decide_eq_true (by omega)
      have d1n : decide (i < j) = true := decide_eq_true hlt
      obtain ⟨h, hh⟩ : ∃ h, (i + j) / 2 = h := ⟨_, rfl⟩
      have hh2 : ((i : Int) + (j : Int)) / 2 = (h : Int) := by omega
      have ST := Lib.hid HS.out.1
      have hxn : h < n := by omega
      have hyn : a < n := by omega
      obtain ⟨X, hX⟩ : ∃ e, d[h]! = e := ⟨_, rfl⟩
      obtain ⟨Y, hY⟩ : ∃ e, d[a]! = e := ⟨_, rfl⟩
      have HX : Hid (d.toList[h]? = some X) := Lib.hid (by rw [← hX]; exact get_some d (by rw [ST.out.len]; exact hxn))
      have HY : Hid (d.toList[a]? = some Y) := Lib.hid (by rw [← hY]; exact get_some d (by rw [ST.out.len]; exact hyn))
      obtain ⟨v, hv⟩ : ∃ v, cmpE X Y = v := ⟨_, rfl⟩
      have HV := Lib.hid hv
      have hp : PD ((i + j) / 2) = decide (v < 0) := by
        rw [hh, HPD.out, hX, hY]
        unfold ltE
        rw [hv]
      have NXT : Hid ((decide (v < 0)) = true → bsR PD (h + 1) j = r) := Lib.hid (fun hv0 => by rw [← HS.out.2, bsR_go hlt, hp, if_pos hv0, hh])
      have NXF : Hid ((decide (v < 0)) = false → bsR PD i h = r) := Lib.hid (fun hv0 => by rw [← HS.out.2, bsR_go hlt, hp, if_neg (by rw [hv0]; decide), hh])
      have x0 : (0 : Int) ≤ ((h : Nat) : Int) := by omega
      have x1 : ((h : Nat) : Int) < (n : Int) := by omega
      have y0 : (0 : Int) ≤ ((a : Nat) : Int) := by omega
      have y1 : ((a : Nat) : Int) < (n : Int) := by omega
      have hhj : h < j := by omega
      have hih : i ≤ h := by omega
      clear hX hY hp HS hv hh
      go_upto_region 5 with fail
      refine wp_region_last 10 (fun w' => SrW w0 B g n c d w') (by kernel_rfl) (ST.out.drew) (fun hHeld hClosed => ?_)
      refine wpAnyL_take (i := 0) (v := ?_) rfl (by kernel_rfl) (by kernel_rfl) (by kernel_rfl) (by kernel_rfl) (fun _ _ _ h => h) (by kernel_rfl) hClosed (Or.inl ⟨by rfl, ?_⟩) hHeld (fun hClosed => ?_)
      rotate_left
      · intro wv hSw; go_simp; all_goals (with_reducible rfl)
      (try simp only [List.getElem_toArray, List.getElem_cons_zero, put_at, List.set])
      refine wpAnyL_take (i := 1) (v := ?_) rfl (by kernel_rfl) (by kernel_rfl) (by kernel_rfl) (by kernel_rfl) (fun _ _ _ h => h) (by kernel_rfl) hClosed (Or.inl ⟨by rfl, ?_⟩) hHeld (fun hClosed => ?_)
      rotate_left
      · intro wv hSw; go_simp; all_goals (with_reducible rfl)
      (try simp only [List.getElem_toArray, List.getElem_cons_succ, List.getElem_cons_zero, put_at, List.set])
      refine wpAnyL_take (i := 2) (v := ?_) rfl (by kernel_rfl) (by kernel_rfl) (by kernel_rfl) (by kernel_rfl) (fun _ _ _ h => h) (by kernel_rfl) hClosed (Or.inl ⟨by rfl, ?_⟩) hHeld (fun hClosed => ?_)
      rotate_left
      · intro wv hSw; go_simp; all_goals (with_reducible rfl)
      (try simp only [List.getElem_toArray, List.getElem_cons_succ, List.getElem_cons_zero, put_at, List.set])
      refine wpAnyL_take (i := 3) (v := ?_) rfl (by kernel_rfl) (by kernel_rfl) (by kernel_rfl) (by kernel_rfl) (fun _ _ _ h => h) (by kernel_rfl) hClosed (Or.inl ⟨by rfl, ?_⟩) hHeld (fun hClosed => ?_)
      rotate_left
      · intro wv hSw; go_simp; all_goals (with_reducible rfl)
      (try simp only [List.getElem_toArray, List.getElem_cons_succ, List.getElem_cons_zero, put_at, List.set])
      refine wpAnyL_take (i := 4) (v := .agg (enE X).toArray) rfl (by kernel_rfl) (by kernel_rfl) (by kernel_rfl) (by kernel_rfl) (fun _ _ _ h => h) (by kernel_rfl) hClosed (Or.inl ⟨by rfl, ?_⟩) hHeld (fun hClosed => ?_)
      · intro wv hSw; exact exec_load_at (by rfl) (by rfl) (own_elem enE_len hSw.own HX.out) Tryz.underlying125 rfl (by kernel_rfl)
      (try simp only [List.getElem_toArray, List.getElem_cons_succ, List.getElem_cons_zero, put_at, List.set])
      refine wpAnyL_take (i := 5) (v := ?_) rfl (by kernel_rfl) (by kernel_rfl) (by kernel_rfl) (by kernel_rfl) (fun _ _ _ h => h) (by kernel_rfl) hClosed (Or.inl ⟨by rfl, ?_⟩) hHeld (fun hClosed => ?_)
      rotate_left
      · intro wv hSw; go_simp; all_goals (with_reducible rfl)
      (try simp only [List.getElem_toArray, List.getElem_cons_succ, List.getElem_cons_zero, put_at, List.set])
      refine wpAnyL_take (i := 6) (v := ?_) rfl (by kernel_rfl) (by kernel_rfl) (by kernel_rfl) (by kernel_rfl) (fun _ _ _ h => h) (by kernel_rfl) hClosed (Or.inl ⟨by rfl, ?_⟩) hHeld (fun hClosed => ?_)
      rotate_left
      · intro wv hSw; go_simp; all_goals (with_reducible rfl)
      (try simp only [List.getElem_toArray, List.getElem_cons_succ, List.getElem_cons_zero, put_at, List.set])
      refine wpAnyL_take (i := 7) (v := ?_) rfl (by kernel_rfl) (by kernel_rfl) (by kernel_rfl) (by kernel_rfl) (fun _ _ _ h => h) (by kernel_rfl) hClosed (Or.inl ⟨by rfl, ?_⟩) hHeld (fun hClosed => ?_)
      rotate_left
      · intro wv hSw; go_simp; all_goals (with_reducible rfl)
      (try simp only [List.getElem_toArray, List.getElem_cons_succ, List.getElem_cons_zero, put_at, List.set])
      refine wpAnyL_take (i := 8) (v := .agg (enE Y).toArray) rfl (by kernel_rfl) (by kernel_rfl) (by kernel_rfl) (by kernel_rfl) (fun _ _ _ h => h) (by kernel_rfl) hClosed (Or.inl ⟨by rfl, ?_⟩) hHeld (fun hClosed => ?_)
      · intro wv hSw; exact exec_load_at (by rfl) (by rfl) (own_elem enE_len hSw.own HY.out) Tryz.underlying125 rfl (by kernel_rfl)
      (try simp only [List.getElem_toArray, List.getElem_cons_succ, List.getElem_cons_zero, put_at, List.set])
      refine wpAnyL_one (i := 9) rfl (by kernel_rfl) (by kernel_rfl) hClosed (fun KK hK => ?_)
      go_simp
      refine (cmpE_at X Y _).mono ?_
      rintro e wq ⟨rfl, hwq⟩
      go_wp2_with fail
      refine hK.out _ _ ?_ (fun hClosed hHeld => ?_)
      · exact hHeld.later hwq
      clear hK KK
      (first | simp only [List.getElem_toArray, List.getElem_cons_succ, List.getElem_cons_zero, put_at, List.set] | (try simp only [put_at, List.set]))
      refine wpAnyL_last rfl (by kernel_rfl) (by kernel_rfl) (fun KK hK => ?_)
      go_simp
      refine hK.out _ _ ?_
      (try simp only [put_at, List.set])
      rw [HV.out]
      have ST2 := Lib.hid hHeld
      clear hHeld hClosed ST
      obtain ⟨q, hq⟩ : ∃ q, decide (v < 0) = q := ⟨_, rfl⟩
      rw [hq]
      have NXQ : Hid (if q = true then bsR PD (h + 1) j = r else bsR PD i h = r) := Lib.hid (by
        cases q with
        | true => exact NXT.out hq
        | false => exact NXF.out hq)
      clear NXT NXF HV hq
      cases q with
      | true =>
        have NX : Hid (SrW w0 B g n c d wq ∧ bsR PD (h + 1) j = r) := Lib.hid ⟨ST2.out, NXQ.out⟩
        clear NXQ ST2
        go_wp2_with fail
        go_roundw
        case rel => exact ⟨h + 1, j, by first | rfl | go_num, by first | rfl | go_num, by omega, by omega, by omega, NX⟩
        case measure => simp [intV]; omega
      | false =>
        have NX : Hid (SrW w0 B g n c d wq ∧ bsR PD i h = r) := Lib.hid ⟨ST2.out, NXQ.out⟩
        clear NXQ ST2
        go_wp2_with fail
        go_roundw
        case rel => exact ⟨i, h, by first | rfl | go_num, by first | rfl | go_num, by omega, by omega, by omega, NX⟩
        case measure => simp [intV]; omega
    · have d1 : decide ((i : Int) < (j : Int)) = false := decide_eq_false (by omega)
      have hji : j = i := by omega
      subst hji
      have hr : j = r := by rw [← HS.out.2, bsR_end (by omega)]
      subst hr
      have ST := Lib.hid HS.out.1
      clear HS
      have FE : Hid (F = upS d a (j - 1)) := HFA
      have ST0 : Hid (SrW w0 B g n c d wr ∧ upS d a (j - 1) = F) := Lib.hid ⟨ST.out, FE.out.symm⟩
      have wj1 : IntKind.i64.wrap ((j : Int) - 1) = ((j - 1 : Nat) : Int) := by rw [IntKind.wrap_i64]; omega
      obtain ⟨e, he⟩ : ∃ e, j - 1 = e := ⟨_, rfl⟩
      rw [he] at ST0 wj1
      have hen : e < n := by omega
      clear ST FE HFA
      go_wp2_with fail
      go_loopw [13] (fun vk wr => ∃ (k : Nat) (d : Array En), vk = .int .i64 (k : Int) ∧ a ≤ k ∧ k ≤ n ∧ Hid (SrW w0 B g n c d wr ∧ upS d k e = F)) (fun vk _ => n - (intV vk).toNat)
      case atStart => exact ⟨a, d, rfl, Nat.le_refl _, by omega, ST0⟩
      case round =>
        clear ST0 HPD
        obtain ⟨k, d, rfl, hak, hkn, HS⟩ := hrel
        by_cases hke : k < e
        · have d1 : decide ((k : Int) < (e : Int)) = true := decide_eq_true (by omega)
          have d1n : decide (k < e) = true := decide_eq_true hke
          have ST := Lib.hid HS.out.1
          have wk : IntKind.i64.wrap ((k : Int) + 1) = ((k + 1 : Nat) : Int) := by rw [IntKind.wrap_i64]; omega
          obtain ⟨X, hX⟩ : ∃ e, d[k]! = e := ⟨_, rfl⟩
          obtain ⟨Y, hY⟩ : ∃ e, d[k + 1]! = e := ⟨_, rfl⟩
          have HX : Hid (d.toList[k]? = some X) := Lib.hid (by rw [← hX]; exact get_some d (by rw [ST.out.len]; omega))
          have HY : Hid (d.toList[k + 1]? = some Y) := Lib.hid (by rw [← hY]; exact get_some d (by rw [ST.out.len]; omega))
          have HDL : Hid (d.toList.length = n) := Lib.hid (by rw [Array.length_toList]; exact ST.out.len)
          have LN : Hid (∀ w', Own w' B 125 4 (some ⟨g, 0, none⟩) n c (flE enE ((d.toList.set k Y).set (k + 1) X)) → Only (fun k => k = g) w0 w' → SrW w0 B g n c (swp d k (k + 1)) w' ∧ upS (swp d k (k + 1)) (k + 1) e = F) := Lib.hid (fun w' q1 q2 => ⟨ST.out.swp (by omega) (by omega) HX.out HY.out q1 q2, by rw [← HS.out.2, upS_go hke]⟩)
          obtain ⟨kk, hkk⟩ : ∃ kk, k + 1 = kk := ⟨_, rfl⟩
          rw [hkk] at wk HY LN
          have HKK := Lib.hid hkk
          have i0 : (0 : Int) ≤ (k : Int) := by omega
          have i1 : (k : Int) < (n : Int) := by omega
          have j0 : (0 : Int) ≤ (kk : Int) := by omega
          have j1 : (kk : Int) < (n : Int) := by omega
          have hkn2 : k < n := by omega
          have hkkn : kk < n := by omega
          clear hX hY HS hkk
          go_upto_region 11 with fail
          refine wp_region_lastM [15, 16, 17] (fun w' => Own w' B 125 4 (some ⟨g, 0, none⟩) n c (flE enE d.toList)) (by kernel_rfl) (ST.out.drew.own) (fun hHeld hClosed => ?_)
          refine wpAnyM_takeP (i := 0) (v := ?_) rfl (by kernel_rfl) (by kernel_rfl) (by kernel_rfl) (fun _ _ _ h => h) (by kernel_rfl) hClosed (Or.inl ⟨by rfl, ?_⟩) (fun _ => hHeld) (fun hClosed => ?_)
          rotate_left
          · intro wv hSw; go_simp; all_goals (with_reducible rfl)
          (try simp only [List.getElem_toArray, List.getElem_cons_zero, put_at, List.set])
          refine wpAnyM_takeP (i := 1) (v := ?_) rfl (by kernel_rfl) (by kernel_rfl) (by kernel_rfl) (fun _ _ _ h => h) (by kernel_rfl) hClosed (Or.inl ⟨by rfl, ?_⟩) (fun _ => hHeld) (fun hClosed => ?_)
          rotate_left
          · intro wv hSw; go_simp; all_goals (with_reducible rfl)
          (try simp only [List.getElem_toArray, List.getElem_cons_succ, List.getElem_cons_zero, put_at, List.set])
          refine wpAnyM_takeP (i := 2) (v := ?_) rfl (by kernel_rfl) (by kernel_rfl) (by kernel_rfl) (fun _ _ _ h => h) (by kernel_rfl) hClosed (Or.inl ⟨by rfl, ?_⟩) (fun _ => hHeld) (fun hClosed => ?_)
          rotate_left
          · intro wv hSw; go_simp; all_goals (with_reducible rfl)
          (try simp only [List.getElem_toArray, List.getElem_cons_succ, List.getElem_cons_zero, put_at, List.set])
          refine wpAnyM_takeP (i := 3) (v := ?_) rfl (by kernel_rfl) (by kernel_rfl) (by kernel_rfl) (fun _ _ _ h => h) (by kernel_rfl) hClosed (Or.inl ⟨by rfl, ?_⟩) (fun _ => hHeld) (fun hClosed => ?_)
          rotate_left
          · intro wv hSw; go_simp; all_goals (with_reducible rfl)
          (try simp only [List.getElem_toArray, List.getElem_cons_succ, List.getElem_cons_zero, put_at, List.set])
          refine wpAnyM_takeP (i := 4) (v := ?_) rfl (by kernel_rfl) (by kernel_rfl) (by kernel_rfl) (fun _ _ _ h => h) (by kernel_rfl) hClosed (Or.inl ⟨by rfl, ?_⟩) (fun _ => hHeld) (fun hClosed => ?_)
          rotate_left
          · intro wv hSw; go_simp; all_goals (with_reducible rfl)
          (try simp only [List.getElem_toArray, List.getElem_cons_succ, List.getElem_cons_zero, put_at, List.set])
          refine wpAnyM_takeP (i := 5) (v := ?_) rfl (by kernel_rfl) (by kernel_rfl) (by kernel_rfl) (fun _ _ _ h => h) (by kernel_rfl) hClosed (Or.inl ⟨by rfl, ?_⟩) (fun _ => hHeld) (fun hClosed => ?_)
          rotate_left
          · intro wv hSw; go_simp; all_goals (with_reducible rfl)
          (try simp only [List.getElem_toArray, List.getElem_cons_succ, List.getElem_cons_zero, put_at, List.set])
          refine wpAnyM_takeP (i := 6) (v := ?_) rfl (by kernel_rfl) (by kernel_rfl) (by kernel_rfl) (fun _ _ _ h => h) (by kernel_rfl) hClosed (Or.inl ⟨by rfl, ?_⟩) (fun _ => hHeld) (fun hClosed => ?_)
          rotate_left
          · intro wv hSw; go_simp; all_goals (with_reducible rfl)
          (try simp only [List.getElem_toArray, List.getElem_cons_succ, List.getElem_cons_zero, put_at, List.set])
          refine wpAnyM_takeP (i := 7) (v := ?_) rfl (by kernel_rfl) (by kernel_rfl) (by kernel_rfl) (fun _ _ _ h => h) (by kernel_rfl) hClosed (Or.inl ⟨by rfl, ?_⟩) (fun _ => hHeld) (fun hClosed => ?_)
          rotate_left
          · intro wv hSw; go_simp; all_goals (with_reducible rfl)
          (try simp only [List.getElem_toArray, List.getElem_cons_succ, List.getElem_cons_zero, put_at, List.set])
          refine wpAnyM_takeP (i := 8) (v := ?_) rfl (by kernel_rfl) (by kernel_rfl) (by kernel_rfl) (fun _ _ _ h => h) (by kernel_rfl) hClosed (Or.inl ⟨by rfl, ?_⟩) (fun _ => hHeld) (fun hClosed => ?_)
          rotate_left
          · intro wv hSw; go_simp; all_goals (with_reducible rfl)
          (try simp only [List.getElem_toArray, List.getElem_cons_succ, List.getElem_cons_zero, put_at, List.set])
          refine wpAnyM_take (i := 9) (v := .agg (enE Y).toArray) rfl (by kernel_rfl) (by kernel_rfl) (by kernel_rfl) (by kernel_rfl) (fun _ _ _ h => h) (by kernel_rfl) hClosed (Or.inl ⟨by rfl, ?_⟩) (fun _ => hHeld) (fun hClosed => ?_)
          · intro wv hSw; exact exec_load_at (by rfl) (by rfl) (own_elem enE_len hSw HY.out) Tryz.underlying125 rfl (by kernel_rfl)
          (try simp only [List.getElem_toArray, List.getElem_cons_succ, List.getElem_cons_zero, put_at, List.set])
          refine wpAnyM_takeP (i := 10) (v := ?_) rfl (by kernel_rfl) (by kernel_rfl) (by kernel_rfl) (fun _ _ _ h => h) (by kernel_rfl) hClosed (Or.inl ⟨by rfl, ?_⟩) (fun _ => hHeld) (fun hClosed => ?_)
          rotate_left
          · intro wv hSw; go_simp; all_goals (with_reducible rfl)
          (try simp only [List.getElem_toArray, List.getElem_cons_succ, List.getElem_cons_zero, put_at, List.set])
          refine wpAnyM_takeP (i := 11) (v := ?_) rfl (by kernel_rfl) (by kernel_rfl) (by kernel_rfl) (fun _ _ _ h => h) (by kernel_rfl) hClosed (Or.inl ⟨by rfl, ?_⟩) (fun _ => hHeld) (fun hClosed => ?_)
          rotate_left
          · intro wv hSw; go_simp; all_goals (with_reducible rfl)
          (try simp only [List.getElem_toArray, List.getElem_cons_succ, List.getElem_cons_zero, put_at, List.set])
          refine wpAnyM_takeP (i := 12) (v := ?_) rfl (by kernel_rfl) (by kernel_rfl) (by kernel_rfl) (fun _ _ _ h => h) (by kernel_rfl) hClosed (Or.inl ⟨by rfl, ?_⟩) (fun _ => hHeld) (fun hClosed => ?_)
          rotate_left
          · intro wv hSw; go_simp; all_goals (with_reducible rfl)
          (try simp only [List.getElem_toArray, List.getElem_cons_succ, List.getElem_cons_zero, put_at, List.set])
          refine wpAnyM_take (i := 13) (v := .agg (enE X).toArray) rfl (by kernel_rfl) (by kernel_rfl) (by kernel_rfl) (by kernel_rfl) (fun _ _ _ h => h) (by kernel_rfl) hClosed (Or.inl ⟨by rfl, ?_⟩) (fun _ => hHeld) (fun hClosed => ?_)
          · intro wv hSw; exact exec_load_at (by rfl) (by rfl) (own_elem enE_len hSw HX.out) Tryz.underlying125 rfl (by kernel_rfl)
          (try simp only [List.getElem_toArray, List.getElem_cons_succ, List.getElem_cons_zero, put_at, List.set])
          refine wpAnyM_takeP (i := 14) (v := ?_) rfl (by kernel_rfl) (by kernel_rfl) (by kernel_rfl) (fun _ _ _ h => h) (by kernel_rfl) hClosed (Or.inl ⟨by rfl, ?_⟩) (fun _ => hHeld) (fun hClosed => ?_)
          rotate_left
          · intro wv hSw; go_simp; all_goals (with_reducible rfl)
          (try simp only [List.getElem_toArray, List.getElem_cons_succ, List.getElem_cons_zero, put_at, List.set])
          refine wpAnyM_end (i := 15) rfl (by kernel_rfl) (by kernel_rfl) hClosed (fun KK hK => ?_)
          refine step_storeE rfl rfl rfl rfl enE_len enE_one (by kernel_rfl) hHeld HDL.out hkn2 ?_
          intro w1 p1 p2 p3
          refine hK.out _ _ (fun hClosed => ?_)
          clear hK KK
          (try simp only [List.getElem_toArray, List.getElem_cons_succ, List.getElem_cons_zero, put_at, List.set])
          refine wpAnyM_end (i := 16) rfl (by kernel_rfl) (by kernel_rfl) hClosed (fun KK hK => ?_)
          go_simp
          refine hK.out _ _ (fun hClosed => ?_)
          clear hK KK
          (try simp only [List.getElem_toArray, List.getElem_cons_succ, List.getElem_cons_zero, put_at, List.set])
          refine wpAnyM_end (i := 17) rfl (by kernel_rfl) (by kernel_rfl) hClosed (fun KK hK => ?_)
          refine step_storeE rfl rfl rfl rfl enE_len enE_one (by kernel_rfl) p1 (by rw [List.length_set]; exact HDL.out) hkkn ?_
          intro w2 p4 p5 p6
          refine hK.out _ _ (fun hClosed => ?_)
          clear hK KK
          (try simp only [List.getElem_toArray, List.getElem_cons_succ, List.getElem_cons_zero, put_at, List.set])
          refine wpAnyM_over (by kernel_rfl) ?_
          have NX2 := Lib.hid (LN.out _ p4 (only_grown (only_grown ST.out.drew.only p2) p5))
          clear p1 p2 p3 p4 p5 p6 hClosed hHeld ST
          go_wp2_with fail
          go_roundw
          case rel => exact ⟨kk, _, rfl, by have := HKK.out; omega, by omega, by rw [← HKK.out] at NX2 ⊢; exact NX2⟩
          case measure => simp [intV]; have := HKK.out; omega
        · have d1 : decide ((k : Int) < (e : Int)) = false := decide_eq_false (by omega)
          have FIN : Hid (SrW w0 B g n c F wr) := Lib.hid (by
            have h9 := HS.out.2
            rw [upS_end hke] at h9
            exact h9 ▸ HS.out.1)
          clear HS
          go_wp2_with fail
          exact bodyPost_ret (results_none Tryz.results107 _ _ _) rfl ⟨rfl, FIN.out⟩
set_option maxHeartbeats 8000000 in
theorem sym_kb (f : Nat) {w0 : World} {B g n c : Nat} (hn : n ≤ 100000000)
    (ih : ∀ (a m b : Nat) {w : World} {d : Array En}, SrW w0 B g n c d w → a < m → m < b → b ≤ n → b - a ≤ f → Calls Tryz.prog 107 #[.slice (some ⟨g, 0, none⟩) n c, .int .i64 (a : Int), .int .i64 (m : Int), .int .i64 (b : Int), .func (.func 74) #[] #[]] w fun e w' => e = .returned (.tuple #[]) ∧ SrW w0 B g n c (sym ltE f d a m b) w')
    (a m b : Nat) {w : World} {d : Array En} (h : SrW w0 B g n c d w) (h1 : a < m) (h2 : m < b) (h3 : b ≤ n) (hf : b - a ≤ f + 1) (hA : ¬ m - a = 1) (hB : b - m = 1) :
    Calls Tryz.prog 107 #[.slice (some ⟨g, 0, none⟩) n c, .int .i64 (a : Int), .int .i64 (m : Int), .int .i64 (b : Int), .func (.func 74) #[] #[]] w fun e w' => e = .returned (.tuple #[]) ∧ SrW w0 B g n c (sym ltE (f + 1) d a m b) w' := by
  obtain ⟨F, hF⟩ : ∃ F, sym ltE (f + 1) d a m b = F := ⟨_, rfl⟩
  rw [hF]
  have IH := Lib.hid ih
  clear ih
  have ENT : ∀ args w, (callFunc 74 args).run Tryz.prog w = .ok (.enter 74 args) w := enters_of Tryz.func74 (by kernel_rfl) rfl
  have ST := Lib.hid h
  have HF := Lib.hid hF
  have wma : IntKind.i64.wrap ((m : Int) - (a : Int)) = ((m - a : Nat) : Int) := by rw [IntKind.wrap_i64]; omega
  have wbm : IntKind.i64.wrap ((b : Int) - (m : Int)) = ((b - m : Nat) : Int) := by rw [IntKind.wrap_i64]; omega
  clear h hF
  have dA : (((m - a : Nat) : Int) == 1) = false := beq_eq_false_iff_ne.2 (by omega)
  have dB : (((b - m : Nat) : Int) == 1) = true := beq_iff_eq.2 (by omega)
  obtain ⟨PD, hPD⟩ : ∃ PD : Nat → Bool, (fun h => !ltE d[m]! d[h]!) = PD := ⟨_, rfl⟩
  have HPD : Hid (∀ h, PD h = !ltE d[m]! d[h]!) := Lib.hid (fun h => by rw [← hPD])
  obtain ⟨r, hr⟩ : ∃ r, bsR PD a m = r := ⟨_, rfl⟩
  have HFB : Hid (F = dnS r m d) := Lib.hid (by rw [← HF.out]; unfold sym; rw [if_neg hA, if_pos hB, hPD, hr])
  have BS0 : Hid (SrW w0 B g n c d w ∧ bsR PD a m = r) := Lib.hid ⟨ST.out, hr⟩
  clear hr ST HF hPD
  go_enter Tryz.func107, Tryz.ntmps107
  go_wp2_with fail
  go_loopw [14, 15] (fun vi vj wr => ∃ (i j : Nat), vi = .int .i64 (i : Int) ∧ vj = .int .i64 (j : Int) ∧ a ≤ i ∧ i ≤ j ∧ j ≤ m ∧ Hid (SrW w0 B g n c d wr ∧ bsR PD i j = r)) (fun vi vj _ => (intV vj).toNat - (intV vi).toNat)
  case atStart => exact ⟨_, _, rfl, rfl, Nat.le_refl _, by omega, Nat.le_refl _, BS0⟩
  case round =>
    clear BS0
    obtain ⟨i, j, rfl, rfl, hlo, hij, hhi, HS⟩ := hrel
    by_cases hlt : i < j
    · have d1 : decide ((i : Int) < (j : Int)) = true := decide_eq_true (by omega)
      have d1n : decide (i < j) = true := decide_eq_true hlt
      obtain ⟨h, hh⟩ : ∃ h, (i + j) / 2 = h := ⟨_, rfl⟩
      have hh2 : ((i : Int) + (j : Int)) / 2 = (h : Int) := by omega
      have ST := Lib.hid HS.out.1
      have hxn : m < n := by omega
      have hyn : h < n := by omega
      obtain ⟨X, hX⟩ : ∃ e, d[m]! = e := ⟨_, rfl⟩
      obtain ⟨Y, hY⟩ : ∃ e, d[h]! = e := ⟨_, rfl⟩
      have HX : Hid (d.toList[m]? = some X) := Lib.hid (by rw [← hX]; exact get_some d (by rw [ST.out.len]; exact hxn))
      have HY : Hid (d.toList[h]? = some Y) := Lib.hid (by rw [← hY]; exact get_some d (by rw [ST.out.len]; exact hyn))
      obtain ⟨v, hv⟩ : ∃ v, cmpE X Y = v := ⟨_, rfl⟩
      have HV := Lib.hid hv
      have hp : PD ((i + j) / 2) = !decide (v < 0) := by
        rw [hh, HPD.out, hX, hY]
        unfold ltE
        rw [hv]
      have NXT : Hid ((!decide (v < 0)) = true → bsR PD (h + 1) j = r) := Lib.hid (fun hv0 => by rw [← HS.out.2, bsR_go hlt, hp, if_pos hv0, hh])
      have NXF : Hid ((!decide (v < 0)) = false → bsR PD i h = r) := Lib.hid (fun hv0 => by rw [← HS.out.2, bsR_go hlt, hp, if_neg (by rw [hv0]; decide), hh])
      have x0 : (0 : Int) ≤ ((m : Nat) : Int) := by omega
      have x1 : ((m : Nat) : Int) < (n : Int) := by omega
      have y0 : (0 : Int) ≤ ((h : Nat) : Int) := by omega
      have y1 : ((h : Nat) : Int) < (n : Int) := by omega
      have hhj : h < j := by omega
      have hih : i ≤ h := by omega
      clear hX hY hp HS hv hh
      go_upto_region 17 with fail
      refine wp_region_last 11 (fun w' => SrW w0 B g n c d w') (by kernel_rfl) (ST.out.drew) (fun hHeld hClosed => ?_)
      refine wpAnyL_take (i := 0) (v := ?_) rfl (by kernel_rfl) (by kernel_rfl) (by kernel_rfl) (by kernel_rfl) (fun _ _ _ h => h) (by kernel_rfl) hClosed (Or.inl ⟨by rfl, ?_⟩) hHeld (fun hClosed => ?_)
      rotate_left
      · intro wv hSw; go_simp; all_goals (with_reducible rfl)
      (try simp only [List.getElem_toArray, List.getElem_cons_zero, put_at, List.set])
      refine wpAnyL_take (i := 1) (v := ?_) rfl (by kernel_rfl) (by kernel_rfl) (by kernel_rfl) (by kernel_rfl) (fun _ _ _ h => h) (by kernel_rfl) hClosed (Or.inl ⟨by rfl, ?_⟩) hHeld (fun hClosed => ?_)
      rotate_left
      · intro wv hSw; go_simp; all_goals (with_reducible rfl)
      (try simp only [List.getElem_toArray, List.getElem_cons_succ, List.getElem_cons_zero, put_at, List.set])
      refine wpAnyL_take (i := 2) (v := ?_) rfl (by kernel_rfl) (by kernel_rfl) (by kernel_rfl) (by kernel_rfl) (fun _ _ _ h => h) (by kernel_rfl) hClosed (Or.inl ⟨by rfl, ?_⟩) hHeld (fun hClosed => ?_)
      rotate_left
      · intro wv hSw; go_simp; all_goals (with_reducible rfl)
      (try simp only [List.getElem_toArray, List.getElem_cons_succ, List.getElem_cons_zero, put_at, List.set])
      refine wpAnyL_take (i := 3) (v := ?_) rfl (by kernel_rfl) (by kernel_rfl) (by kernel_rfl) (by kernel_rfl) (fun _ _ _ h => h) (by kernel_rfl) hClosed (Or.inl ⟨by rfl, ?_⟩) hHeld (fun hClosed => ?_)
      rotate_left
      · intro wv hSw; go_simp; all_goals (with_reducible rfl)
      (try simp only [List.getElem_toArray, List.getElem_cons_succ, List.getElem_cons_zero, put_at, List.set])
      refine wpAnyL_take (i := 4) (v := .agg (enE X).toArray) rfl (by kernel_rfl) (by kernel_rfl) (by kernel_rfl) (by kernel_rfl) (fun _ _ _ h => h) (by kernel_rfl) hClosed (Or.inl ⟨by rfl, ?_⟩) hHeld (fun hClosed => ?_)
      · intro wv hSw; exact exec_load_at (by rfl) (by rfl) (own_elem enE_len hSw.own HX.out) Tryz.underlying125 rfl (by kernel_rfl)
      (try simp only [List.getElem_toArray, List.getElem_cons_succ, List.getElem_cons_zero, put_at, List.set])
      refine wpAnyL_take (i := 5) (v := ?_) rfl (by kernel_rfl) (by kernel_rfl) (by kernel_rfl) (by kernel_rfl) (fun _ _ _ h => h) (by kernel_rfl) hClosed (Or.inl ⟨by rfl, ?_⟩) hHeld (fun hClosed => ?_)
      rotate_left
      · intro wv hSw; go_simp; all_goals (with_reducible rfl)
      (try simp only [List.getElem_toArray, List.getElem_cons_succ, List.getElem_cons_zero, put_at, List.set])
      refine wpAnyL_take (i := 6) (v := ?_) rfl (by kernel_rfl) (by kernel_rfl) (by kernel_rfl) (by kernel_rfl) (fun _ _ _ h => h) (by kernel_rfl) hClosed (Or.inl ⟨by rfl, ?_⟩) hHeld (fun hClosed => ?_)
      rotate_left
      · intro wv hSw; go_simp; all_goals (with_reducible rfl)
      (try simp only [List.getElem_toArray, List.getElem_cons_succ, List.getElem_cons_zero, put_at, List.set])
      refine wpAnyL_take (i := 7) (v := ?_) rfl (by kernel_rfl) (by kernel_rfl) (by kernel_rfl) (by kernel_rfl) (fun _ _ _ h => h) (by kernel_rfl) hClosed (Or.inl ⟨by rfl, ?_⟩) hHeld (fun hClosed => ?_)
      rotate_left
      · intro wv hSw; go_simp; all_goals (with_reducible rfl)
      (try simp only [List.getElem_toArray, List.getElem_cons_succ, List.getElem_cons_zero, put_at, List.set])
      refine wpAnyL_take (i := 8) (v := .agg (enE Y).toArray) rfl (by kernel_rfl) (by kernel_rfl) (by kernel_rfl) (by kernel_rfl) (fun _ _ _ h => h) (by kernel_rfl) hClosed (Or.inl ⟨by rfl, ?_⟩) hHeld (fun hClosed => ?_)
      · intro wv hSw; exact exec_load_at (by rfl) (by rfl) (own_elem enE_len hSw.own HY.out) Tryz.underlying125 rfl (by kernel_rfl)
      (try simp only [List.getElem_toArray, List.getElem_cons_succ, List.getElem_cons_zero, put_at, List.set])
      refine wpAnyL_one (i := 9) rfl (by kernel_rfl) (by kernel_rfl) hClosed (fun KK hK => ?_)
      go_simp
      refine (cmpE_at X Y _).mono ?_
      rintro e wq ⟨rfl, hwq⟩
      go_wp2_with fail
      refine hK.out _ _ ?_ (fun hClosed hHeld => ?_)
      · exact hHeld.later hwq
      clear hK KK
      (first | simp only [List.getElem_toArray, List.getElem_cons_succ, List.getElem_cons_zero, put_at, List.set] | (try simp only [put_at, List.set]))
      refine wpAnyL_take (i := 10) (v := ?_) rfl (by kernel_rfl) (by kernel_rfl) (by kernel_rfl) (by kernel_rfl) (fun _ _ _ h => h) (by kernel_rfl) hClosed (Or.inl ⟨by rfl, ?_⟩) hHeld (fun hClosed => ?_)
      rotate_left
      · intro wv hSw; go_simp; all_goals (with_reducible rfl)
      (try simp only [List.getElem_toArray, List.getElem_cons_succ, List.getElem_cons_zero, put_at, List.set])
      refine wpAnyL_last rfl (by kernel_rfl) (by kernel_rfl) (fun KK hK => ?_)
      go_simp
      refine hK.out _ _ ?_
      (try simp only [put_at, List.set])
      rw [HV.out]
      have ST2 := Lib.hid hHeld
      clear hHeld hClosed ST
      obtain ⟨q, hq⟩ : ∃ q, (!decide (v < 0)) = q := ⟨_, rfl⟩
      rw [hq]
      have NXQ : Hid (if q = true then bsR PD (h + 1) j = r else bsR PD i h = r) := Lib.hid (by
        cases q with
        | true => exact NXT.out hq
        | false => exact NXF.out hq)
      clear NXT NXF HV hq
      cases q with
      | true =>
        have NX : Hid (SrW w0 B g n c d wq ∧ bsR PD (h + 1) j = r) := Lib.hid ⟨ST2.out, NXQ.out⟩
        clear NXQ ST2
        go_wp2_with fail
        go_roundw
        case rel => exact ⟨h + 1, j, by first | rfl | go_num, by first | rfl | go_num, by omega, by omega, by omega, NX⟩
        case measure => simp [intV]; omega
      | false =>
        have NX : Hid (SrW w0 B g n c d wq ∧ bsR PD i h = r) := Lib.hid ⟨ST2.out, NXQ.out⟩
        clear NXQ ST2
        go_wp2_with fail
        go_roundw
        case rel => exact ⟨i, h, by first | rfl | go_num, by first | rfl | go_num, by omega, by omega, by omega, NX⟩
        case measure => simp [intV]; omega
    · have d1 : decide ((i : Int) < (j : Int)) = false := decide_eq_false (by omega)
      have hji : j = i := by omega
      subst hji
      have hr : j = r := by rw [← HS.out.2, bsR_end (by omega)]
      subst hr
      have ST := Lib.hid HS.out.1
      clear HS
      have ST0 : Hid (SrW w0 B g n c d wr ∧ dnS j m d = F) := Lib.hid ⟨ST.out, HFB.out.symm⟩
      clear ST HFB
      go_wp2_with fail
      go_loopw [17] (fun vk wr => ∃ (k : Nat) (d : Array En), vk = .int .i64 (k : Int) ∧ k ≤ m ∧ Hid (SrW w0 B g n c d wr ∧ dnS j k d = F)) (fun vk _ => (intV vk).toNat)
      case atStart => exact ⟨m, d, rfl, Nat.le_refl _, ST0⟩
      case round =>
        clear ST0 HPD
        obtain ⟨k, d, rfl, hkm, HS⟩ := hrel
        by_cases hjk : j < k
        · obtain ⟨k, rfl⟩ : ∃ q, k = q + 1 := ⟨k - 1, by omega⟩
          have d1 : decide (((k + 1 : Nat) : Int) > (j : Int)) = true := decide_eq_true (by omega)
          have d1' : decide ((j : Int) < ((k + 1 : Nat) : Int)) = true := d1
          have d1n : decide (j < k + 1) = true := decide_eq_true hjk
          have ST := Lib.hid HS.out.1
          have wk : IntKind.i64.wrap (((k + 1 : Nat) : Int) - 1) = (k : Int) := by rw [IntKind.wrap_i64]; omega
          obtain ⟨X, hX⟩ : ∃ e, d[k + 1]! = e := ⟨_, rfl⟩
          obtain ⟨Y, hY⟩ : ∃ e, d[k]! = e := ⟨_, rfl⟩
          have HX : Hid (d.toList[k + 1]? = some X) := Lib.hid (by rw [← hX]; exact get_some d (by rw [ST.out.len]; omega))
          have HY : Hid (d.toList[k]? = some Y) := Lib.hid (by rw [← hY]; exact get_some d (by rw [ST.out.len]; omega))
          have HDL : Hid (d.toList.length = n) := Lib.hid (by rw [Array.length_toList]; exact ST.out.len)
          have LN : Hid (∀ w', Own w' B 125 4 (some ⟨g, 0, none⟩) n c (flE enE ((d.toList.set (k + 1) Y).set k X)) → Only (fun k => k = g) w0 w' → SrW w0 B g n c (swp d (k + 1) k) w' ∧ dnS j k (swp d (k + 1) k) = F) := Lib.hid (fun w' q1 q2 => ⟨ST.out.swp (by omega) (by omega) HX.out HY.out q1 q2, by
            have h9 := HS.out.2
            unfold dnS at h9
            rw [if_pos hjk] at h9
            exact h9⟩)
          obtain ⟨kk, hkk⟩ : ∃ kk, k + 1 = kk := ⟨_, rfl⟩
          rw [hkk] at d1 d1' d1n wk HX LN hjk hkm ⊢
          have HKK := Lib.hid hkk
          have i0 : (0 : Int) ≤ (k : Int) := by omega
          have i1 : (k : Int) < (n : Int) := by omega
          have j0 : (0 : Int) ≤ (kk : Int) := by omega
          have j1 : (kk : Int) < (n : Int) := by omega
          have hkn2 : k < n := by omega
          have hkkn : kk < n := by omega
          clear hX hY HS hkk
          go_upto_region 23 with fail
          refine wp_region_lastM [15, 16, 17] (fun w' => Own w' B 125 4 (some ⟨g, 0, none⟩) n c (flE enE d.toList)) (by kernel_rfl) (ST.out.drew.own) (fun hHeld hClosed => ?_)
          refine wpAnyM_takeP (i := 0) (v := ?_) rfl (by kernel_rfl) (by kernel_rfl) (by kernel_rfl) (fun _ _ _ h => h) (by kernel_rfl) hClosed (Or.inl ⟨by rfl, ?_⟩) (fun _ => hHeld) (fun hClosed => ?_)
          rotate_left
          · intro wv hSw; go_simp; all_goals (with_reducible rfl)
          (try simp only [List.getElem_toArray, List.getElem_cons_zero, put_at, List.set])
          refine wpAnyM_takeP (i := 1) (v := ?_) rfl (by kernel_rfl) (by kernel_rfl) (by kernel_rfl) (fun _ _ _ h => h) (by kernel_rfl) hClosed (Or.inl ⟨by rfl, ?_⟩) (fun _ => hHeld) (fun hClosed => ?_)
          rotate_left
          · intro wv hSw; go_simp; all_goals (with_reducible rfl)
          (try simp only [List.getElem_toArray, List.getElem_cons_succ, List.getElem_cons_zero, put_at, List.set])
          refine wpAnyM_takeP (i := 2) (v := ?_) rfl (by kernel_rfl) (by kernel_rfl) (by kernel_rfl) (fun _ _ _ h => h) (by kernel_rfl) hClosed (Or.inl ⟨by rfl, ?_⟩) (fun _ => hHeld) (fun hClosed => ?_)
          rotate_left
          · intro wv hSw; go_simp; all_goals (with_reducible rfl)
          (try simp only [List.getElem_toArray, List.getElem_cons_succ, List.getElem_cons_zero, put_at, List.set])
          refine wpAnyM_takeP (i := 3) (v := ?_) rfl (by kernel_rfl) (by kernel_rfl) (by kernel_rfl) (fun _ _ _ h => h) (by kernel_rfl) hClosed (Or.inl ⟨by rfl, ?_⟩) (fun _ => hHeld) (fun hClosed => ?_)
          rotate_left
          · intro wv hSw; go_simp; all_goals (with_reducible rfl)
          (try simp only [List.getElem_toArray, List.getElem_cons_succ, List.getElem_cons_zero, put_at, List.set])
          refine wpAnyM_takeP (i := 4) (v := ?_) rfl (by kernel_rfl) (by kernel_rfl) (by kernel_rfl) (fun _ _ _ h => h) (by kernel_rfl) hClosed (Or.inl ⟨by rfl, ?_⟩) (fun _ => hHeld) (fun hClosed => ?_)
          rotate_left
          · intro wv hSw; go_simp; all_goals (with_reducible rfl)
          (try simp only [List.getElem_toArray, List.getElem_cons_succ, List.getElem_cons_zero, put_at, List.set])
          refine wpAnyM_takeP (i := 5) (v := ?_) rfl (by kernel_rfl) (by kernel_rfl) (by kernel_rfl) (fun _ _ _ h => h) (by kernel_rfl) hClosed (Or.inl ⟨by rfl, ?_⟩) (fun _ => hHeld) (fun hClosed => ?_)
          rotate_left
          · intro wv hSw; go_simp; all_goals (with_reducible rfl)
          (try simp only [List.getElem_toArray, List.getElem_cons_succ, List.getElem_cons_zero, put_at, List.set])
          refine wpAnyM_takeP (i := 6) (v := ?_) rfl (by kernel_rfl) (by kernel_rfl) (by kernel_rfl) (fun _ _ _ h => h) (by kernel_rfl) hClosed (Or.inl ⟨by rfl, ?_⟩) (fun _ => hHeld) (fun hClosed => ?_)
          rotate_left
          · intro wv hSw; go_simp; all_goals (with_reducible rfl)
          (try simp only [List.getElem_toArray, List.getElem_cons_succ, List.getElem_cons_zero, put_at, List.set])
          refine wpAnyM_takeP (i := 7) (v := ?_) rfl (by kernel_rfl) (by kernel_rfl) (by kernel_rfl) (fun _ _ _ h => h) (by kernel_rfl) hClosed (Or.inl ⟨by rfl, ?_⟩) (fun _ => hHeld) (fun hClosed => ?_)
          rotate_left
          · intro wv hSw; go_simp; all_goals (with_reducible rfl)
          (try simp only [List.getElem_toArray, List.getElem_cons_succ, List.getElem_cons_zero, put_at, List.set])
          refine wpAnyM_takeP (i := 8) (v := ?_) rfl (by kernel_rfl) (by kernel_rfl) (by kernel_rfl) (fun _ _ _ h => h) (by kernel_rfl) hClosed (Or.inl ⟨by rfl, ?_⟩) (fun _ => hHeld) (fun hClosed => ?_)
          rotate_left
          · intro wv hSw; go_simp; all_goals (with_reducible rfl)
          (try simp only [List.getElem_toArray, List.getElem_cons_succ, List.getElem_cons_zero, put_at, List.set])
          refine wpAnyM_take (i := 9) (v := .agg (enE Y).toArray) rfl (by kernel_rfl) (by kernel_rfl) (by kernel_rfl) (by kernel_rfl) (fun _ _ _ h => h) (by kernel_rfl) hClosed (Or.inl ⟨by rfl, ?_⟩) (fun _ => hHeld) (fun hClosed => ?_)
          · intro wv hSw; exact exec_load_at (by rfl) (by rfl) (own_elem enE_len hSw HY.out) Tryz.underlying125 rfl (by kernel_rfl)
          (try simp only [List.getElem_toArray, List.getElem_cons_succ, List.getElem_cons_zero, put_at, List.set])
          refine wpAnyM_takeP (i := 10) (v := ?_) rfl (by kernel_rfl) (by kernel_rfl) (by kernel_rfl) (fun _ _ _ h => h) (by kernel_rfl) hClosed (Or.inl ⟨by rfl, ?_⟩) (fun _ => hHeld) (fun hClosed => ?_)
          rotate_left
          · intro wv hSw; go_simp; all_goals (with_reducible rfl)
          (try simp only [List.getElem_toArray, List.getElem_cons_succ, List.getElem_cons_zero, put_at, List.set])
          refine wpAnyM_takeP (i := 11) (v := ?_) rfl (by kernel_rfl) (by kernel_rfl) (by kernel_rfl) (fun _ _ _ h => h) (by kernel_rfl) hClosed (Or.inl ⟨by rfl, ?_⟩) (fun _ => hHeld) (fun hClosed => ?_)
          rotate_left
          · intro wv hSw; go_simp; all_goals (with_reducible rfl)
          (try simp only [List.getElem_toArray, List.getElem_cons_succ, List.getElem_cons_zero, put_at, List.set])
          refine wpAnyM_takeP (i := 12) (v := ?_) rfl (by kernel_rfl) (by kernel_rfl) (by kernel_rfl) (fun _ _ _ h => h) (by kernel_rfl) hClosed (Or.inl ⟨by rfl, ?_⟩) (fun _ => hHeld) (fun hClosed => ?_)
          rotate_left
          · intro wv hSw; go_simp; all_goals (with_reducible rfl)
          (try simp only [List.getElem_toArray, List.getElem_cons_succ, List.getElem_cons_zero, put_at, List.set])
          refine wpAnyM_take (i := 13) (v := .agg (enE X).toArray) rfl (by kernel_rfl) (by kernel_rfl) (by kernel_rfl) (by kernel_rfl) (fun _ _ _ h => h) (by kernel_rfl) hClosed (Or.inl ⟨by rfl, ?_⟩) (fun _ => hHeld) (fun hClosed => ?_)
          · intro wv hSw; exact exec_load_at (by rfl) (by rfl) (own_elem enE_len hSw HX.out) Tryz.underlying125 rfl (by kernel_rfl)
          (try simp only [List.getElem_toArray, List.getElem_cons_succ, List.getElem_cons_zero, put_at, List.set])
          refine wpAnyM_takeP (i := 14) (v := ?_) rfl (by kernel_rfl) (by kernel_rfl) (by kernel_rfl) (fun _ _ _ h => h) (by kernel_rfl) hClosed (Or.inl ⟨by rfl, ?_⟩) (fun _ => hHeld) (fun hClosed => ?_)
          rotate_left
          · intro wv hSw; go_simp; all_goals (with_reducible rfl)
          (try simp only [List.getElem_toArray, List.getElem_cons_succ, List.getElem_cons_zero, put_at, List.set])
          refine wpAnyM_end (i := 15) rfl (by kernel_rfl) (by kernel_rfl) hClosed (fun KK hK => ?_)
          refine step_storeE rfl rfl rfl rfl enE_len enE_one (by kernel_rfl) hHeld HDL.out hkkn ?_
          intro w1 p1 p2 p3
          refine hK.out _ _ (fun hClosed => ?_)
          clear hK KK
          (try simp only [List.getElem_toArray, List.getElem_cons_succ, List.getElem_cons_zero, put_at, List.set])
          refine wpAnyM_end (i := 16) rfl (by kernel_rfl) (by kernel_rfl) hClosed (fun KK hK => ?_)
          go_simp
          refine hK.out _ _ (fun hClosed => ?_)
          clear hK KK
          (try simp only [List.getElem_toArray, List.getElem_cons_succ, List.getElem_cons_zero, put_at, List.set])
          refine wpAnyM_end (i := 17) rfl (by kernel_rfl) (by kernel_rfl) hClosed (fun KK hK => ?_)
          refine step_storeE rfl rfl rfl rfl enE_len enE_one (by kernel_rfl) p1 (by rw [List.length_set]; exact HDL.out) hkn2 ?_
          intro w2 p4 p5 p6
          refine hK.out _ _ (fun hClosed => ?_)
          clear hK KK
          (try simp only [List.getElem_toArray, List.getElem_cons_succ, List.getElem_cons_zero, put_at, List.set])
          refine wpAnyM_over (by kernel_rfl) ?_
          have NX2 := Lib.hid (LN.out _ p4 (only_grown (only_grown ST.out.drew.only p2) p5))
          clear p1 p2 p3 p4 p5 p6 hClosed hHeld ST
          go_wp2_with fail
          go_roundw
          case rel => exact ⟨k, _, rfl, by have := HKK.out; omega, NX2⟩
          case measure => simp [intV]; have := HKK.out; omega
        · have d1 : decide ((k : Int) > (j : Int)) = false := decide_eq_false (by omega)
          have d1' : decide ((j : Int) < (k : Int)) = false := d1
          have FIN : Hid (SrW w0 B g n c F wr) := Lib.hid (by
            have h9 := HS.out.2
            have e9 : dnS j k d = d := by
              cases k with
              | zero => rfl
              | succ k => unfold dnS; rw [if_neg hjk]
            rw [e9] at h9
            exact h9 ▸ HS.out.1)
          clear HS
          go_wp2_with fail
          exact bodyPost_ret (results_none Tryz.results107 _ _ _) rfl ⟨rfl, FIN.out⟩
set_option maxHeartbeats 8000000 in
theorem sym_kc (f : Nat) {w0 : World} {B g n c : Nat} (hn : n ≤ 100000000)
    (ih : ∀ (a m b : Nat) {w : World} {d : Array En}, SrW w0 B g n c d w → a < m → m < b → b ≤ n → b - a ≤ f → Calls Tryz.prog 107 #[.slice (some ⟨g, 0, none⟩) n c, .int .i64 (a : Int), .int .i64 (m : Int), .int .i64 (b : Int), .func (.func 74) #[] #[]] w fun e w' => e = .returned (.tuple #[]) ∧ SrW w0 B g n c (sym ltE f d a m b) w')
    (a m b : Nat) {w : World} {d : Array En} (h : SrW w0 B g n c d w) (h1 : a < m) (h2 : m < b) (h3 : b ≤ n) (hf : b - a ≤ f + 1) (hA : ¬ m - a = 1) (hB : ¬ b - m = 1) :
    Calls Tryz.prog 107 #[.slice (some ⟨g, 0, none⟩) n c, .int .i64 (a : Int), .int .i64 (m : Int), .int .i64 (b : Int), .func (.func 74) #[] #[]] w fun e w' => e = .returned (.tuple #[]) ∧ SrW w0 B g n c (sym ltE (f + 1) d a m b) w' := by
  obtain ⟨F, hF⟩ : ∃ F, sym ltE (f + 1) d a m b = F := ⟨_, rfl⟩
  rw [hF]
  have IH := Lib.hid ih
  clear ih
  have ENT : ∀ args w, (callFunc 74 args).run Tryz.prog w = .ok (.enter 74 args) w := enters_of Tryz.func74 (by kernel_rfl) rfl
  have ST := Lib.hid h
  have HF := Lib.hid hF
  have wma : IntKind.i64.wrap ((m : Int) - (a : Int)) = ((m - a : Nat) : Int) := by rw [IntKind.wrap_i64]; omega
  have wbm : IntKind.i64.wrap ((b : Int) - (m : Int)) = ((b - m : Nat) : Int) := by rw [IntKind.wrap_i64]; omega
  clear h hF
  have dA : (((m - a : Nat) : Int) == 1) = false := beq_eq_false_iff_ne.2 (by omega)
  have dB : (((b - m : Nat) : Int) == 1) = false := beq_eq_false_iff_ne.2 (by omega)
  obtain ⟨mid, hmid⟩ : ∃ mid, (a + b) / 2 = mid := ⟨_, rfl⟩
  obtain ⟨nn, hnn⟩ : ∃ nn, mid + m = nn := ⟨_, rfl⟩
  obtain ⟨s0, hs0⟩ : ∃ s0, (if mid < m then nn - b else a) = s0 := ⟨_, rfl⟩
  obtain ⟨r0, hr0⟩ : ∃ r0, (if mid < m then mid else m) = r0 := ⟨_, rfl⟩
  obtain ⟨r, hr⟩ : ∃ r, symS ltE d a m b = r := ⟨_, rfl⟩
  obtain ⟨D1, hD1⟩ : ∃ D1, sym1 ltE d a m b = D1 := ⟨_, rfl⟩
  obtain ⟨D2, hD2⟩ : ∃ D2, (if a < r ∧ r < (a + b) / 2 then sym ltE f D1 a r ((a + b) / 2) else D1) = D2 := ⟨_, rfl⟩
  have HSI := Lib.hid (symS_in ltE d h1 h2)
  rw [hr, hmid] at HSI
  have HMID := Lib.hid hmid
  have HNN := Lib.hid hnn
  have HD1f : Hid (D1 = if r < m ∧ m < (a + b) / 2 + m - r then rot m d (m - r) ((a + b) / 2 + m - r - m) else d) := Lib.hid (by rw [← hD1]; unfold sym1; rw [hr])
  have HD2f : Hid (D2 = if a < r ∧ r < (a + b) / 2 then sym ltE f D1 a r ((a + b) / 2) else D1) := Lib.hid hD2.symm
  have HFf : Hid (F = if (a + b) / 2 < (a + b) / 2 + m - r ∧ (a + b) / 2 + m - r < b then sym ltE f D2 ((a + b) / 2) ((a + b) / 2 + m - r) b else D2) := Lib.hid (by rw [← HF.out, sym_c hA hB, hr, hD1, hD2])
  obtain ⟨PD, hPD⟩ : ∃ PD : Nat → Bool, (fun c => !ltE d[nn - 1 - c]! d[c]!) = PD := ⟨_, rfl⟩
  have HPD : Hid (∀ c, PD c = !ltE d[nn - 1 - c]! d[c]!) := Lib.hid (fun c => by rw [← hPD])
  have BS1 : Hid (bsR PD s0 r0 = r) := Lib.hid (by rw [← hr, ← hs0, ← hr0, ← hPD]; unfold symS; rw [hmid, hnn])
  have hsr : s0 ≤ r0 ∧ r0 ≤ m ∧ r0 ≤ mid ∧ a ≤ s0 ∧ nn ≤ b + s0 := by rw [← hs0, ← hr0]; split <;> omega
  have hm2 : ((a : Int) + (b : Int)) / 2 = (mid : Int) := by omega
  have wnn : IntKind.i64.wrap ((mid : Int) + (m : Int)) = (nn : Int) := by rw [IntKind.wrap_i64]; omega
  have HS0 := Lib.hid hs0
  have HR0 := Lib.hid hr0
  have hmb : mid < b ∧ a < mid ∧ mid < nn ∧ m < nn ∧ nn ≤ 2 * n := by omega
  have hfm : mid - a ≤ f ∧ b - mid ≤ f := by omega
  clear hmid hnn hs0 hr0 hr hD1 hD2 HF hPD
  go_enter Tryz.func107, Tryz.ntmps107
  go_upto_if 140 with fail
  go_cut [20, 21] (fun v20 v21 wc => v20 = .int .i64 (s0 : Int) ∧ v21 = .int .i64 (r0 : Int) ∧ wc = w)
  case first =>
    as_aux_lemma =>
      by_cases c0 : mid < m
      · have dc : decide ((m : Int) > (mid : Int)) = true := decide_eq_true (by omega)
        have dc' : decide ((mid : Int) < (m : Int)) = true := dc
        have dcn : decide (mid < m) = true := decide_eq_true c0
        have hs9 := HS0.out
        have hr9 := HR0.out
        rw [if_pos c0] at hs9 hr9
        have wnb : IntKind.i64.wrap ((nn : Int) - (b : Int)) = (s0 : Int) := by rw [IntKind.wrap_i64]; have := HNN.out; omega
        subst hr9
        clear hs9
        go_wp2_with fail
        go_meet
        exact ⟨rfl, rfl, rfl⟩
      · have dc : decide ((m : Int) > (mid : Int)) = false := decide_eq_false (by omega)
        have dc' : decide ((mid : Int) < (m : Int)) = false := dc
        have dcn : decide (mid < m) = false := decide_eq_false c0
        have hs9 := HS0.out
        have hr9 := HR0.out
        rw [if_neg c0] at hs9 hr9
        subst hs9
        subst hr9
        go_wp2_with fail
        go_meet
        exact ⟨rfl, rfl, rfl⟩
  case rest =>
  obtain ⟨rfl, rfl, rfl⟩ := hcut
  have BS0 : Hid (SrW w0 B g n c d wc ∧ bsR PD s0 r0 = r) := Lib.hid ⟨ST.out, BS1.out⟩
  have wp1 : IntKind.i64.wrap ((nn : Int) - 1) = ((nn - 1 : Nat) : Int) := by rw [IntKind.wrap_i64]; omega
  clear ST BS1 HS0 HR0
  go_wp2_with fail
  go_loopw [20, 21] (fun vi vj wr => ∃ (i j : Nat), vi = .int .i64 (i : Int) ∧ vj = .int .i64 (j : Int) ∧ s0 ≤ i ∧ i ≤ j ∧ j ≤ r0 ∧ Hid (SrW w0 B g n c d wr ∧ bsR PD i j = r)) (fun vi vj _ => (intV vj).toNat - (intV vi).toNat)
  case atStart => exact ⟨_, _, rfl, rfl, Nat.le_refl _, by omega, Nat.le_refl _, BS0⟩
  case round =>
    clear BS0
    obtain ⟨i, j, rfl, rfl, hlo, hij, hhi, HS⟩ := hrel
    by_cases hlt : i < j
    · have d1 : decide ((i : Int) < (j : Int)) = true := decide_eq_true (by omega)
      have d1n : decide (i < j) = true := decide_eq_true hlt
      obtain ⟨h, hh⟩ : ∃ h, (i + j) / 2 = h := ⟨_, rfl⟩
      have hh2 : ((i : Int) + (j : Int)) / 2 = (h : Int) := by omega
      have ST := Lib.hid HS.out.1
      have hxn : nn - 1 - h < n := by omega
      have hyn : h < n := by omega
      obtain ⟨X, hX⟩ : ∃ e, d[nn - 1 - h]! = e := ⟨_, rfl⟩
      obtain ⟨Y, hY⟩ : ∃ e, d[h]! = e := ⟨_, rfl⟩
      have HX : Hid (d.toList[nn - 1 - h]? = some X) := Lib.hid (by rw [← hX]; exact get_some d (by rw [ST.out.len]; exact hxn))
      have HY : Hid (d.toList[h]? = some Y) := Lib.hid (by rw [← hY]; exact get_some d (by rw [ST.out.len]; exact hyn))
      obtain ⟨v, hv⟩ : ∃ v, cmpE X Y = v := ⟨_, rfl⟩
      have HV := Lib.hid hv
      have hp : PD ((i + j) / 2) = !decide (v < 0) := by
        rw [hh, HPD.out, hX, hY]
        unfold ltE
        rw [hv]
      have NXT : Hid ((!decide (v < 0)) = true → bsR PD (h + 1) j = r) := Lib.hid (fun hv0 => by rw [← HS.out.2, bsR_go hlt, hp, if_pos hv0, hh])
      have NXF : Hid ((!decide (v < 0)) = false → bsR PD i h = r) := Lib.hid (fun hv0 => by rw [← HS.out.2, bsR_go hlt, hp, if_neg (by rw [hv0]; decide), hh])
      have x0 : (0 : Int) ≤ ((nn - 1 - h : Nat) : Int) := by omega
      have x1 : ((nn - 1 - h : Nat) : Int) < (n : Int) := by omega
      have y0 : (0 : Int) ≤ ((h : Nat) : Int) := by omega
      have y1 : ((h : Nat) : Int) < (n : Int) := by omega
      have hhj : h < j := by omega
      have hih : i ≤ h := by omega
      have wph : IntKind.i64.wrap (((nn - 1 : Nat) : Int) - (h : Int)) = ((nn - 1 - h : Nat) : Int) := by rw [IntKind.wrap_i64]; omega
      clear hX hY hp HS hv hh
      go_upto_region 35 with fail
      refine wp_region_last 13 (fun w' => SrW w0 B g n c d w') (by kernel_rfl) (ST.out.drew) (fun hHeld hClosed => ?_)
      refine wpAnyL_take (i := 0) (v := ?_) rfl (by kernel_rfl) (by kernel_rfl) (by kernel_rfl) (by kernel_rfl) (fun _ _ _ h => h) (by kernel_rfl) hClosed (Or.inl ⟨by rfl, ?_⟩) hHeld (fun hClosed => ?_)
      rotate_left
      · intro wv hSw; go_simp; all_goals (with_reducible rfl)
      (try simp only [List.getElem_toArray, List.getElem_cons_zero, put_at, List.set])
      refine wpAnyL_take (i := 1) (v := ?_) rfl (by kernel_rfl) (by kernel_rfl) (by kernel_rfl) (by kernel_rfl) (fun _ _ _ h => h) (by kernel_rfl) hClosed (Or.inl ⟨by rfl, ?_⟩) hHeld (fun hClosed => ?_)
      rotate_left
      · intro wv hSw; go_simp; all_goals (with_reducible rfl)
      (try simp only [List.getElem_toArray, List.getElem_cons_succ, List.getElem_cons_zero, put_at, List.set])
      refine wpAnyL_take (i := 2) (v := ?_) rfl (by kernel_rfl) (by kernel_rfl) (by kernel_rfl) (by kernel_rfl) (fun _ _ _ h => h) (by kernel_rfl) hClosed (Or.inl ⟨by rfl, ?_⟩) hHeld (fun hClosed => ?_)
      rotate_left
      · intro wv hSw; go_simp; all_goals (with_reducible rfl)
      (try simp only [List.getElem_toArray, List.getElem_cons_succ, List.getElem_cons_zero, put_at, List.set])
      refine wpAnyL_take (i := 3) (v := ?_) rfl (by kernel_rfl) (by kernel_rfl) (by kernel_rfl) (by kernel_rfl) (fun _ _ _ h => h) (by kernel_rfl) hClosed (Or.inl ⟨by rfl, ?_⟩) hHeld (fun hClosed => ?_)
      rotate_left
      · intro wv hSw; go_simp; all_goals (with_reducible rfl)
      (try simp only [List.getElem_toArray, List.getElem_cons_succ, List.getElem_cons_zero, put_at, List.set])
      refine wpAnyL_take (i := 4) (v := ?_) rfl (by kernel_rfl) (by kernel_rfl) (by kernel_rfl) (by kernel_rfl) (fun _ _ _ h => h) (by kernel_rfl) hClosed (Or.inl ⟨by rfl, ?_⟩) hHeld (fun hClosed => ?_)
      rotate_left
      · intro wv hSw; go_simp; all_goals (with_reducible rfl)
      (try simp only [List.getElem_toArray, List.getElem_cons_succ, List.getElem_cons_zero, put_at, List.set])
      refine wpAnyL_take (i := 5) (v := ?_) rfl (by kernel_rfl) (by kernel_rfl) (by kernel_rfl) (by kernel_rfl) (fun _ _ _ h => h) (by kernel_rfl) hClosed (Or.inl ⟨by rfl, ?_⟩) hHeld (fun hClosed => ?_)
      rotate_left
      · intro wv hSw; go_simp; all_goals (with_reducible rfl)
      (try simp only [List.getElem_toArray, List.getElem_cons_succ, List.getElem_cons_zero, put_at, List.set])
      refine wpAnyL_take (i := 6) (v := .agg (enE X).toArray) rfl (by kernel_rfl) (by kernel_rfl) (by kernel_rfl) (by kernel_rfl) (fun _ _ _ h => h) (by kernel_rfl) hClosed (Or.inl ⟨by rfl, ?_⟩) hHeld (fun hClosed => ?_)
      · intro wv hSw; exact exec_load_at (by rfl) (by rfl) (own_elem enE_len hSw.own HX.out) Tryz.underlying125 rfl (by kernel_rfl)
      (try simp only [List.getElem_toArray, List.getElem_cons_succ, List.getElem_cons_zero, put_at, List.set])
      refine wpAnyL_take (i := 7) (v := ?_) rfl (by kernel_rfl) (by kernel_rfl) (by kernel_rfl) (by kernel_rfl) (fun _ _ _ h => h) (by kernel_rfl) hClosed (Or.inl ⟨by rfl, ?_⟩) hHeld (fun hClosed => ?_)
      rotate_left
      · intro wv hSw; go_simp; all_goals (with_reducible rfl)
      (try simp only [List.getElem_toArray, List.getElem_cons_succ, List.getElem_cons_zero, put_at, List.set])
      refine wpAnyL_take (i := 8) (v := ?_) rfl (by kernel_rfl) (by kernel_rfl) (by kernel_rfl) (by kernel_rfl) (fun _ _ _ h => h) (by kernel_rfl) hClosed (Or.inl ⟨by rfl, ?_⟩) hHeld (fun hClosed => ?_)
      rotate_left
      · intro wv hSw; go_simp; all_goals (with_reducible rfl)
      (try simp only [List.getElem_toArray, List.getElem_cons_succ, List.getElem_cons_zero, put_at, List.set])
      refine wpAnyL_take (i := 9) (v := ?_) rfl (by kernel_rfl) (by kernel_rfl) (by kernel_rfl) (by kernel_rfl) (fun _ _ _ h => h) (by kernel_rfl) hClosed (Or.inl ⟨by rfl, ?_⟩) hHeld (fun hClosed => ?_)
      rotate_left
      · intro wv hSw; go_simp; all_goals (with_reducible rfl)
      (try simp only [List.getElem_toArray, List.getElem_cons_succ, List.getElem_cons_zero, put_at, List.set])
      refine wpAnyL_take (i := 10) (v := .agg (enE Y).toArray) rfl (by kernel_rfl) (by kernel_rfl) (by kernel_rfl) (by kernel_rfl) (fun _ _ _ h => h) (by kernel_rfl) hClosed (Or.inl ⟨by rfl, ?_⟩) hHeld (fun hClosed => ?_)
      · intro wv hSw; exact exec_load_at (by rfl) (by rfl) (own_elem enE_len hSw.own HY.out) Tryz.underlying125 rfl (by kernel_rfl)
      (try simp only [List.getElem_toArray, List.getElem_cons_succ, List.getElem_cons_zero, put_at, List.set])
      refine wpAnyL_one (i := 11) rfl (by kernel_rfl) (by kernel_rfl) hClosed (fun KK hK => ?_)
      go_simp
      refine (cmpE_at X Y _).mono ?_
      rintro e wq ⟨rfl, hwq⟩
      go_wp2_with fail
      refine hK.out _ _ ?_ (fun hClosed hHeld => ?_)
      · exact hHeld.later hwq
      clear hK KK
      (first | simp only [List.getElem_toArray, List.getElem_cons_succ, List.getElem_cons_zero, put_at, List.set] | (try simp only [put_at, List.set]))
      refine wpAnyL_take (i := 12) (v := ?_) rfl (by kernel_rfl) (by kernel_rfl) (by kernel_rfl) (by kernel_rfl) (fun _ _ _ h => h) (by kernel_rfl) hClosed (Or.inl ⟨by rfl, ?_⟩) hHeld (fun hClosed => ?_)
      rotate_left
      · intro wv hSw; go_simp; all_goals (with_reducible rfl)
      (try simp only [List.getElem_toArray, List.getElem_cons_succ, List.getElem_cons_zero, put_at, List.set])
      refine wpAnyL_last rfl (by kernel_rfl) (by kernel_rfl) (fun KK hK => ?_)
      go_simp
      refine hK.out _ _ ?_
      (try simp only [put_at, List.set])
      rw [HV.out]
      have ST2 := Lib.hid hHeld
      clear hHeld hClosed ST
      obtain ⟨q, hq⟩ : ∃ q, (!decide (v < 0)) = q := ⟨_, rfl⟩
      rw [hq]
      have NXQ : Hid (if q = true then bsR PD (h + 1) j = r else bsR PD i h = r) := Lib.hid (by
        cases q with
        | true => exact NXT.out hq
        | false => exact NXF.out hq)
      clear NXT NXF HV hq
      cases q with
      | true =>
        have NX : Hid (SrW w0 B g n c d wq ∧ bsR PD (h + 1) j = r) := Lib.hid ⟨ST2.out, NXQ.out⟩
        clear NXQ ST2
        go_wp2_with fail
        go_roundw
        case rel => exact ⟨h + 1, j, by first | rfl | go_num, by first | rfl | go_num, by omega, by omega, by omega, NX⟩
        case measure => simp [intV]; omega
      | false =>
        have NX : Hid (SrW w0 B g n c d wq ∧ bsR PD i h = r) := Lib.hid ⟨ST2.out, NXQ.out⟩
        clear NXQ ST2
        go_wp2_with fail
        go_roundw
        case rel => exact ⟨i, h, by first | rfl | go_num, by first | rfl | go_num, by omega, by omega, by omega, NX⟩
        case measure => simp [intV]; omega
    · have d1 : decide ((i : Int) < (j : Int)) = false := decide_eq_false (by omega)
      have hji : j = i := by omega
      subst hji
      have hr : j = r := by rw [← HS.out.2, bsR_end (by omega)]
      subst hr
      have ST := Lib.hid HS.out.1
      clear HS
      have hjs : a ≤ j ∧ j ≤ m ∧ j ≤ mid ∧ nn - j ≤ b := by have := HSI.out; have := HNN.out; omega
      obtain ⟨e, he⟩ : ∃ e, nn - j = e := ⟨_, rfl⟩
      have wne : IntKind.i64.wrap ((nn : Int) - (j : Int)) = (e : Int) := by rw [IntKind.wrap_i64]; have := HNN.out; omega
      have hme : m ≤ e ∧ e ≤ b ∧ mid ≤ e := by have := HNN.out; omega
      have HD1 : Hid (D1 = if j < m ∧ m < e then rot m d (m - j) (e - m) else d) := Lib.hid (by rw [HD1f.out, HMID.out, HNN.out, he])
      have HD2 : Hid (D2 = if a < j ∧ j < mid then sym ltE f D1 a j mid else D1) := Lib.hid (by rw [HD2f.out, HMID.out])
      have HFF : Hid (F = if mid < e ∧ e < b then sym ltE f D2 mid e b else D2) := Lib.hid (by rw [HFf.out, HMID.out, HNN.out, he])
      have p1 := pm_sym1 ltE d h1 h2 (by rw [ST.out.len]; exact h3)
      clear HD1f HD2f HFf HSI
      have hnn0 := HNN.out
      clear he
      obtain ⟨Q1, hQ1⟩ : ∃ q, decide (j < m ∧ m < e) = q := ⟨_, rfl⟩
      go_upto_region 39 with fail
      go_cut [185] (fun v wx => v = .bool Q1 ∧ wx = wr)
      case first =>
        as_aux_lemma =>
          by_cases c1 : j < m
          · have dc1 : decide ((j : Int) < (m : Int)) = true := decide_eq_true (by omega)
            have dc1n : decide (j < m) = true := decide_eq_true c1
            by_cases c2 : m < e
            · have dc2 : decide ((m : Int) < (e : Int)) = true := decide_eq_true (by omega)
              have dc2n : decide (m < e) = true := decide_eq_true c2
              obtain rfl : true = Q1 := by rw [← hQ1]; exact (decide_eq_true ⟨c1, c2⟩).symm
              go_wp2_with fail
              go_meet
              exact ⟨rfl, rfl⟩
            · have dc2 : decide ((m : Int) < (e : Int)) = false := decide_eq_false (by omega)
              have dc2n : decide (m < e) = false := decide_eq_false c2
              obtain rfl : false = Q1 := by rw [← hQ1]; exact (decide_eq_false (fun h => c2 h.2)).symm
              go_wp2_with fail
              go_meet
              exact ⟨rfl, rfl⟩
          · have dc1 : decide ((j : Int) < (m : Int)) = false := decide_eq_false (by omega)
            have dc1n : decide (j < m) = false := decide_eq_false c1
            obtain rfl : false = Q1 := by rw [← hQ1]; exact (decide_eq_false (fun h => c1 h.1)).symm
            go_wp2_with fail
            go_meet
            exact ⟨rfl, rfl⟩
      case rest =>
      obtain ⟨rfl, he1⟩ := hcut
      have he1 := he1.symm
      subst he1
      go_upto_if 185 with fail
      go_cut [] (fun wc => Hid (SrW w0 B g n c D1 wc))
      case first =>
        as_aux_lemma =>
          cases Q1 with
          | true =>
            have hc := of_decide_eq_true hQ1
            have RO := Lib.hid (rotate_at j m e ST.out hc.1 hc.2 (by omega) hn (.func (.func 74) #[] #[]))
            have HE := HD1.out
            rw [if_pos hc] at HE
            have HE := Lib.hid HE
            go_wp2_with fail
            refine RO.out.mono ?_
            rintro e9 w2 ⟨rfl, hw2⟩
            have W2 : Hid (SrW w0 B g n c D1 w2) := Lib.hid (by rw [HE.out]; exact hw2)
            clear hw2 RO
            go_wp2_with fail
            go_meet
            exact W2
          | false =>
            have hc := of_decide_eq_false hQ1
            have HE := HD1.out
            rw [if_neg hc] at HE
            have W2 : Hid (SrW w0 B g n c D1 wr) := Lib.hid (by rw [HE]; exact ST.out)
            clear HE
            go_wp2_with fail
            go_meet
            exact W2
      case rest =>
      have S1 := hcut
      clear hcut ST HD1 hQ1
      obtain ⟨Q2, hQ2⟩ : ∃ q, decide (a < j ∧ j < mid) = q := ⟨_, rfl⟩
      go_upto_region 41 with fail
      go_cut [199] (fun v wx => v = .bool Q2 ∧ wx = wc)
      case first =>
        as_aux_lemma =>
          by_cases c1 : a < j
          · have dc1 : decide ((a : Int) < (j : Int)) = true := decide_eq_true (by omega)
            have dc1n : decide (a < j) = true := decide_eq_true c1
            by_cases c2 : j < mid
            · have dc2 : decide ((j : Int) < (mid : Int)) = true := decide_eq_true (by omega)
              have dc2n : decide (j < mid) = true := decide_eq_true c2
              obtain rfl : true = Q2 := by rw [← hQ2]; exact (decide_eq_true ⟨c1, c2⟩).symm
              go_wp2_with fail
              go_meet
              exact ⟨rfl, rfl⟩
            · have dc2 : decide ((j : Int) < (mid : Int)) = false := decide_eq_false (by omega)
              have dc2n : decide (j < mid) = false := decide_eq_false c2
              obtain rfl : false = Q2 := by rw [← hQ2]; exact (decide_eq_false (fun h => c2 h.2)).symm
              go_wp2_with fail
              go_meet
              exact ⟨rfl, rfl⟩
          · have dc1 : decide ((a : Int) < (j : Int)) = false := decide_eq_false (by omega)
            have dc1n : decide (a < j) = false := decide_eq_false c1
            obtain rfl : false = Q2 := by rw [← hQ2]; exact (decide_eq_false (fun h => c1 h.1)).symm
            go_wp2_with fail
            go_meet
            exact ⟨rfl, rfl⟩
      case rest =>
      obtain ⟨rfl, he1⟩ := hcut
      have he1 := he1.symm
      subst he1
      go_upto_if 199 with fail
      go_cut [] (fun wc => Hid (SrW w0 B g n c D2 wc))
      case first =>
        as_aux_lemma =>
          cases Q2 with
          | true =>
            have hc := of_decide_eq_true hQ2
            have RO := Lib.hid (IH.out a j mid S1.out hc.1 hc.2 (by omega) (by omega))
            have HE := HD2.out
            rw [if_pos hc] at HE
            have HE := Lib.hid HE
            go_wp2_with fail
            refine RO.out.mono ?_
            rintro e9 w2 ⟨rfl, hw2⟩
            have W2 : Hid (SrW w0 B g n c D2 w2) := Lib.hid (by rw [HE.out]; exact hw2)
            clear hw2 RO
            go_wp2_with fail
            go_meet
            exact W2
          | false =>
            have hc := of_decide_eq_false hQ2
            have HE := HD2.out
            rw [if_neg hc] at HE
            have W2 : Hid (SrW w0 B g n c D2 wc) := Lib.hid (by rw [HE]; exact S1.out)
            clear HE
            go_wp2_with fail
            go_meet
            exact W2
      case rest =>
      have S2 := hcut
      clear hcut S1 HD2 hQ2
      obtain ⟨Q3, hQ3⟩ : ∃ q, decide (mid < e ∧ e < b) = q := ⟨_, rfl⟩
      go_upto_region 43 with fail
      go_cut [213] (fun v wx => v = .bool Q3 ∧ wx = wc)
      case first =>
        as_aux_lemma =>
          by_cases c1 : mid < e
          · have dc1 : decide ((mid : Int) < (e : Int)) = true := decide_eq_true (by omega)
            have dc1n : decide (mid < e) = true := decide_eq_true c1
            by_cases c2 : e < b
            · have dc2 : decide ((e : Int) < (b : Int)) = true := decide_eq_true (by omega)
              have dc2n : decide (e < b) = true := decide_eq_true c2
              obtain rfl : true = Q3 := by rw [← hQ3]; exact (decide_eq_true ⟨c1, c2⟩).symm
              go_wp2_with fail
              go_meet
              exact ⟨rfl, rfl⟩
            · have dc2 : decide ((e : Int) < (b : Int)) = false := decide_eq_false (by omega)
              have dc2n : decide (e < b) = false := decide_eq_false c2
              obtain rfl : false = Q3 := by rw [← hQ3]; exact (decide_eq_false (fun h => c2 h.2)).symm
              go_wp2_with fail
              go_meet
              exact ⟨rfl, rfl⟩
          · have dc1 : decide ((mid : Int) < (e : Int)) = false := decide_eq_false (by omega)
            have dc1n : decide (mid < e) = false := decide_eq_false c1
            obtain rfl : false = Q3 := by rw [← hQ3]; exact (decide_eq_false (fun h => c1 h.1)).symm
            go_wp2_with fail
            go_meet
            exact ⟨rfl, rfl⟩
      case rest =>
      obtain ⟨rfl, he1⟩ := hcut
      have he1 := he1.symm
      subst he1
      cases Q3 with
      | true =>
        have hc := of_decide_eq_true hQ3
        have RO := Lib.hid (IH.out mid e b S2.out hc.1 hc.2 h3 (by omega))
        have HE := HFF.out
        rw [if_pos hc] at HE
        have HE := Lib.hid HE
        go_wp2_with fail
        refine RO.out.mono ?_
        rintro e9 w2 ⟨rfl, hw2⟩
        have W2 : Hid (SrW w0 B g n c F w2) := Lib.hid (by rw [HE.out]; exact hw2)
        clear hw2 RO
        go_wp2_with fail
        go_end0
        exact ⟨rfl, W2.out⟩
      | false =>
        have hc := of_decide_eq_false hQ3
        have HE := HFF.out
        rw [if_neg hc] at HE
        have W2 : Hid (SrW w0 B g n c F wc) := Lib.hid (by rw [HE]; exact S2.out)
        clear HE
        go_wp2_with fail
        go_end0
        exact ⟨rfl, W2.out⟩
set_option maxHeartbeats 8000000 in
theorem sym_step (f : Nat) {w0 : World} {B g n c : Nat} (hn : n ≤ 100000000)
    (ih : ∀ (a m b : Nat) {w : World} {d : Array En}, SrW w0 B g n c d w → a < m → m < b → b ≤ n → b - a ≤ f → Calls Tryz.prog 107 #[.slice (some ⟨g, 0, none⟩) n c, .int .i64 (a : Int), .int .i64 (m : Int), .int .i64 (b : Int), .func (.func 74) #[] #[]] w fun e w' => e = .returned (.tuple #[]) ∧ SrW w0 B g n c (sym ltE f d a m b) w')
    (a m b : Nat) {w : World} {d : Array En} (h : SrW w0 B g n c d w) (h1 : a < m) (h2 : m < b) (h3 : b ≤ n) (hf : b - a ≤ f + 1) :
    Calls Tryz.prog 107 #[.slice (some ⟨g, 0, none⟩) n c, .int .i64 (a : Int), .int .i64 (m : Int), .int .i64 (b : Int), .func (.func 74) #[] #[]] w fun e w' => e = .returned (.tuple #[]) ∧ SrW w0 B g n c (sym ltE (f + 1) d a m b) w' := by
  by_cases hA : m - a = 1
  · exact sym_ka f hn ih a m b h h1 h2 h3 hf hA
  · by_cases hB : b - m = 1
    · exact sym_kb f hn ih a m b h h1 h2 h3 hf hA hB
    · exact sym_kc f hn ih a m b h h1 h2 h3 hf hA hB
theorem sym_at : ∀ (f : Nat) {w0 : World} {B g n c : Nat} (hn : n ≤ 100000000) (a m b : Nat) {w : World} {d : Array En} (h : SrW w0 B g n c d w) (h1 : a < m) (h2 : m < b) (h3 : b ≤ n) (hf : b - a ≤ f),
    Calls Tryz.prog 107 #[.slice (some ⟨g, 0, none⟩) n c, .int .i64 (a : Int), .int .i64 (m : Int), .int .i64 (b : Int), .func (.func 74) #[] #[]] w fun e w' => e = .returned (.tuple #[]) ∧ SrW w0 B g n c (sym ltE f d a m b) w'
  | 0, w0, B, g, n, c, hn, a, m, b, w, d, h, h1, h2, h3, hf => by omega
  | f + 1, w0, B, g, n, c, hn, a, m, b, w, d, h, h1, h2, h3, hf => sym_step f hn (fun a m b w d k1 k2 k3 k4 k5 => sym_at f hn a m b k1 k2 k3 k4 k5) a m b h h1 h2 h3 hf
end Go.Proofs.YteinblpkcpjpnaaGreatDoor
/- Sorting records: SortStableFunc. -/
namespace Go.Proofs.YteinblpkcpjpnaaGreatDoor
open Go Go.RowKit Go.Sort
set_option linter.unusedVariables false
set_option linter.unusedSimpArgs false
set_option maxRecDepth 100000

theorem blk_go {n a : Nat} {d : Array En} (h : a + 20 ≤ n) : blkS ltE n d a = blkS ltE n (insertionSort ltE d a (a + 20)) (a + 20) := by rw [blkS, if_pos h]
theorem blk_end {n a : Nat} {d : Array En} (h : ¬ a + 20 ≤ n) : blkS ltE n d a = insertionSort ltE d a n := by rw [blkS, if_neg h]
theorem pas_go {n s a : Nat} {d : Array En} (h : a + 2 * s ≤ n) (h0 : 0 < s) : pasS ltE n s d a = pasS ltE n s (sym ltE n d a (a + s) (a + 2 * s)) (a + 2 * s) := by rw [pasS, if_pos ⟨h, h0⟩]
theorem pas_end {n s a : Nat} {d : Array En} (h : ¬ a + 2 * s ≤ n) : pasS ltE n s d a = if a + s < n then sym ltE n d a (a + s) n else d := by rw [pasS, if_neg (fun e => h e.1)]
theorem out_go {n s : Nat} {d : Array En} (h : s < n) (h0 : 0 < s) : outS ltE n d s = outS ltE n (pasS ltE n s d 0) (2 * s) := by rw [outS, if_pos ⟨h, h0⟩]
theorem out_end {n s : Nat} {d : Array En} (h : ¬ s < n) : outS ltE n d s = d := by rw [outS, if_neg (fun e => h e.1)]
set_option maxHeartbeats 4000000 in
theorem stable_at {w0 w : World} {B g n c : Nat} {d : Array En} (h : SrW w0 B g n c d w) (hn : n ≤ 10000000) :
    Calls Tryz.prog 90 #[.slice (some ⟨g, 0, none⟩) n c, .int .i64 (n : Int), .func (.func 74) #[] #[]] w fun e w' => e = .returned (.tuple #[]) ∧ SrW w0 B g n c (stabS ltE d) w' := by
  obtain ⟨F, hF⟩ : ∃ F, stabS ltE d = F := ⟨_, rfl⟩
  rw [hF]
  have ST : Hid (SrW w0 B g n c d w ∧ outS ltE n (blkS ltE n d 0) 20 = F) := Lib.hid ⟨h, by rw [← hF]; unfold stabS; rw [h.len]⟩
  clear h hF
  go_enter Tryz.func90, Tryz.ntmps90
  go_wp2_with fail
  go_loopw [7, 8] (fun va vb wr => ∃ (a : Nat) (d : Array En), va = .int .i64 (a : Int) ∧ vb = .int .i64 ((a : Int) + 20) ∧ a ≤ n ∧ Hid (SrW w0 B g n c d wr ∧ outS ltE n (blkS ltE n d a) 20 = F)) (fun va _ _ => n - (intV va).toNat)
  case atStart => exact ⟨0, d, rfl, rfl, Nat.zero_le _, ST⟩
  case round =>
    clear ST d
    obtain ⟨a, d, rfl, rfl, ha, HS⟩ := hrel
    by_cases hb : a + 20 ≤ n
    · have d1 : decide ((a : Int) + 20 ≤ (n : Int)) = true := decide_eq_true (by omega)
      have IS := Lib.hid (ins_at a (a + 20) HS.out.1 (by omega) hb (by omega))
      have e20 : (((a + 20 : Nat) : Int)) = (a : Int) + 20 := by omega
      rw [e20] at IS
      have HE : Hid (outS ltE n (blkS ltE n (insertionSort ltE d a (a + 20)) (a + 20)) 20 = F) := Lib.hid (by rw [← blk_go hb]; exact HS.out.2)
      have hz : (a : Int) + 20 ≤ (n : Int) := by omega
      have w20 : IntKind.i64.wrap ((a : Int) + 20 + 20) = (a : Int) + 20 + 20 := by rw [IntKind.wrap_i64]; omega
      clear HS e20
      go_wp2_with fail
      refine IS.out.mono ?_
      rintro e w2 ⟨rfl, hw2⟩
      have NX := Lib.hid (And.intro hw2 HE.out)
      clear hw2 IS HE
      go_wp2_with fail
      go_roundw
      case rel => exact ⟨a + 20, _, by go_num, by go_num, hb, NX⟩
      case measure => simp [intV]; omega
    · have d1 : decide ((a : Int) + 20 ≤ (n : Int)) = false := decide_eq_false (by omega)
      have hz : ¬ (a : Int) + 20 ≤ (n : Int) := by omega
      have IS := Lib.hid (ins_at a n HS.out.1 ha (Nat.le_refl _) (by omega))
      have HE : Hid (outS ltE n (insertionSort ltE d a n) 20 = F) := Lib.hid (by rw [← blk_end hb]; exact HS.out.2)
      clear HS
      go_wp2_with fail
      refine IS.out.mono ?_
      rintro e w2 ⟨rfl, hw2⟩
      have ST := Lib.hid (And.intro hw2 HE.out)
      clear hw2 IS HE hb hz d1 ha
      go_wp2_with fail
      go_loopw [6] (fun vs wr => ∃ (s : Nat) (d : Array En), vs = .int .i64 (s : Int) ∧ 0 < s ∧ s ≤ 2 * n + 20 ∧ Hid (SrW w0 B g n c d wr ∧ outS ltE n d s = F)) (fun vs _ => 2 * n + 20 - (intV vs).toNat)
      case atStart => exact ⟨20, _, rfl, by decide, by omega, ST⟩
      case round =>
        clear ST
        obtain ⟨s, d, rfl, hs0, hsn, HS⟩ := hrel
        by_cases hlt : s < n
        · have d1 : decide ((s : Int) < (n : Int)) = true := decide_eq_true (by omega)
          have d1n : decide (s < n) = true := decide_eq_true hlt
          have w2s : IntKind.i64.wrap (2 * (s : Int)) = ((2 * s : Nat) : Int) := by rw [IntKind.wrap_i64]; omega
          have ws2 : IntKind.i64.wrap ((s : Int) * 2) = ((2 * s : Nat) : Int) := by rw [IntKind.wrap_i64]; omega
          have ST : Hid (SrW w0 B g n c d wr ∧ outS ltE n (pasS ltE n s d 0) (2 * s) = F) := Lib.hid ⟨HS.out.1, by rw [← out_go hlt hs0]; exact HS.out.2⟩
          clear HS
          go_wp2_with fail
          go_loopw [7, 8] (fun va vb wr => ∃ (a b : Nat) (d : Array En), va = .int .i64 (a : Int) ∧ vb = .int .i64 (b : Int) ∧ a + 2 * s = b ∧ a ≤ n ∧ Hid (SrW w0 B g n c d wr ∧ outS ltE n (pasS ltE n s d a) (2 * s) = F)) (fun va _ _ => n - (intV va).toNat)
          case atStart => exact ⟨0, 2 * s, d, rfl, rfl, by omega, Nat.zero_le _, ST⟩
          case round =>
            clear ST d
            obtain ⟨a, b, d, rfl, rfl, hab, ha, HS⟩ := hrel
            by_cases hb : b ≤ n
            · have d2 : decide ((b : Int) ≤ (n : Int)) = true := decide_eq_true (by omega)
              have d2n : decide (b ≤ n) = true := decide_eq_true hb
              have was : IntKind.i64.wrap ((a : Int) + (s : Int)) = ((a + s : Nat) : Int) := by rw [IntKind.wrap_i64]; omega
              have wbs : IntKind.i64.wrap ((b : Int) + ((2 * s : Nat) : Int)) = ((b + 2 * s : Nat) : Int) := by rw [IntKind.wrap_i64]; omega
              have SY := Lib.hid (sym_at n (by omega) a (a + s) b HS.out.1 (by omega) (by omega) hb (by omega))
              have HE : Hid (outS ltE n (pasS ltE n s (sym ltE n d a (a + s) b) b) (2 * s) = F) := Lib.hid (by
                have h9 := HS.out.2
                rw [pas_go (by omega) hs0, hab] at h9
                exact h9)
              clear HS
              go_wp2_with fail
              refine SY.out.mono ?_
              rintro e w2 ⟨rfl, hw2⟩
              have NX := Lib.hid (And.intro hw2 HE.out)
              clear hw2 SY HE
              go_wp2_with fail
              go_roundw
              case rel => exact ⟨b, b + 2 * s, _, rfl, rfl, by omega, hb, NX⟩
              case measure => simp [intV]; omega
            · have d2 : decide ((b : Int) ≤ (n : Int)) = false := decide_eq_false (by omega)
              have d2n : decide (b ≤ n) = false := decide_eq_false hb
              have was : IntKind.i64.wrap ((a : Int) + (s : Int)) = ((a + s : Nat) : Int) := by rw [IntKind.wrap_i64]; omega
              have HS2 : Hid (SrW w0 B g n c d wr ∧ outS ltE n (if a + s < n then sym ltE n d a (a + s) n else d) (2 * s) = F) := Lib.hid ⟨HS.out.1, by rw [← pas_end (by omega)]; exact HS.out.2⟩
              clear HS
              obtain ⟨m, hm⟩ : ∃ m, a + s = m := ⟨_, rfl⟩
              rw [hm] at was HS2
              by_cases hmn : m < n
              · have d3 : decide ((m : Int) < (n : Int)) = true := decide_eq_true (by omega)
                have d3n : decide (m < n) = true := decide_eq_true hmn
                have SY := Lib.hid (sym_at n (by omega) a m n HS2.out.1 (by omega) hmn (Nat.le_refl _) (by omega))
                have HE : Hid (outS ltE n (sym ltE n d a m n) (2 * s) = F) := Lib.hid (by
                  have h9 := HS2.out.2
                  rw [if_pos hmn] at h9
                  exact h9)
                clear HS2
                go_wp2_with fail
                refine SY.out.mono ?_
                rintro e w2 ⟨rfl, hw2⟩
                have NX := Lib.hid (And.intro hw2 HE.out)
                clear hw2 SY HE
                go_wp2_with fail
                go_roundw
                case rel => exact ⟨2 * s, _, rfl, by omega, by omega, NX⟩
                case measure => simp [intV]; omega
              · have d3 : decide ((m : Int) < (n : Int)) = false := decide_eq_false (by omega)
                have d3n : decide (m < n) = false := decide_eq_false hmn
                have NX : Hid (SrW w0 B g n c d wr ∧ outS ltE n d (2 * s) = F) := Lib.hid ⟨HS2.out.1, by
                  have h9 := HS2.out.2
                  rw [if_neg hmn] at h9
                  exact h9⟩
                clear HS2
                go_wp2_with fail
                go_roundw
                case rel => exact ⟨2 * s, _, rfl, by omega, by omega, NX⟩
                case measure => simp [intV]; omega
        · have d1 : decide ((s : Int) < (n : Int)) = false := decide_eq_false (by omega)
          have d1n : decide (s < n) = false := decide_eq_false hlt
          have FIN : Hid (SrW w0 B g n c F wr) := Lib.hid (by
            have h9 := HS.out.2
            rw [out_end hlt] at h9
            exact h9 ▸ HS.out.1)
          clear HS
          go_wp2_with fail
          go_end0
          exact ⟨rfl, FIN.out⟩
theorem sortStable_at {w0 w : World} {B g n c : Nat} {d : Array En} (h : SrW w0 B g n c d w) (hn : n ≤ 10000000) :
    Calls Tryz.prog 73 #[.slice (some ⟨g, 0, none⟩) n c, .func (.func 74) #[] #[]] w fun e w' => e = .returned (.tuple #[]) ∧ SrW w0 B g n c (stabS ltE d) w' := by
  have SB := Lib.hid (stable_at h hn)
  clear h
  go_enter Tryz.func73, Tryz.ntmps73
  go_wp2_with fail
  refine SB.out.mono ?_
  rintro e w2 ⟨rfl, hw2⟩
  have W2 := Lib.hid hw2
  clear hw2 SB
  go_wp2_with fail
  go_end0
  exact ⟨rfl, W2.out⟩
end Go.Proofs.YteinblpkcpjpnaaGreatDoor
/- Package spill: records' closure that keeps a record. -/
namespace Go.Proofs.YteinblpkcpjpnaaGreatDoor
open Go Go.RowKit Go.Maps
set_option linter.unusedVariables false
set_option linter.unusedSimpArgs false
set_option maxRecDepth 100000

theorem rowRc : RowTy Tryz.prog 122 125 4 48 := ⟨Tryz.underlying122, ⟨.agg #[.int .i64 0, .int .i64 0, .int .i64 0, .slice none 0 0], by kernel_rfl, rfl⟩, by decide⟩
/-- Encode, sound or not. -/
theorem kenc_at (r : Rc) (w : World) : Calls Tryz.prog 27 #[.agg (recL r).toArray] w fun e w' => ∃ a c k, e = .returned (.tuple #[.slice a (encO r).length c, .int .i64 k]) ∧ Own w' w.heap.size 5 1 a (encO r).length c (u8L (encO r)) ∧ Below w.heap.size w w' ∧ ((soundR r ∧ k = 0) ∨ (¬ soundR r ∧ k = 2)) := by
  by_cases h : soundR r
  · refine (enc_yes r w h).mono ?_
    rintro e w' ⟨a, c, rfl, ho, hb⟩
    rw [show encO r = encR r by unfold encO; rw [if_pos h]]
    exact ⟨a, c, 0, rfl, ho, hb, Or.inl ⟨h, rfl⟩⟩
  · refine (enc_no r w h).mono ?_
    rintro e w' ⟨rfl, hb⟩
    rw [show encO r = [] by unfold encO; rw [if_neg h]]
    exact ⟨none, 0, 2, rfl, Own.nil _ _ _ _, hb, Or.inr ⟨h, rfl⟩⟩
/-- Records under way: the list in its box, each with its bytes. -/
structure RecM (w : World) (B lb n c : Nat) (a : Option Addr) (es : List En) : Prop where
  box : Box w lb #[.slice a n c] 122
  own : Own w B 125 4 a n c (flE enE es)
  len : es.length = n
  byt : ∀ e ∈ es, e.b.length = e.n ∧ Own w B 5 1 e.a e.n e.c (u8L e.b)
  ne : es.Pairwise fun x y => ∀ g, x.a = some ⟨g, 0, none⟩ → y.a ≠ some ⟨g, 0, none⟩
  lB : B ≤ lb
theorem RecM.later {w w' : World} {B lb n c : Nat} {a : Option Addr} {es : List En} (h : RecM w B lb n c a es) (hb : Below w.heap.size w w') : RecM w' B lb n c a es :=
  ⟨h.box.later hb, h.own.later hb, h.len, fun e he => ⟨(h.byt e he).1, (h.byt e he).2.later hb⟩, h.ne, h.lB⟩
theorem flE_snoc (l : List En) (x : En) : flE enE l ++ enE x = flE enE (l ++ [x]) := by unfold flE; simp
theorem RecM.grown {w w5 w6 : World} {B lb n c : Nat} {a : Option Addr} {es : List En} (h : RecM w B lb n c a es) {g c' : Nat} {x : En} (hx : x.b.length = x.n ∧ Own w B 5 1 x.a x.n x.c (u8L x.b)) (hxn : ∀ e ∈ es, ∀ g, e.a = some ⟨g, 0, none⟩ → x.a ≠ some ⟨g, 0, none⟩)
    (p1 : Own w5 B 125 4 (some ⟨g, 0, none⟩) (n + 1) c' (flE enE (es ++ [x]))) (p2 : w.grownBy w5 (a.map (·.block))) (p3 : w6 = w5.setCell ⟨lb, 0, none⟩ (.slice (some ⟨g, 0, none⟩) (n + 1) c')) (p4 : a.map (·.block) = some g ∨ w.heap.size ≤ g) :
    RecM w6 B lb (n + 1) c' (some ⟨g, 0, none⟩) (es ++ [x]) ∧ Only (fun k => k = lb ∨ a = some ⟨k, 0, none⟩) w w6 := by
  have hga : ∀ {k : Nat}, a.map (·.block) = some k → a = some ⟨k, 0, none⟩ := fun hk => own_block5 h.own hk
  have hlb : some lb ≠ a.map (·.block) := fun e => by
    have e2 := hga e.symm
    have h9 := h.own
    rw [e2] at h9
    exact own_not_box h9 h.box (by decide) rfl
  have hbx : Box w5 lb #[.slice a n c] 122 := (p2.block lb h.box.lt hlb).trans h.box
  have hglb : g ≠ lb := own_not_box p1 hbx (by decide)
  have ho : Only (fun k => k = lb ∨ a = some ⟨k, 0, none⟩) w w6 := by
    rw [p3]
    exact ((Only.of_grown (R := fun k => k = lb ∨ a = some ⟨k, 0, none⟩) p2 (fun k hk => Or.inr (hga hk))).setCell (Or.inl (Or.inl rfl)) _)
  have hby : ∀ e : En, Own w B 5 1 e.a e.n e.c (u8L e.b) → Own w6 B 5 1 e.a e.n e.c (u8L e.b) := fun e he => he.only ho (fun k hk => by
    rintro (hk2 | hk2)
    · subst hk2
      rw [hk] at he
      exact own_not_box he h.box (by decide) rfl
    · exact own_apart he h.own hk hk2 (by decide))
  refine ⟨⟨?_, ?_, by rw [List.length_append, h.len]; rfl, fun e he => ?_, ?_, h.lB⟩, ho⟩
  · rw [p3]
    exact hbx.set 0 _
  · rw [p3]
    exact p1.other (fun g' e => by injection e with e; injection e with e; rw [← e]; exact hglb) _
  · rcases List.mem_append.1 he with he | he
    · exact ⟨(h.byt e he).1, hby e (h.byt e he).2⟩
    · rw [List.mem_singleton] at he
      subst he
      exact ⟨hx.1, hby e hx.2⟩
  · rw [List.pairwise_append]
    refine ⟨h.ne, List.pairwise_singleton _ _, fun e he y hy => ?_⟩
    rw [List.mem_singleton] at hy
    subst hy
    exact hxn e he
set_option maxHeartbeats 2000000 in
theorem keep_at {w : World} {B lb n c : Nat} {a : Option Addr} {es : List En} (h : RecM w B lb n c a es) (hB : B ≤ w.heap.size) (hn : n ≤ 2000000) (p : Pl) (r : Rc) :
    Calls Tryz.prog 72 #[plV p, .int .i64 r.kind, .agg (reqL r).toArray, .pointer (some ⟨lb, 0, none⟩)] w fun e w' => e = .returned (.tuple #[]) ∧ ∃ (a' : Option Addr) (c' : Nat) (x : En), x.p = p ∧ x.b = encO r ∧ RecM w' B lb (n + 1) c' a' (es ++ [x]) ∧ Only (fun k => k = lb ∨ a = some ⟨k, 0, none⟩) w w' ∧ ∀ k, a' = some ⟨k, 0, none⟩ → a = some ⟨k, 0, none⟩ ∨ w.heap.size ≤ k := by
  have HM := Lib.hid h
  have KE := Lib.hid (fun W => kenc_at r W)
  obtain ⟨b, hb⟩ : ∃ b, encO r = b := ⟨_, rfl⟩
  obtain ⟨m, hm⟩ : ∃ m, b.length = m := ⟨_, rfl⟩
  have HBM : Hid (b.length = m) := Lib.hid hm
  rw [hb] at KE ⊢
  rw [hm] at KE
  obtain ⟨p1, p2, p3⟩ := p
  obtain ⟨r0, r1, r2, r3, r4, r5⟩ := r
  unfold plV plC reqL
  unfold recL reqL at KE
  dsimp only at KE ⊢
  clear hb hm h
  go_enter Tryz.func72, Tryz.ntmps72
  go_upto_region 1 with fail
  refine code_forget (fun W => Hid (Box W w.heap.size #[.int .i64 p1, .int .i64 p2, .int .i64 p3] 76) ∧ Hid (Box W (w.heap.size + 1) #[.int .i64 r1, .string r2, .string r3, .int .i64 r4, .int .i64 r5] 31) ∧ Hid (Below w.heap.size w W)) ⟨Lib.hid ((Box.new w _ _).alloc _), Lib.hid (by have h9 := Box.new (w.alloc (.cells #[.int .i64 p1, .int .i64 p2, .int .i64 p3] 76)) #[.int .i64 r1, .string r2, .string r3, .int .i64 r4, .int .i64 r5] 31; rw [World.size_alloc] at h9; exact h9), Lib.hid (((Below.refl w.heap.size w).alloc (Nat.le_refl _) _).alloc (by simp) _)⟩ ?_
  obtain ⟨pb, hpb⟩ : ∃ p, w.heap.size = p := ⟨_, rfl⟩
  obtain ⟨qb, hqb⟩ : ∃ q, w.heap.size + 1 = q := ⟨_, rfl⟩
  have HPB := Lib.hid hpb
  rw [hqb, hpb]
  rintro w1 ⟨BP, BQ, B1⟩
  rw [← HPB.out] at B1
  clear hpb hqb
  have q0 := BQ.out.cell 0
  have q1 := BQ.out.cell 1
  have q2 := BQ.out.cell 2
  have q3 := BQ.out.cell 3
  have q4 := BQ.out.cell 4
  have KE1 := Lib.hid (KE.out w1)
  clear KE
  go_wp2_with fail
  refine KE1.out.mono ?_
  rintro e w2 ⟨xa, xc, k, rfl, ho, hb2, _⟩
  have BP2 := Lib.hid (BP.out.later hb2)
  have B2 := Lib.hid (B1.out.trans (hb2.mono B1.out.size))
  have M2 := Lib.hid (HM.out.later B2.out)
  have XO : Hid (Own w2 w.heap.size 5 1 xa m xc (u8L b)) := Lib.hid (Own.mono (show Own w2 w1.heap.size 5 1 xa m xc (u8L b) from ho) B1.out.size)
  clear ho hb2 KE1 BP BQ B1 q0 q1 q2 q3 q4
  have p0 := BP2.out.cell 0
  have p1' := BP2.out.cell 1
  have p2' := BP2.out.cell 2
  have l0 : w2.cell? ⟨lb, 0, none⟩ = some (.slice a n c) := M2.out.box.cell 0
  have O2 := Lib.hid M2.out.own
  have hB2 : B ≤ w2.heap.size := Nat.le_trans hB B2.out.size
  have HZ : Hid (flE enE es ++ #[.int .i64 p1, .int .i64 p2, .int .i64 p3, .slice xa m xc].toList = flE enE (es ++ [⟨⟨p1, p2, p3⟩, xa, m, xc, b⟩])) := Lib.hid (flE_snoc es ⟨⟨p1, p2, p3⟩, xa, m, xc, b⟩)
  have NEW : Hid (∀ (w5 : World) (g c' : Nat), Own w5 B 125 4 (some ⟨g, 0, none⟩) (n + 1) c' (flE enE (es ++ [⟨⟨p1, p2, p3⟩, xa, m, xc, b⟩])) → w2.grownBy w5 (a.map (·.block)) → (a.map (·.block) = some g ∨ g = w2.heap.size + 1) →
      w5.cell? ⟨lb, 0, none⟩ = some (.slice a n c) ∧ w5.frozen? ⟨lb, 0, none⟩ = false ∧ lb < w5.heap.size ∧ Hid (RecM (w5.setCell ⟨lb, 0, none⟩ (.slice (some ⟨g, 0, none⟩) (n + 1) c')) B lb (n + 1) c' (some ⟨g, 0, none⟩) (es ++ [⟨⟨p1, p2, p3⟩, xa, m, xc, b⟩]) ∧ Only (fun k => k = lb ∨ a = some ⟨k, 0, none⟩) w (w5.setCell ⟨lb, 0, none⟩ (.slice (some ⟨g, 0, none⟩) (n + 1) c')) ∧ ∀ k, (some ⟨g, 0, none⟩ : Option Addr) = some ⟨k, 0, none⟩ → a = some ⟨k, 0, none⟩ ∨ w.heap.size ≤ k)) := Lib.hid (fun w5 g c' k1 k2 k3 => by
    have hga : ∀ {k : Nat}, a.map (·.block) = some k → a = some ⟨k, 0, none⟩ := fun hk => own_block5 M2.out.own hk
    have hlb : some lb ≠ a.map (·.block) := fun e => by
      have h9 := M2.out.own
      rw [hga e.symm] at h9
      exact own_not_box h9 M2.out.box (by decide) rfl
    have hbx : Box w5 lb #[.slice a n c] 122 := (k2.block lb M2.out.box.lt hlb).trans M2.out.box
    have hg := M2.out.grown (x := ⟨⟨p1, p2, p3⟩, xa, m, xc, b⟩) ⟨HBM.out, XO.out.mono hB⟩ (fun e he g' hg' hx => by
      have h8 := (own_lt ((HM.out.byt e he).2) hg').1
      have h7 := (own_lt XO.out hx).2
      omega) k1 k2 rfl (by rcases k3 with k3 | k3; exact Or.inl k3; exact Or.inr (by omega))
    refine ⟨hbx.cell 0, hbx.free 0, hbx.lt, Lib.hid ⟨hg.1, (Only.of_below _ B2.out).trans hg.2 (fun x hx => Or.inl hx), fun k hk => ?_⟩⟩
    injection hk with hk
    injection hk with hk
    subst hk
    rcases k3 with k3 | k3
    · exact Or.inl (hga k3)
    · exact Or.inr (by have := B2.out.size; omega))
  clear M2 BP2 HM XO HBM
  go_wp2_with (at_builtin; refine wpList_app1 rowRc rfl _ _ rfl B a n c _ rfl O2.out #[.int .i64 p1, .int .i64 p2, .int .i64 p3, .slice xa m xc] rfl rfl (by simp [Value.oneCell']) (by omega) (by decide) hB2 (n + 1) rfl _ HZ.out ?_; rintro g5 c5 w5 k1 k2 k3 k4; obtain ⟨z1, z2, z3, NX⟩ := NEW.out _ _ _ k1 k2 k4; clear k1 k2 k3 k4 O2 NEW)
  go_end0
  exact ⟨rfl, _, _, ⟨⟨p1, p2, p3⟩, xa, m, xc, b⟩, rfl, rfl, NX.out⟩
end Go.Proofs.YteinblpkcpjpnaaGreatDoor
