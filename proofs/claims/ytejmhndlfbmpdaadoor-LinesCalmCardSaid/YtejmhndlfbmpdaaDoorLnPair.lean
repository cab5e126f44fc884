/- The law's lines and groups: as the document's; the same? -/
import Derived.Test.YtejmhndlfbmpdaaDoorLnRgr
import Derived.Test.YtejmhndlfbmpdaaDoorLnRps
namespace Go.Proofs.YtejmhndlfbmpdaaDoor
open Go Go.RowKit
set_option linter.unusedVariables false
set_option linter.unusedSimpArgs false
set_option maxRecDepth 10000

set_option maxHeartbeats 4000000 in
theorem pairs_at (L : List (List Int × List Int)) (n : Nat) (hn : L.length = n) (hn2 : n ≤ 5000) (a : Option Addr) (cap : Nat) (w : World) (hr : RdLn w a L) :
    Calls Tryd.prog 9 #[.slice a n cap] w (RLinesP L w) := by
  have HN := Lib.hid hn
  have HR := Lib.hid hr
  clear hr
  go_enter Tryd.func9, Tryd.ntmps9
  go_wp2_with fail
  go_loopw [3, 4] (fun v j wr => ∃ (k : Nat) (a' : Option Addr) (cap' : Nat), k ≤ n ∧ v = .slice a' k cap' ∧ j = .int .i64 (k : Int) ∧ w.heap.size ≤ wr.heap.size ∧ Hid (Own wr w.heap.size 28 2 a' k cap' (lnC (L.take k))) ∧ Hid (Below w.heap.size w wr)) (fun _ j _ => n - (intOf j).toNat)
  case atStart => exact ⟨0, some ⟨w.heap.size, 0, none⟩, 0, by omega, rfl, rfl, by simp, Lib.hid (Own.lit (cs := #[]) (Nat.le_refl _) (by omega) rfl), Lib.hid ((Below.refl _ _).alloc (Nat.le_refl _) _)⟩
  case round =>
    obtain ⟨k, a', cap', hk, rfl, rfl, sz, OW0, BR⟩ := hrel
    by_cases hlt : k < n
    · have hkd : decide ((k : Int) < (n : Int)) = true := decide_eq_true (by omega)
      obtain ⟨x, hx⟩ : ∃ x, L[k]? = some x := ⟨L[k]'(by have := HN.out; omega), List.getElem?_eq_getElem _⟩
      obtain ⟨xk, xv⟩ := x
      obtain ⟨bg, off, ha, hc⟩ := HR.out
      have ha := ha (by intro e; rw [e] at hx; simp at hx)
      obtain ⟨c0, c1⟩ := hc k _ hx
      subst ha
      obtain ⟨sk, hsk⟩ : ∃ t, strL xk = t := ⟨_, rfl⟩
      obtain ⟨sv, hsv⟩ : ∃ t, strL xv = t := ⟨_, rfl⟩
      dsimp only at c0 c1
      rw [hsk] at c0
      rw [hsv] at c1
      have Q0 := Lib.hid c0
      have Q1 := Lib.hid c1
      have HZ : Hid (lnC (L.take k) ++ (#[Value.string sk, .string sv] : Array Value).toList = lnC (L.take (k + 1))) := Lib.hid (by rw [List.take_add_one, hx, lnC_app, ← hsk, ← hsv]; rfl)
      have OW : Hid (Own wr.drew w.heap.size 28 2 a' k cap' (lnC (L.take k))) := Lib.hid OW0.out.drew
      have BE : Hid (Below w.heap.size w wr.drew) := Lib.hid BR.out.drew
      have SZ : Hid (w.heap.size ≤ wr.drew.heap.size) := Lib.hid sz
      have ix0 : (0 : Int) ≤ (k : Int) := by omega
      have ix1 : (k : Int) < (n : Int) := by omega
      clear hc c0 c1 hx hsk hsv OW0 BR
      go_upto_region 5 with fail
      refine wp_region_last 14 (fun w' => Below w.heap.size w w') (by kernel_rfl) (BE.out) (fun hHeld hClosed => ?_)
      refine wpAnyL_take (i := 0) (v := ?_) rfl (by kernel_rfl) (by kernel_rfl) (by kernel_rfl) (by kernel_rfl) (fun _ _ _ h => h) (by kernel_rfl) hClosed (Or.inl ⟨by rfl, ?_⟩) hHeld (fun hClosed => ?_)
      rotate_left
      · intro wv hSw; go_simp; all_goals (with_reducible rfl)
      (try simp only [List.getElem_toArray, List.getElem_cons_zero, put_at, List.set])
      refine wpAnyL_take (i := 1) (v := ?_) rfl (by kernel_rfl) (by kernel_rfl) (by kernel_rfl) (by kernel_rfl) (fun _ _ _ h => h) (by kernel_rfl) hClosed (Or.inl ⟨by rfl, ?_⟩) hHeld (fun hClosed => ?_)
      rotate_left
      · intro wv hSw; go_simp; all_goals (with_reducible rfl)
      (try simp only [List.getElem_toArray, List.getElem_cons_succ, List.getElem_cons_zero, put_at, List.set])
      refine wpAnyL_take (i := 2) (v := ?_) rfl (by kernel_rfl) (by kernel_rfl) (by kernel_rfl) (by kernel_rfl) (fun _ _ _ h => h) (by kernel_rfl) hClosed (Or.inl ⟨by rfl, ?_⟩) hHeld (fun hClosed => ?_)
      rotate_left
      · intro wv hSw; go_simp; all_goals (with_reducible rfl)
      (try simp only [List.getElem_toArray, List.getElem_cons_succ, List.getElem_cons_zero, put_at, List.set])
      refine wpAnyL_take (i := 3) (v := ?_) rfl (by kernel_rfl) (by kernel_rfl) (by kernel_rfl) (by kernel_rfl) (fun _ _ _ h => h) (by kernel_rfl) hClosed (Or.inl ⟨by rfl, ?_⟩) hHeld (fun hClosed => ?_)
      rotate_left
      · intro wv hSw; go_simp; all_goals (with_reducible rfl)
      (try simp only [List.getElem_toArray, List.getElem_cons_succ, List.getElem_cons_zero, put_at, List.set])
      refine wpAnyL_take (i := 4) (v := ?_) rfl (by kernel_rfl) (by kernel_rfl) (by kernel_rfl) (by kernel_rfl) (fun _ _ _ h => h) (by kernel_rfl) hClosed (Or.inl ⟨by rfl, ?_⟩) hHeld (fun hClosed => ?_)
      rotate_left
      · intro wv hSw; go_simp; all_goals (with_reducible rfl)
      (try simp only [List.getElem_toArray, List.getElem_cons_succ, List.getElem_cons_zero, put_at, List.set])
      refine wpAnyL_take (i := 5) (v := ?_) rfl (by kernel_rfl) (by kernel_rfl) (by kernel_rfl) (by kernel_rfl) (fun _ _ _ h => h) (by kernel_rfl) hClosed (Or.inl ⟨by rfl, ?_⟩) hHeld (fun hClosed => ?_)
      rotate_left
      · intro wv hSw; have e0 := (hSw.cell (World.block_lt_of_cell? _ _ Q0.out)).trans Q0.out; have e1 := (hSw.cell (World.block_lt_of_cell? _ _ Q1.out)).trans Q1.out; go_simp; all_goals (with_reducible rfl)
      (try simp only [List.getElem_toArray, List.getElem_cons_succ, List.getElem_cons_zero, put_at, List.set])
      refine wpAnyL_take (i := 6) (v := ?_) rfl (by kernel_rfl) (by kernel_rfl) (by kernel_rfl) (by kernel_rfl) (fun _ _ _ h => h) (by kernel_rfl) hClosed (Or.inl ⟨by rfl, ?_⟩) hHeld (fun hClosed => ?_)
      rotate_left
      · intro wv hSw; go_simp; all_goals (with_reducible rfl)
      (try simp only [List.getElem_toArray, List.getElem_cons_succ, List.getElem_cons_zero, put_at, List.set])
      refine wpAnyL_take (i := 7) (v := ?_) rfl (by kernel_rfl) (by kernel_rfl) (by kernel_rfl) (by kernel_rfl) (fun _ _ _ h => h) (by kernel_rfl) hClosed (Or.inl ⟨by rfl, ?_⟩) hHeld (fun hClosed => ?_)
      rotate_left
      · intro wv hSw; go_simp; all_goals (with_reducible rfl)
      (try simp only [List.getElem_toArray, List.getElem_cons_succ, List.getElem_cons_zero, put_at, List.set])
      refine wpAnyL_take (i := 8) (v := ?_) rfl (by kernel_rfl) (by kernel_rfl) (by kernel_rfl) (by kernel_rfl) (fun _ _ _ h => h) (by kernel_rfl) hClosed (Or.inl ⟨by rfl, ?_⟩) hHeld (fun hClosed => ?_)
      rotate_left
      · intro wv hSw; go_simp; all_goals (with_reducible rfl)
      (try simp only [List.getElem_toArray, List.getElem_cons_succ, List.getElem_cons_zero, put_at, List.set])
      refine wpAnyL_take (i := 9) (v := ?_) rfl (by kernel_rfl) (by kernel_rfl) (by kernel_rfl) (by kernel_rfl) (fun _ _ _ h => h) (by kernel_rfl) hClosed (Or.inl ⟨by rfl, ?_⟩) hHeld (fun hClosed => ?_)
      rotate_left
      · intro wv hSw; go_simp; all_goals (with_reducible rfl)
      (try simp only [List.getElem_toArray, List.getElem_cons_succ, List.getElem_cons_zero, put_at, List.set])
      refine wpAnyL_take (i := 10) (v := ?_) rfl (by kernel_rfl) (by kernel_rfl) (by kernel_rfl) (by kernel_rfl) (fun _ _ _ h => h) (by kernel_rfl) hClosed (Or.inl ⟨by rfl, ?_⟩) hHeld (fun hClosed => ?_)
      rotate_left
      · intro wv hSw; have e0 := (hSw.cell (World.block_lt_of_cell? _ _ Q0.out)).trans Q0.out; have e1 := (hSw.cell (World.block_lt_of_cell? _ _ Q1.out)).trans Q1.out; go_simp; all_goals (with_reducible rfl)
      (try simp only [List.getElem_toArray, List.getElem_cons_succ, List.getElem_cons_zero, put_at, List.set])
      refine wpAnyL_take (i := 11) (v := ?_) rfl (by kernel_rfl) (by kernel_rfl) (by kernel_rfl) (by kernel_rfl) (fun _ _ _ h => h) (by kernel_rfl) hClosed (Or.inl ⟨by rfl, ?_⟩) hHeld (fun hClosed => ?_)
      rotate_left
      · intro wv hSw; go_simp; all_goals (with_reducible rfl)
      (try simp only [List.getElem_toArray, List.getElem_cons_succ, List.getElem_cons_zero, put_at, List.set])
      refine wpAnyL_one (i := 12) rfl (by kernel_rfl) (by kernel_rfl) hClosed (fun KK hK => ?_)
      go_simp
      refine hK.out _ _ ?_ (fun hClosed hHeld => ?_)
      · exact hHeld.alloc hHeld.size _
      clear hK KK
      (first | simp only [List.getElem_toArray, List.getElem_cons_succ, List.getElem_cons_zero, put_at, List.set] | (try simp only [put_at, List.set]))
      refine wpAnyL_one (i := 13) rfl (by kernel_rfl) (by kernel_rfl) hClosed (fun KK hK => ?_)
      refine step_app1 rowRL rfl _ _ rfl w.heap.size a' k cap' (lnC (L.take k)) rfl OW.out #[.string sk, .string sv] rfl rfl (two_one _ _) (by omega) (by decide) SZ.out (k + 1) rfl (lnC (L.take (k + 1))) HZ.out ?_
      rintro g cap2 w3 ow3 gr3 bl3 lc3
      refine hK.out _ _ ?_ (fun hClosed hHeld => ?_)
      · exact BE.out.trans bl3
      clear hK KK
      (first | simp only [List.getElem_toArray, List.getElem_cons_succ, List.getElem_cons_zero, put_at, List.set] | (try simp only [put_at, List.set]))
      refine wpAnyL_last rfl (by kernel_rfl) (by kernel_rfl) (fun KK hK => ?_)
      go_simp
      refine hK.out _ _ ?_
      (try simp only [put_at, List.set])
      have O3 := Lib.hid ow3
      have B3 := Lib.hid hHeld
      have s3 := hHeld.size
      clear ow3 gr3 bl3 lc3 hHeld
      go_wp2_with fail
      go_roundw
      case rel => exact ⟨k + 1, some ⟨g, 0, none⟩, cap2, by omega, rfl, by go_num, s3, O3, B3⟩
      case measure => simp [intOf]; omega
    · have hkd : decide ((k : Int) < (n : Int)) = false := decide_eq_false (by omega)
      obtain rfl : k = n := by omega
      go_wp2
      go_ret
      refine ⟨a', cap', by rw [HN.out]; rfl, ?_, BR.out⟩
      have := OW0.out
      rw [List.take_of_length_le (by rw [HN.out]; omega)] at this
      rw [HN.out]
      exact this
end Go.Proofs.YtejmhndlfbmpdaaDoor
