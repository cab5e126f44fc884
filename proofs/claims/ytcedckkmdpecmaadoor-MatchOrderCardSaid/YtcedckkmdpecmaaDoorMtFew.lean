/- Rules, not too many. -/
import Derived.Test.YtcedckkmdpecmaaDoorMtOwn
namespace Go.Proofs.YtcedckkmdpecmaaDoor
open Go.RowKit
set_option linter.unusedVariables false
set_option linter.unusedSimpArgs false

set_option maxHeartbeats 4000000 in
set_option maxRecDepth 100000 in
theorem few_at (rs : List Rl) (a : Option Addr) (len cap : Nat) (qs : List Rl) (n : Nat) (hq : fewR rs = qs) (hn : qs.length = n) (w : World) (hlen : rs.length = len) (hr : RdR w a rs) (hsz : ∀ r ∈ rs, r.pat.size ≤ maxLen) (hl : len ≤ maxLen) :
    Calls Tryd.prog 23 #[.slice a len cap] w fun e w' => ∃ g c, e = .returned (.slice (some ⟨g, 0, none⟩) n c) ∧ OwnL w' w.heap.size (some ⟨g, 0, none⟩) n c qs ∧ Below w.heap.size w w' := by
  have HQ := Lib.hid hq
  have HNN := Lib.hid hn
  have HR := Lib.hid hr
  have HSZ := Lib.hid hsz
  have HLEN := Lib.hid hlen
  have hl' : len ≤ 9223372036854775807 := hl
  clear hq hn hr hsz hlen hl
  go_enter Tryd.func23, Tryd.ntmps23
  go_wp2_with fail
  go_loopw [3, 4] (fun o i wr => ∃ (k g c : Nat), k ≤ len ∧ k ≤ 20 ∧ o = .slice (some ⟨g, 0, none⟩) k c ∧ i = .int .i64 k ∧ Hid (OwnL wr w.heap.size (some ⟨g, 0, none⟩) k c ((rs.take k).map cutR)) ∧ Hid (Below w.heap.size w wr)) (fun _ i _ => len - (intOf i).toNat)
  case atStart => exact ⟨0, _, _, by omega, by omega, rfl, rfl, Lib.hid (by rw [List.take_zero]; exact OwnL.empty (Nat.le_refl _)), Lib.hid ((Below.refl _ _).alloc (Nat.le_refl _) _)⟩
  case round =>
    obtain ⟨k, g, c, hk, hk2, rfl, rfl, HO, BR⟩ := hrel
    have hbs := BR.out.size
    have hfin : (¬ k < len ∨ k = 20) → Hid (k = n ∧ (rs.take k).map cutR = qs) := fun h => Lib.hid (by
      have e : rs.take k = rs.take 20 := by
        rcases h with h | h
        · rw [List.take_of_length_le (by have := HLEN.out; omega), List.take_of_length_le (by have := HLEN.out; omega)]
        · rw [h]
      have e2 : (rs.take k).map cutR = qs := by rw [e, ← HQ.out]; rfl
      refine ⟨?_, e2⟩
      rw [← HNN.out, ← e2, List.length_map, List.length_take]
      have := HLEN.out
      omega)
    by_cases hlt : k < len
    · by_cases h20 : k < 20
      · skip
        clear hfin
        obtain ⟨r, hrk⟩ : ∃ r, rs[k]? = some r := ⟨rs[k]'(by have := HLEN.out; omega), List.getElem?_eq_getElem _⟩
        obtain ⟨bb, off, ha, hc⟩ := HR.out
        have ha' := ha (by have := HLEN.out; omega)
        subst ha'
        obtain ⟨q0, q1⟩ := hc k r hrk
        have Q0 := Lib.hid q0
        have Q1 := Lib.hid q1
        have HRS : Hid (r.pat.size ≤ maxLen) := Lib.hid (HSZ.out r (List.mem_of_getElem? hrk))
        have HRK : Hid (rs.take (k + 1) = rs.take k ++ [r]) := Lib.hid (take_add hrk)
        clear ha hc q0 q1 hrk
        go_wp2_with fail
        go_upto_region 5 with fail
        refine wp_region_last 15 (fun w' => Below w.heap.size w w') (by kernel_rfl) (BR.out.drew) (fun hHeld hClosed => ?_)
        refine wpAnyL_take (i := 0) (v := ?_) rfl (by kernel_rfl) (by kernel_rfl) (by kernel_rfl) (by kernel_rfl) (fun _ _ _ h => h) (by kernel_rfl) hClosed (Or.inl ⟨by rfl, ?_⟩) hHeld (fun hClosed => ?_)
        rotate_left
        · intro wv hSw; go_simp; all_goals (with_reducible rfl)
        (try simp only [List.getElem_toArray, List.getElem_cons_zero, put_at, List.set])
        refine wpAnyL_take (i := 1) (v := ?_) rfl (by kernel_rfl) (by kernel_rfl) (by kernel_rfl) (by kernel_rfl) (fun _ _ _ h => h) (by kernel_rfl) hClosed (Or.inl ⟨by rfl, ?_⟩) hHeld (fun hClosed => ?_)
        rotate_left
        · intro wv hSw; go_simp; all_goals (with_reducible rfl)
        (try simp only [List.getElem_toArray, List.getElem_cons_succ, List.getElem_cons_zero, put_at, List.set])
        refine wpAnyL_take (i := 2) (v := ?_) rfl (by kernel_rfl) (by kernel_rfl) (by kernel_rfl) (by kernel_rfl) (fun _ _ _ h => h) (by kernel_rfl) hClosed (Or.inl ⟨by rfl, ?_⟩) hHeld (fun hClosed => ?_)
        rotate_left
        · intro wv hSw; go_simp; all_goals (with_reducible rfl)
        (try simp only [List.getElem_toArray, List.getElem_cons_succ, List.getElem_cons_zero, put_at, List.set])
        refine wpAnyL_take (i := 3) (v := ?_) rfl (by kernel_rfl) (by kernel_rfl) (by kernel_rfl) (by kernel_rfl) (fun _ _ _ h => h) (by kernel_rfl) hClosed (Or.inl ⟨by rfl, ?_⟩) hHeld (fun hClosed => ?_)
        rotate_left
        · intro wv hSw; go_simp; all_goals (with_reducible rfl)
        (try simp only [List.getElem_toArray, List.getElem_cons_succ, List.getElem_cons_zero, put_at, List.set])
        refine wpAnyL_take (i := 4) (v := ?_) rfl (by kernel_rfl) (by kernel_rfl) (by kernel_rfl) (by kernel_rfl) (fun _ _ _ h => h) (by kernel_rfl) hClosed (Or.inl ⟨by rfl, ?_⟩) hHeld (fun hClosed => ?_)
        rotate_left
        · intro wv hSw; go_simp; all_goals (with_reducible rfl)
        (try simp only [List.getElem_toArray, List.getElem_cons_succ, List.getElem_cons_zero, put_at, List.set])
        refine wpAnyL_take (i := 5) (v := ?_) rfl (by kernel_rfl) (by kernel_rfl) (by kernel_rfl) (by kernel_rfl) (fun _ _ _ h => h) (by kernel_rfl) hClosed (Or.inl ⟨by rfl, ?_⟩) hHeld (fun hClosed => ?_)
        rotate_left
        · intro wv hSw; have c0 := (hSw.cell (World.block_lt_of_cell? _ _ Q0.out)).trans Q0.out; have c1 := (hSw.cell (World.block_lt_of_cell? _ _ Q1.out)).trans Q1.out; go_simp; all_goals (with_reducible rfl)
        (try simp only [List.getElem_toArray, List.getElem_cons_succ, List.getElem_cons_zero, put_at, List.set])
        refine wpAnyL_take (i := 6) (v := ?_) rfl (by kernel_rfl) (by kernel_rfl) (by kernel_rfl) (by kernel_rfl) (fun _ _ _ h => h) (by kernel_rfl) hClosed (Or.inl ⟨by rfl, ?_⟩) hHeld (fun hClosed => ?_)
        rotate_left
        · intro wv hSw; go_simp; all_goals (with_reducible rfl)
        (try simp only [List.getElem_toArray, List.getElem_cons_succ, List.getElem_cons_zero, put_at, List.set])
        refine wpAnyL_take (i := 7) (v := ?_) rfl (by kernel_rfl) (by kernel_rfl) (by kernel_rfl) (by kernel_rfl) (fun _ _ _ h => h) (by kernel_rfl) hClosed (Or.inl ⟨by rfl, ?_⟩) hHeld (fun hClosed => ?_)
        rotate_left
        · intro wv hSw; go_simp; all_goals (with_reducible rfl)
        (try simp only [List.getElem_toArray, List.getElem_cons_succ, List.getElem_cons_zero, put_at, List.set])
        refine wpAnyL_take (i := 8) (v := ?_) rfl (by kernel_rfl) (by kernel_rfl) (by kernel_rfl) (by kernel_rfl) (fun _ _ _ h => h) (by kernel_rfl) hClosed (Or.inl ⟨by rfl, ?_⟩) hHeld (fun hClosed => ?_)
        rotate_left
        · intro wv hSw; go_simp; all_goals (with_reducible rfl)
        (try simp only [List.getElem_toArray, List.getElem_cons_succ, List.getElem_cons_zero, put_at, List.set])
        refine wpAnyL_take (i := 9) (v := ?_) rfl (by kernel_rfl) (by kernel_rfl) (by kernel_rfl) (by kernel_rfl) (fun _ _ _ h => h) (by kernel_rfl) hClosed (Or.inl ⟨by rfl, ?_⟩) hHeld (fun hClosed => ?_)
        rotate_left
        · intro wv hSw; go_simp; all_goals (with_reducible rfl)
        (try simp only [List.getElem_toArray, List.getElem_cons_succ, List.getElem_cons_zero, put_at, List.set])
        refine wpAnyL_take (i := 10) (v := ?_) rfl (by kernel_rfl) (by kernel_rfl) (by kernel_rfl) (by kernel_rfl) (fun _ _ _ h => h) (by kernel_rfl) hClosed (Or.inl ⟨by rfl, ?_⟩) hHeld (fun hClosed => ?_)
        rotate_left
        · intro wv hSw; have c0 := (hSw.cell (World.block_lt_of_cell? _ _ Q0.out)).trans Q0.out; have c1 := (hSw.cell (World.block_lt_of_cell? _ _ Q1.out)).trans Q1.out; go_simp; all_goals (with_reducible rfl)
        (try simp only [List.getElem_toArray, List.getElem_cons_succ, List.getElem_cons_zero, put_at, List.set])
        refine wpAnyL_one (i := 11) rfl (by kernel_rfl) (by kernel_rfl) hClosed (fun KK hK => ?_)
        go_simp
        refine (cut10_at r.pat _ rfl HRS.out _).mono ?_
        rintro e wq ⟨rfl, rfl⟩
        go_wp2_with fail
        refine hK.out _ _ ?_ (fun hClosed hHeld => ?_)
        · exact hHeld
        clear hK KK
        (first | simp only [List.getElem_toArray, List.getElem_cons_succ, List.getElem_cons_zero, put_at, List.set] | (try simp only [put_at, List.set]))
        refine wpAnyL_take (i := 12) (v := ?_) rfl (by kernel_rfl) (by kernel_rfl) (by kernel_rfl) (by kernel_rfl) (fun _ _ _ h => h) (by kernel_rfl) hClosed (Or.inl ⟨by rfl, ?_⟩) hHeld (fun hClosed => ?_)
        rotate_left
        · intro wv hSw; go_simp; all_goals (with_reducible rfl)
        (try simp only [List.getElem_toArray, List.getElem_cons_succ, List.getElem_cons_zero, put_at, List.set])
        refine wpAnyL_one (i := 13) rfl (by kernel_rfl) (by kernel_rfl) hClosed (fun KK hK => ?_)
        go_simp
        refine hK.out _ _ ?_ (fun hClosed hHeld => ?_)
        · exact hHeld.alloc hHeld.size _
        clear hK KK
        (first | simp only [List.getElem_toArray, List.getElem_cons_succ, List.getElem_cons_zero, put_at, List.set] | (try simp only [put_at, List.set]))
        refine wpAnyL_one (i := 14) rfl (by kernel_rfl) (by kernel_rfl) hClosed (fun KK hK => ?_)
        refine step_appL rfl _ _ rfl w.heap.size (some ⟨g, 0, none⟩) k c ((rs.take k).map cutR) rfl (HO.out.alloc _) _ 1 1 [cutR r] rfl rfl (cells_new _ (flatL [cutR r]) _) (by omega) (by simp; omega) ?_
        intro a' cap' w2 ho hb
        refine hK.out _ _ ?_ (fun hClosed hHeld => ?_)
        · exact hHeld.trans hb
        clear hK KK
        (first | simp only [List.getElem_toArray, List.getElem_cons_succ, List.getElem_cons_zero, put_at, List.set] | (try simp only [put_at, List.set]))
        refine wpAnyL_last rfl (by kernel_rfl) (by kernel_rfl) (fun KK hK => ?_)
        go_simp
        refine hK.out _ _ ?_
        (try simp only [put_at, List.set])
        obtain ⟨g2, rfl⟩ := ho.plain (by omega)
        have H2 : Hid (OwnL w2 w.heap.size (some ⟨g2, 0, none⟩) (k + 1) cap' ((rs.take (k + 1)).map cutR)) := Lib.hid (by rw [HRK.out, List.map_append]; exact ho)
        have B2 := Lib.hid hHeld
        clear ho hb
        go_wp2
        go_roundw
        case rel => exact ⟨k + 1, g2, cap', by omega, by omega, rfl, by go_num, H2, B2⟩
        case measure => simp [intOf]; omega
      · have h20' : k = 20 := by omega
        subst h20'
        obtain ⟨rfl, e2⟩ := (hfin (Or.inr rfl)).out
        have HO2 := HO.out
        rw [e2] at HO2
        have H2 := Lib.hid HO2
        clear hfin HO2 e2
        go_wp2
        go_ret
        exact ⟨_, _, rfl, H2.out, BR.out⟩
    · obtain ⟨rfl, e2⟩ := (hfin (Or.inl hlt)).out
      have HO2 := HO.out
      rw [e2] at HO2
      have H2 := Lib.hid HO2
      clear hfin HO2 e2
      go_wp2
      go_ret
      exact ⟨_, _, rfl, H2.out, BR.out⟩
end Go.Proofs.YtcedckkmdpecmaaDoor
