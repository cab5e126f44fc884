/- The law's texts as words. -/
import Derived.Test.YtmdaggcfnkacjaaDoorTlEnc
namespace Go.Proofs.YtmdaggcfnkacjaaDoor
open Go Go.RowKit
set_option linter.unusedVariables false
set_option linter.unusedSimpArgs false
set_option maxRecDepth 10000

set_option maxHeartbeats 2000000 in
theorem hex_at (s t : ByteArray) (ht : stB (hexW (bl s)) = t) (hs : s.size ≤ 100000) (w : World) :
    Calls Tryd.prog 19 #[.string s] w fun e w' => e = .returned (.string t) ∧ Below w.heap.size w w' := by
  have HT := Lib.hid ht
  clear ht
  have OL := Lib.hid (Own.lit (w := w) (B := w.heap.size) (n := 1) (size := 1) (cs := #[.int .u8 120]) (E := 5) (Nat.le_refl _) (by omega) rfl)
  have BL := Lib.hid ((Below.refl w.heap.size w).alloc (Nat.le_refl _) (.cells #[.int .u8 120] 5))
  go_enter Tryd.func19, Tryd.ntmps19
  go_wp2_with fail
  go_loopw [4, 5] (fun vb vk wr => ∃ (k n c g : Nat), k ≤ s.size ∧ n = 1 + 2 * k ∧ vk = .int .i64 (k : Int) ∧ vb = .slice (some ⟨g, 0, none⟩) n c ∧ Hid (Own wr w.heap.size 5 1 (some ⟨g, 0, none⟩) n c (u8V (hexW ((bl s).take k)))) ∧ Hid (Below w.heap.size w wr)) (fun _ vk _ => s.size - (intOf vk).toNat)
  case atStart => exact ⟨0, 1, 1, _, by omega, by omega, rfl, rfl, OL, BL⟩
  case round =>
    clear OL BL
    obtain ⟨k, n, c, g, hk, hn, rfl, rfl, HO, HB⟩ := hrel
    have HN := Lib.hid hn
    clear hn
    by_cases hlt : k < s.size
    · have hkd : decide ((k : Int) < (s.size : Int)) = true := decide_eq_true (by omega)
      have HZ : Hid (u8V (hexW ((bl s).take k)) ++ u8V [hexD (s[k].toNat / 16), hexD (s[k].toNat % 16)] = u8V (hexW ((bl s).take (k + 1)))) := Lib.hid (enc_next s k hlt)
      have hnb : n ≤ 200001 := by have := HN.out; omega
      obtain ⟨CC, hCC⟩ : ∃ c, s[k] = c := ⟨_, rfl⟩
      rw [hCC] at HZ
      go_upto_region 6 with fail
      refine wp_region_last 15 (fun w' => Below w.heap.size w w') (by kernel_rfl) (HB.out.drew) (fun hHeld hClosed => ?_)
      refine wpAnyL_take (i := 0) (v := ?_) rfl (by kernel_rfl) (by kernel_rfl) (by kernel_rfl) (by kernel_rfl) (fun _ _ _ h => h) (by kernel_rfl) hClosed (Or.inl ⟨by rfl, ?_⟩) hHeld (fun hClosed => ?_)
      rotate_left
      · intro wv hSw; go_simp; all_goals (with_reducible rfl)
      (try simp only [List.getElem_toArray, List.getElem_cons_zero, put_at, List.set])
      refine wpAnyL_take (i := 1) (v := ?_) rfl (by kernel_rfl) (by kernel_rfl) (by kernel_rfl) (by kernel_rfl) (fun _ _ _ h => h) (by kernel_rfl) hClosed (Or.inl ⟨by rfl, ?_⟩) hHeld (fun hClosed => ?_)
      rotate_left
      · intro wv hSw; go_simp; all_goals (with_reducible rfl)
      (try simp only [List.getElem_toArray, List.getElem_cons_succ, List.getElem_cons_zero, put_at, List.set])
      refine wpAnyL_take (i := 2) (v := ?_) rfl (by kernel_rfl) (by kernel_rfl) (by kernel_rfl) (by kernel_rfl) (fun _ _ _ h => h) (by kernel_rfl) hClosed (Or.inl ⟨by rfl, ?_⟩) hHeld (fun hClosed => ?_)
      rotate_left
      · intro wv hSw; go_simp; all_goals (with_reducible rfl)
      (try simp only [List.getElem_toArray, List.getElem_cons_succ, List.getElem_cons_zero, put_at, List.set])
      refine wpAnyL_take (i := 3) (v := ?_) rfl (by kernel_rfl) (by kernel_rfl) (by kernel_rfl) (by kernel_rfl) (fun _ _ _ h => h) (by kernel_rfl) hClosed (Or.inl ⟨by rfl, ?_⟩) hHeld (fun hClosed => ?_)
      rotate_left
      · intro wv hSw; go_simp; all_goals (with_reducible rfl)
      (try simp only [List.getElem_toArray, List.getElem_cons_succ, List.getElem_cons_zero, put_at, List.set])
      refine wpAnyL_take (i := 4) (v := .int .u8 (CC.toNat : Int)) rfl (by kernel_rfl) (by kernel_rfl) (by kernel_rfl) (by kernel_rfl) (fun _ _ _ h => h) (by kernel_rfl) hClosed (Or.inl ⟨by rfl, ?_⟩) hHeld (fun hClosed => ?_)
      · intro wv hSw; go_simp
      (try simp only [List.getElem_toArray, List.getElem_cons_succ, List.getElem_cons_zero, put_at, List.set])
      refine wpAnyL_take (i := 5) (v := .int .u8 ((CC.toNat : Int) / 16)) rfl (by kernel_rfl) (by kernel_rfl) (by kernel_rfl) (by kernel_rfl) (fun _ _ _ h => h) (by kernel_rfl) hClosed (Or.inl ⟨by rfl, ?_⟩) hHeld (fun hClosed => ?_)
      · intro wv hSw; have hq := CC.toNat_lt; go_simp; rw [IntKind.wrap_u8]; omega
      (try simp only [List.getElem_toArray, List.getElem_cons_succ, List.getElem_cons_zero, put_at, List.set])
      refine wpAnyL_take (i := 6) (v := .int .u8 ((hexD (CC.toNat / 16)).toNat : Int)) rfl (by kernel_rfl) (by kernel_rfl) (by kernel_rfl) (by kernel_rfl) (fun _ _ _ h => h) (by kernel_rfl) hClosed (Or.inl ⟨by rfl, ?_⟩) hHeld (fun hClosed => ?_)
      · intro wv hSw; have hq := CC.toNat_lt; go_simp; rw [dif_pos (by omega)]; simp only [dig_hi]; rfl
      (try simp only [List.getElem_toArray, List.getElem_cons_succ, List.getElem_cons_zero, put_at, List.set])
      refine wpAnyL_take (i := 7) (v := ?_) rfl (by kernel_rfl) (by kernel_rfl) (by kernel_rfl) (by kernel_rfl) (fun _ _ _ h => h) (by kernel_rfl) hClosed (Or.inl ⟨by rfl, ?_⟩) hHeld (fun hClosed => ?_)
      rotate_left
      · intro wv hSw; go_simp; all_goals (with_reducible rfl)
      (try simp only [List.getElem_toArray, List.getElem_cons_succ, List.getElem_cons_zero, put_at, List.set])
      refine wpAnyL_take (i := 8) (v := ?_) rfl (by kernel_rfl) (by kernel_rfl) (by kernel_rfl) (by kernel_rfl) (fun _ _ _ h => h) (by kernel_rfl) hClosed (Or.inl ⟨by rfl, ?_⟩) hHeld (fun hClosed => ?_)
      rotate_left
      · intro wv hSw; go_simp; all_goals (with_reducible rfl)
      (try simp only [List.getElem_toArray, List.getElem_cons_succ, List.getElem_cons_zero, put_at, List.set])
      refine wpAnyL_take (i := 9) (v := ?_) rfl (by kernel_rfl) (by kernel_rfl) (by kernel_rfl) (by kernel_rfl) (fun _ _ _ h => h) (by kernel_rfl) hClosed (Or.inl ⟨by rfl, ?_⟩) hHeld (fun hClosed => ?_)
      rotate_left
      · intro wv hSw; go_simp; all_goals (with_reducible rfl)
      (try simp only [List.getElem_toArray, List.getElem_cons_succ, List.getElem_cons_zero, put_at, List.set])
      refine wpAnyL_take (i := 10) (v := .int .u8 (CC.toNat : Int)) rfl (by kernel_rfl) (by kernel_rfl) (by kernel_rfl) (by kernel_rfl) (fun _ _ _ h => h) (by kernel_rfl) hClosed (Or.inl ⟨by rfl, ?_⟩) hHeld (fun hClosed => ?_)
      · intro wv hSw; go_simp
      (try simp only [List.getElem_toArray, List.getElem_cons_succ, List.getElem_cons_zero, put_at, List.set])
      refine wpAnyL_take (i := 11) (v := .int .u8 ((CC.toNat : Int) % 16)) rfl (by kernel_rfl) (by kernel_rfl) (by kernel_rfl) (by kernel_rfl) (fun _ _ _ h => h) (by kernel_rfl) hClosed (Or.inl ⟨by rfl, ?_⟩) hHeld (fun hClosed => ?_)
      · intro wv hSw; go_simp; exact Int.tmod_eq_emod_of_nonneg (by omega)
      (try simp only [List.getElem_toArray, List.getElem_cons_succ, List.getElem_cons_zero, put_at, List.set])
      refine wpAnyL_take (i := 12) (v := .int .u8 ((hexD (CC.toNat % 16)).toNat : Int)) rfl (by kernel_rfl) (by kernel_rfl) (by kernel_rfl) (by kernel_rfl) (fun _ _ _ h => h) (by kernel_rfl) hClosed (Or.inl ⟨by rfl, ?_⟩) hHeld (fun hClosed => ?_)
      · intro wv hSw; have hq := CC.toNat_lt; go_simp; rw [dif_pos (by omega)]; simp only [dig_lo]; rfl
      (try simp only [List.getElem_toArray, List.getElem_cons_succ, List.getElem_cons_zero, put_at, List.set])
      refine wpAnyL_one (i := 13) rfl (by kernel_rfl) (by kernel_rfl) hClosed (fun KK hK => ?_)
      go_simp
      refine hK.out _ _ ?_ (fun hClosed hHeld => ?_)
      · exact hHeld.alloc hHeld.size _
      clear hK KK
      (first | simp only [List.getElem_toArray, List.getElem_cons_succ, List.getElem_cons_zero, put_at, List.set] | (try simp only [put_at, List.set]))
      refine wpAnyL_one (i := 14) rfl (by kernel_rfl) (by kernel_rfl) hClosed (fun KK hK => ?_)
      refine step_appR rowU8 rfl _ _ rfl w.heap.size (some ⟨g, 0, none⟩) n c (u8V (hexW ((bl s).take k))) rfl (HO.out.drew.alloc _) _ 0 2 2 (u8V [hexD (CC.toNat / 16), hexD (CC.toNat % 16)]) rfl (by decide) rfl (new_cells _ _ _) (u8V_one _) (by omega) (by decide) hHeld.size (n + 2) rfl (u8V (hexW ((bl s).take (k + 1)))) HZ.out ?_
      rintro g5 c5 w5 p1 p2 p3 p4
      refine hK.out _ _ ?_ (fun hClosed hHeld => ?_)
      · exact hHeld.trans p3
      clear hK KK
      (first | simp only [List.getElem_toArray, List.getElem_cons_succ, List.getElem_cons_zero, put_at, List.set] | (try simp only [put_at, List.set]))
      refine wpAnyL_last rfl (by kernel_rfl) (by kernel_rfl) (fun KK hK => ?_)
      go_simp
      refine hK.out _ _ ?_
      (try simp only [put_at, List.set])
      go_wp2
      go_roundw
      case rel => exact ⟨k + 1, n + 2, c5, g5, by omega, by have := HN.out; omega, by go_num, rfl, Lib.hid p1, Lib.hid hHeld⟩
      case measure => simp [intOf]; omega
    · have hkd : decide ((k : Int) < (s.size : Int)) = false := decide_eq_false (by omega)
      have e1 : (bl s).take k = bl s := List.take_of_length_le (by rw [bl_len]; omega)
      rw [e1] at HO
      have hcv := own_text HO.out (by unfold hexW; rw [List.length_cons, hexL_length, bl_len]; have := HN.out; omega)
      rw [HT.out] at hcv
      go_wp2
      go_ret
      exact ⟨rfl, HB.out⟩
end Go.Proofs.YtmdaggcfnkacjaaDoor
