/- Package match: the matching of a path, the parts one after the other. -/
import Derived.Test.YtodlecjbpmggiaaGreatDoorMtFn
namespace Go.Proofs.YtodlecjbpmggiaaGreatDoor
open Go.RowKit
set_option linter.unusedVariables false
set_option linter.unusedSimpArgs false

theorem isEmpty_iff (R : ByteArray) : R.toList.isEmpty = true ↔ dl R = [] := by
  rw [Lib.toList_data]
  simp [dl]
theorem strs_cell {w : World} {g : Nat} {L : List ByteArray} {t : TypeId} (h : Box w g (L.map Value.string).toArray t) (i : Nat) (x : ByteArray) (hx : L[i]? = some x) : w.cell? ⟨g, i, none⟩ = some (.string x) := by
  rw [h.cell i]
  simp [hx]
theorem gw_mid {q : List UInt8} {ps : List (List UInt8)} (h : ps ≠ []) (s : List UInt8) : gw (q :: ps) s ↔ 0 ≤ Lib.index s q ∧ gw ps (s.drop ((Lib.index s q).toNat + q.length)) := by
  cases ps with
  | nil => exact absurd rfl h
  | cons r ps => exact Iff.rfl
theorem gw_last (wb : Bool) (q s : List UInt8) : gw (psW wb [q]) s ↔ (if wb then q.isSuffixOf s else decide (0 ≤ Lib.index s q)) = true := by
  cases wb
  · show gw [q, []] s ↔ _
    rw [gw_mid (by simp)]
    simp [gw]
  · show q <:+ s ↔ _
    simp
theorem psW_cons (wb : Bool) (q : List UInt8) (ps : List (List UInt8)) : psW wb (q :: ps) = q :: psW wb ps := by
  cases wb <;> simp [psW]
theorem psW_ne (wb : Bool) {ps : List (List UInt8)} (h : ps ≠ []) : psW wb ps ≠ [] := by
  cases wb <;> simp [psW, h]
theorem infoS : (Tryz.prog.info? 9).map (fun i => (i.zero, i.size, i.bytes)) = some (some (.string ByteArray.empty), 1, 16) := by kernel_rfl
set_option maxHeartbeats 4000000 in
set_option maxRecDepth 100000 in
theorem matches_at (p s : ByteArray) (b : Bool) (hb : MM (dl p) (dl s) = b) (hp : p.size ≤ 100000) (hs : s.size ≤ 100000) (w : World) (hT : TabsM w) :
    Calls Tryz.prog 38 #[.string p, .string s] w fun e w' => e = .returned (.bool b) ∧ Below w.heap.size w w' := by
  have HT := Lib.hid hT
  have HB := Lib.hid hb
  clear hT hb
  go_enter Tryz.func38, Tryz.ntmps38
  go_wp2_with fail
  refine (csuf_at p _ hp).mono ?_
  rintro e w' ⟨P1, wb, rfl, hcut, rfl⟩
  have hP1 : P1.size ≤ 100000 := Nat.le_trans hcut.size hp
  have HC := Lib.hid hcut
  clear hcut
  go_wp2_with fail
  refine (split_at P1 _ hP1 HT.out).mono ?_
  rintro e w1 ⟨P0, PS, rfl, hparts, hw1⟩
  obtain ⟨n, hn⟩ : ∃ n, PS.length = n := ⟨_, rfl⟩
  rw [hn]
  have hbx : Box w1 w.heap.size ((P0 :: PS).map Value.string).toArray 9 := by rw [hw1]; exact Box.new _ _ _
  have hbl : Below w.heap.size w w1 := by rw [hw1]; exact (Below.refl _ _).alloc (Nat.le_refl _) _
  have hgr : Hid (b = true ↔ dl P0 <+: dl s ∧ gw (psW wb (PS.map dl)) ((dl s).drop (dl P0).length)) := Lib.hid (by rw [← HB.out]; exact mm_greedy HC.out hparts (dl s))
  have hnb : n ≤ 100000 := by
    have h1 := congrArg List.length hparts.join
    have h2 : ∀ ps : List (List UInt8), ps.length ≤ (joinP ps).length := by
      intro ps
      induction ps with
      | nil => simp
      | cons a l ih => rw [joinP_cons]; simp; omega
    have h3 := h2 (PS.map dl)
    rw [List.length_append] at h1
    rw [List.length_map, hn] at h3
    have h4 : (dl P1).length = P1.size := (Lib.size_eq P1).symm
    omega
  clear hw1 hparts
  have HBX := Lib.hid hbx
  have HBL := Lib.hid hbl
  have HN := Lib.hid hn
  have c0 := strs_cell hbx 0 P0 rfl
  have T1 := Lib.hid (HT.out.later hbl)
  clear hbx hbl hn
  go_wp2_with fail
  refine (cpre_at s P0 _).mono ?_
  rintro e w' ⟨R, pb, rfl, hp1, hp2, rfl⟩
  cases pb
  · have HF : Hid (b = false) := Lib.hid (by
      cases hb : b with
      | false => rfl
      | true => exact absurd (hgr.out.1 hb).1 (hp2 rfl))
    clear hp1 hp2
    go_wp2
    go_ret
    rw [HF.out]
    exact ⟨rfl, HBL.out⟩
  · obtain ⟨hpre, hR⟩ := hp1 rfl
    have HG : Hid (b = true ↔ gw (psW wb (PS.map dl)) (dl R)) := Lib.hid (by rw [hgr.out, hR]; exact ⟨fun h => h.2, fun h => ⟨hpre, h⟩⟩)
    have hRs : R.size ≤ 100000 := by
      rw [Lib.size_eq]
      show (dl R).length ≤ _
      rw [hR, List.length_drop]
      have : (dl s).length = s.size := (Lib.size_eq s).symm
      omega
    clear hp1 hp2 hpre hR hgr
    by_cases hn0 : n = 0
    · subst hn0
      have hPS : PS = [] := List.eq_nil_of_length_eq_zero HN.out
      subst hPS
      cases wb
      · have HF : Hid (b = true) := Lib.hid (HG.out.2 (by show [] <:+ dl R; exact List.nil_suffix))
        clear c0
        go_wp2
        all_goals
          go_ret
          rw [HF.out]
          exact ⟨rfl, HBL.out⟩
      · cases hre : R.toList.isEmpty with
        | true =>
          have HF : Hid (b = true) := Lib.hid (HG.out.2 ((isEmpty_iff R).1 hre))
          clear c0
          go_wp2
          go_ret
          rw [HF.out]
          exact ⟨rfl, HBL.out⟩
        | false =>
          have HF : Hid (b = false) := Lib.hid (by
            cases hb : b with
            | false => rfl
            | true =>
              have := (isEmpty_iff R).2 (HG.out.1 hb)
              rw [hre] at this
              cases this)
          clear c0
          go_wp2
          go_ret
          rw [HF.out]
          exact ⟨rfl, HBL.out⟩
    · have hn1 : 1 ≤ n := by omega
      have hnb2 : ((n : Int) + 1 == 1) = false := by rw [beq_eq_false_iff_ne]; omega
      obtain ⟨L, hL⟩ : ∃ L, PS[n - 1]? = some L := ⟨PS[n - 1]'(by have := HN.out; omega), List.getElem?_eq_getElem _⟩
      have cl := strs_cell HBX.out n L (by
        rw [show n = (n - 1) + 1 from by omega, List.getElem?_cons_succ]
        exact hL)
      have HL := Lib.hid hL
      have hsl : ∀ wx : World, (Instr.sliceAt 49 (.slice (some ⟨w.heap.size, 0, none⟩) (n + 1) (n + 1)) (some (.int .i64 1)) (some (.int .i64 n)) none).run Tryz.prog wx = .ok (.slice (some ⟨w.heap.size, 1, none⟩) (n - 1) n) wx := by
        obtain ⟨i0, hi0, hz0, hz1, hz2⟩ := info_parts infoS
        obtain ⟨off', h1, h2, _⟩ := slice_part (P := Tryz.prog) 49 9 Tryz.underlying49 hi0 hz1 w.heap.size 0 (n + 1) (n + 1) 1 n hn1 (by omega)
        have h3 := h2 (by omega)
        subst h3
        intro wx
        have := h1 wx
        simpa using this
      have k0 : (0 : Int) ≤ (n : Int) := by omega
      have k1 : (n : Int) < (n : Int) + 1 := by omega
      clear hL hn0
      go_wp2_with fail
      go_region
      clear hsl k0 k1 c0 cl
      go_wp2
      go_loopw [7, 8, 12, 52] (fun rest _ _ i wr => ∃ (k : Nat) (R' : ByteArray), k ≤ n - 1 ∧ i = .int .i64 k ∧ rest = .string R' ∧ R'.size ≤ 100000 ∧ Hid (Below w.heap.size w wr ∧ Below w1.heap.size w1 wr) ∧ Hid (b = true ↔ gw (psW wb ((PS.map dl).drop k)) (dl R'))) (fun _ _ _ i _ => n - 1 - (intOf i).toNat)
      case atStart => exact ⟨0, R, by omega, rfl, rfl, hRs, Lib.hid ⟨HBL.out.drew, (Below.refl _ _).drew⟩, HG⟩
      case round =>
        clear HG hRs
        obtain ⟨k, R', hk, rfl, rfl, hRs, HW, HG⟩ := hrel
        have TR := Lib.hid (HT.out.later HW.out.1)
        by_cases hlt : k < n - 1
        · obtain ⟨q, hq⟩ : ∃ q, PS[k]? = some q := ⟨PS[k]'(by have := HN.out; omega), List.getElem?_eq_getElem _⟩
          have cq0 := strs_cell HBX.out (k + 1) q (by rw [List.getElem?_cons_succ]; exact hq)
          have cq : wr.cell? ⟨w.heap.size, 1 + k, none⟩ = some (.string q) := by
            rw [Nat.add_comm 1 k]
            exact (HW.out.2.cell (World.block_lt_of_cell? _ _ cq0)).trans cq0
          have hdk : Hid ((PS.map dl).drop k = dl q :: (PS.map dl).drop (k + 1)) := Lib.hid (by
            obtain ⟨h1, h2⟩ := List.getElem?_eq_some_iff.1 hq
            rw [List.drop_eq_getElem_cons (by rw [List.length_map]; exact h1), List.getElem_map, h2])
          have hne : Hid ((PS.map dl).drop (k + 1) ≠ []) := Lib.hid (by
            intro h
            have := congrArg List.length h
            rw [List.length_drop, List.length_map] at this
            have := HN.out
            simp only [List.length_nil] at *
            omega)
          have hd1 : decide ((k : Int) < ((n - 1 : Nat) : Int)) = true := by simp; omega
          clear cq0 hq
          go_wp2_with fail
          refine (cut_at R' q _ hRs TR.out).mono ?_
          rintro e w2 ⟨A, R2, cb, rfl, hc1, hc2, hb2⟩
          have HW2 := Lib.hid (And.intro (HW.out.1.trans (hb2.mono HW.out.1.size)) (HW.out.2.trans (hb2.mono HW.out.2.size)))
          clear hb2 cq
          cases cb
          · have HF : Hid (b = false) := Lib.hid (by
              cases hb : b with
              | false => rfl
              | true =>
                have h1 := HG.out.1 hb
                rw [hdk.out, psW_cons, gw_mid (psW_ne wb hne.out)] at h1
                exact absurd h1.1 (hc2 rfl))
            clear hc1 hc2
            go_wp2
            go_ret
            rw [HF.out]
            exact ⟨rfl, HW2.out.1⟩
          · obtain ⟨g1, g2, g3⟩ := hc1 rfl
            have HG2 : Hid (b = true ↔ gw (psW wb ((PS.map dl).drop (k + 1))) (dl R2)) := Lib.hid (by
              rw [HG.out, hdk.out, psW_cons, gw_mid (psW_ne wb hne.out), g2]
              exact ⟨fun h => h.2, fun h => ⟨g1, h⟩⟩)
            have hR2 : R2.size ≤ 100000 := Nat.le_trans g3 hRs
            clear hc1 hc2 g1 g2 g3
            go_wp2
            go_roundw
            case rel => exact ⟨k + 1, R2, by omega, by go_num, rfl, hR2, HW2, HG2⟩
            case measure => simp [intOf]; omega
        · have hkn : k = n - 1 := by omega
          have hd1 : decide ((k : Int) < ((n - 1 : Nat) : Int)) = false := by simp; omega
          have hlast : Hid ((PS.map dl).drop k = [dl L]) := Lib.hid (by
            obtain ⟨h1, h2⟩ := List.getElem?_eq_some_iff.1 HL.out
            subst hkn
            rw [List.drop_eq_getElem_cons (by rw [List.length_map]; exact h1), List.getElem_map, h2, List.drop_eq_nil_of_le (by rw [List.length_map]; have := HN.out; omega)])
          have HG2 : Hid (b = (if wb then (dl L).isSuffixOf (dl R') else decide (0 ≤ Lib.index (dl R') (dl L)))) := Lib.hid (by
            have h1 := HG.out
            rw [hlast.out, gw_last] at h1
            exact Bool.eq_iff_iff.2 h1)
          clear hkn
          cases wb
          · have HD : Hid (decide (0 ≤ Lib.index (dl R') (dl L)) = b) := Lib.hid (by rw [HG2.out]; rfl)
            go_wp2_with fail
            refine (contains_at R' L b HD.out _ hRs TR.out).mono ?_
            rintro e w' ⟨rfl, rfl⟩
            go_wp2
            go_ret
            exact ⟨rfl, HW.out.1⟩
          · have HD : Hid ((dl L).isSuffixOf (dl R') = b) := Lib.hid (by rw [HG2.out]; rfl)
            go_wp2_with fail
            refine (hsuf_at R' L b HD.out _ hRs).mono ?_
            rintro e w' ⟨rfl, rfl⟩
            go_wp2
            go_ret
            exact ⟨rfl, HW.out.1⟩
end Go.Proofs.YtodlecjbpmggiaaGreatDoor
