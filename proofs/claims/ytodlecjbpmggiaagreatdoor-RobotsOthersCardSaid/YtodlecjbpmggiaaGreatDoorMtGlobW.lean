/- The document's own matching, walked. -/
import Derived.Test.YtodlecjbpmggiaaGreatDoorMtGlob
import Derived.Deep.DeepCutAuto
namespace Go.Proofs.YtodlecjbpmggiaaGreatDoor
open Go.RowKit
set_option linter.unusedVariables false
set_option linter.unusedSimpArgs false

set_option maxHeartbeats 4000000 in
set_option maxRecDepth 100000 in
theorem glob_at (p s : ByteArray) (wh b : Bool) (hb : (if wh then mb (dl p) (dl s) else mb (dl p ++ [42]) (dl s)) = b) (hp : p.size ≤ 100000) (hs : s.size ≤ 100000) (w : World) :
    Calls Tryz.prog 53 #[.string p, .string s, .bool wh] w fun e w' => e = .returned (.bool b) ∧ Below w.heap.size w w' := by
  have HB := Lib.hid hb
  clear hb
  have hmk := make_bools s.size (by omega)
  go_enter Tryz.func53, Tryz.ntmps53
  have bx := Box.new w (rowC s.size fun _ => false) 4
  have c0 : (w.alloc (.cells (rowC s.size fun _ => false) 4)).cell? ⟨w.heap.size, 0, none⟩ = some (.bool false) := by
    rw [bx.cell 0]
    exact rowC_get _ _ 0 (by omega)
  have f0 := bx.free 0
  have q1 : (0 : Int) < (s.size : Int) + 1 := by omega
  have BX := Lib.hid bx
  clear bx
  go_wp2_with fail
  go_loopw [7, 8, 9, 10] (fun a i _ _ wr => ∃ k g : Nat, k ≤ p.size ∧ i = .int .i64 k ∧ a = .slice (some ⟨g, 0, none⟩) (s.size + 1) (s.size + 1) ∧ w.heap.size ≤ g ∧ g < wr.heap.size ∧ Hid (OutG p s w wr k g)) (fun _ i _ _ _ => p.size - (intOf i).toNat)
  case atStart =>
    refine ⟨0, w.heap.size, by omega, rfl, rfl, Nat.le_refl _, by simp, Lib.hid ⟨?_, ?_⟩⟩
    · have := BX.out.set 0 (.bool true)
      rw [rowC_set s.size _ (st (dl p) (dl s) 0) 0 true (fun j hj => by
        rw [st_zero _ _ j (by rw [dl_len]; exact hj)]
        by_cases e : j = 0 <;> simp [e])] at this
      first | exact this | (rw [World.setCell_alloc_at _ _ _ _ _ rfl] at this; exact this) | (rw [← World.setCell_alloc_at _ _ _ _ _ rfl]; exact this)
    · first | exact ((Below.refl _ _).alloc (Nat.le_refl _) _).setCell (p := ⟨w.heap.size, 0, none⟩) (Nat.le_refl _) _ | exact (Below.refl _ _).alloc (Nat.le_refl _) _
  case round =>
    clear c0 f0 q1 BX
    obtain ⟨i, g, hi, rfl, rfl, hg, hgl, HO⟩ := hrel
    obtain ⟨wo, rfl⟩ : ∃ x, x = wr := ⟨_, rfl⟩
    by_cases hlt : i < p.size
    · have hpi := dl_get p i hlt
      go_wp2_with fail
      go_loopw [10] (fun kk wr => ∃ k : Nat, k ≤ s.size + 1 ∧ kk = .int .i64 k ∧ wo.heap.size < wr.heap.size ∧ Hid (InG p s w wr i k g wo.heap.size)) (fun kk _ => s.size + 1 - (intOf kk).toNat)
      case atStart =>
        refine ⟨0, by omega, rfl, by simp, Lib.hid ⟨HO.out.at_.alloc _, ?_, HO.out.bel.alloc (by omega) _⟩⟩
        have := Box.new wo (rowC s.size fun _ => false) 4
        rwa [rowC_congr s.size (fun _ => false) (upTo 0 (st (dl p) (dl s) (i + 1))) (fun j _ => by simp [upTo])] at this
      case round =>
        obtain ⟨k, hk1, rfl, hwl, HI⟩ := hrel
        by_cases hk : k ≤ s.size
        · have hkd : decide ((k : Int) ≤ (s.size : Int)) = true := by simp; omega
          obtain ⟨a, hav⟩ : ∃ a, st (dl p) (dl s) i k = a := ⟨_, rfl⟩
          obtain ⟨r, hr⟩ : ∃ r, st (dl p) (dl s) (i + 1) k = r := ⟨_, rfl⟩
          have gl : g < wr.heap.size := by omega
          have gn : g ≠ wo.heap.size := by omega
          have hbo : w.heap.size ≤ wo.heap.size := by omega
          have fb := HI.out.next.free k
          have cb : wr.cell? ⟨wo.heap.size, k, none⟩ = some (.bool false) := by rw [HI.out.next.cell k, rowC_get _ _ k hk]; simp [upTo]
          have hkn : (k : Int) < (s.size : Int) + 1 := by omega
          have hk0 : (0 : Int) ≤ (k : Int) := by omega
          have HR := Lib.hid hr
          have HP := Lib.hid hpi
          by_cases hc : p[i].toNat = 42
          · -- a star
            have hcb : ((p[i].toNat : Int) == 42) = true := by rw [beq_iff_eq]; omega
            have hp42 : (dl p)[i]? = some 42 := by rw [hpi]; congr 1; exact UInt8.toNat_inj.1 hc
            have hst := st_star hp42 (k := k) (by rw [dl_len]; exact hk)
            have ca : wr.cell? ⟨g, k, none⟩ = some (.bool a) := by rw [HI.out.at_.cell k, rowC_get _ _ k hk, hav]
            rw [hav, hr] at hst
            have HS := Lib.hid hst
            clear hst hav hr hpi hp42 hc
            cases a
            · by_cases hkz : k = 0
              · subst hkz
                have HRF : Hid (r = false) := Lib.hid (by rw [HS.out]; simp)
                go_wp2
                go_roundw
                case rel => exact ⟨0 + 1, by omega, by first | rfl | go_num, by simpa using hwl, Lib.hid (HI.out.store gn hbo hk _ (by rw [HR.out, HRF.out]))⟩
                case measure => (simp [intOf]); try omega
              · have hkp : decide (0 < k) = true := by simp; omega
                have hkp2 : 0 < k := by omega
                have cp : wr.cell? ⟨wo.heap.size, k - 1, none⟩ = some (.bool r) := by
                  rw [HI.out.next.cell (k - 1), rowC_get _ _ (k - 1) (by omega)]
                  have h1 := HS.out
                  rw [Bool.false_or, decide_eq_true (show 0 < k by omega), Bool.true_and] at h1
                  rw [h1]
                  simp only [upTo, decide_eq_true (show k - 1 < k by omega), Bool.true_and]
                have e1 : ((k : Int) - 1).toNat = k - 1 := by omega
                have e2 : (0 : Int) ≤ (k : Int) - 1 := by omega
                have e3 : (k : Int) - 1 < (s.size : Int) + 1 := by omega
                go_wp2
                go_roundw
                case rel => exact ⟨k + 1, by omega, by go_num, by simpa using hwl, Lib.hid (HI.out.store gn hbo hk _ HR.out)⟩
                case measure => (simp [intOf]); try omega
            · have HRT : Hid (r = true) := Lib.hid (by rw [HS.out]; simp)
              go_wp2
              go_roundw
              case rel => exact ⟨k + 1, by omega, by go_num, by simpa using hwl, Lib.hid (HI.out.store gn hbo hk _ (by rw [HR.out, HRT.out]))⟩
              case measure => (simp [intOf]); try omega
          · have hcb : ((p[i].toNat : Int) == 42) = false := by rw [beq_eq_false_iff_ne]; omega
            have hlit := st_lit hpi (fun e => hc (by rw [e]; rfl)) (s := dl s) (k := k) (by rw [dl_len]; exact hk)
            rw [hr] at hlit
            have HLT := Lib.hid hlit
            clear hlit hav hr hpi hc
            by_cases hkz : k = 0
            · subst hkz
              have HRF : Hid (r = false) := Lib.hid (by
                cases hr : r with
                | false => rfl
                | true => have := (HLT.out.1 hr).1; omega)
              go_wp2_with fail
              go_quiet (fail)
              go_wp2
              go_roundw
              case rel => exact ⟨0 + 1, by omega, by first | rfl | go_num, hwl, Lib.hid ((HI.out.skip (by rw [HR.out, HRF.out])).drewN nq)⟩
              case measure => (simp [intOf]); try omega
            · have hkp : decide (0 < k) = true := by simp; omega
              have hkp2 : 0 < k := by omega
              obtain ⟨a2, ha2⟩ : ∃ a2, st (dl p) (dl s) i (k - 1) = a2 := ⟨_, rfl⟩
              have ca : wr.cell? ⟨g, k - 1, none⟩ = some (.bool a2) := by rw [HI.out.at_.cell (k - 1), rowC_get _ _ (k - 1) (by omega), ha2]
              have e1 : ((k : Int) - 1).toNat = k - 1 := by omega
              have e2 : (0 : Int) ≤ (k : Int) - 1 := by omega
              have e3 : (k : Int) - 1 < (s.size : Int) + 1 := by omega
              have e4 : (k : Int) - 1 < (s.size : Int) := by omega
              have e5 : k - 1 < s.size := by omega
              have e6 : IntKind.i64.wrap ((k : Int) - 1) = (k : Int) - 1 := IntWalk.i64_in _ (by omega)
              have hsk := dl_get s (k - 1) e5
              rw [ha2, hsk] at HLT
              have HLT2 := HLT
              clear HLT ha2 hsk hkn hk0
              cases a2
              · have HRF : Hid (r = false) := Lib.hid (by
                  cases hr : r with
                  | false => rfl
                  | true => have := (HLT2.out.1 hr).2.1; cases this)
                go_wp2_with fail
                go_quiet (fail)
                clear e1 e2 e3 e4 e6
                go_wp2
                go_roundw
                case rel => exact ⟨k + 1, by omega, by go_num, hwl, Lib.hid ((HI.out.skip (by rw [HR.out, HRF.out])).drewN nq)⟩
                case measure => (simp [intOf]); try omega
              · by_cases heq : s[k - 1].toNat = p[i].toNat
                · obtain ⟨xv, hxv⟩ : ∃ x : Int, (s[k - 1].toNat : Int) = x := ⟨_, rfl⟩
                  obtain ⟨yv, hyv⟩ : ∃ x : Int, (p[i].toNat : Int) = x := ⟨_, rfl⟩
                  have hq : (xv == yv) = true := by rw [beq_iff_eq]; omega
                  have HRT : Hid (r = true) := Lib.hid (HLT2.out.2 ⟨by omega, rfl, by congr 1; exact UInt8.toNat_inj.1 heq⟩)
                  clear heq
                  go_wp2_with fail
                  go_quiet (fail)
                  clear e1 e2 e3 e4 e6
                  have hkn : (k : Int) < (s.size : Int) + 1 := by omega
                  have HI2 := Lib.hid (HI.out.drewN nq)
                  go_wp2
                  go_roundw
                  case rel => exact ⟨k + 1, by omega, by go_num, by simpa using hwl, Lib.hid (HI2.out.store gn hbo hk _ (by rw [HR.out, HRT.out]))⟩
                  case measure => (simp [intOf]); try omega
                · obtain ⟨xv, hxv⟩ : ∃ x : Int, (s[k - 1].toNat : Int) = x := ⟨_, rfl⟩
                  obtain ⟨yv, hyv⟩ : ∃ x : Int, (p[i].toNat : Int) = x := ⟨_, rfl⟩
                  have hq : (xv == yv) = false := by rw [beq_eq_false_iff_ne]; omega
                  have HRF : Hid (r = false) := Lib.hid (by
                    cases hr : r with
                    | false => rfl
                    | true =>
                      have := (HLT2.out.1 hr).2.2
                      injection this with this
                      exact absurd (by rw [this]) heq)
                  clear heq
                  go_wp2_with fail
                  go_quiet (fail)
                  clear e1 e2 e3 e4 e6
                  go_wp2
                  go_roundw
                  case rel => exact ⟨k + 1, by omega, by go_num, hwl, Lib.hid ((HI.out.skip (by rw [HR.out, HRF.out])).drewN nq)⟩
                  case measure => (simp [intOf]); try omega
        · have hkd : decide ((k : Int) ≤ (s.size : Int)) = false := by simp; omega
          have hke : k = s.size + 1 := by omega
          have HK := Lib.hid hke
          clear hke
          go_wp2
          go_roundw
          case rel =>
            refine ⟨i + 1, wo.heap.size, by omega, by go_num, rfl, by omega, hwl, Lib.hid ⟨?_, HI.out.bel⟩⟩
            have := HI.out.next
            rw [HK.out] at this
            rwa [rowC_congr s.size (upTo (s.size + 1) (st (dl p) (dl s) (i + 1))) (st (dl p) (dl s) (i + 1)) (fun j hj => by simp [upTo]; omega)] at this
          case measure => (simp [intOf]); try omega
    · have hie : i = p.size := by omega
      have HE := Lib.hid hie
      clear hie
      have HW : Hid (∀ k, st (dl p) (dl s) i k = st (dl p) (dl s) (dl p).length k) := Lib.hid (fun k => by rw [HE.out, dl_len])
      cases wh
      · go_wp2_with fail
        go_loop [11] (fun kk => ∃ k : Nat, k ≤ s.size + 1 ∧ kk = .int .i64 k ∧ Hid (∀ j, j < k → st (dl p) (dl s) i j = false)) (fun kk => s.size + 1 - (intOf kk).toNat)
        case atStart => exact ⟨0, by omega, rfl, Lib.hid (fun j h => by omega)⟩
        case round =>
          obtain ⟨k, hk1, rfl, HJ⟩ := hrel
          by_cases hk : k ≤ s.size
          · have hkd : decide ((k : Int) ≤ (s.size : Int)) = true := by simp; omega
            have hk0 : (0 : Int) ≤ (k : Int) := by omega
            have hkn : (k : Int) < (s.size : Int) + 1 := by omega
            obtain ⟨a, hav⟩ : ∃ a, st (dl p) (dl s) i k = a := ⟨_, rfl⟩
            have ca : wo.cell? ⟨g, k, none⟩ = some (.bool a) := by rw [HO.out.at_.cell k, rowC_get _ _ k hk, hav]
            have HA := Lib.hid hav
            clear hav
            cases a
            · go_wp2
              go_round
              case rel => exact ⟨k + 1, by omega, by go_num, Lib.hid (fun j h => by
                by_cases e : j = k
                · subst e; exact HA.out
                · exact HJ.out j (by omega))⟩
              case measure => (simp [intOf]); try omega
            · have HF : Hid (b = true) := Lib.hid (by
                rw [← HB.out]
                exact (st_open _ _).2 ⟨k, by rw [dl_len]; exact hk, by rw [← HW.out, HA.out]⟩)
              go_wp2
              go_ret
              rw [HF.out]
              exact ⟨rfl, HO.out.bel⟩
          · have hkd : decide ((k : Int) ≤ (s.size : Int)) = false := by simp; omega
            have HF : Hid (b = false) := Lib.hid (by
              cases hb : b with
              | false => rfl
              | true =>
                have h1 := HB.out
                rw [hb] at h1
                obtain ⟨j, hj, h2⟩ := (st_open _ _).1 h1
                rw [← HW.out, HJ.out j (by rw [dl_len] at hj; omega)] at h2
                cases h2)
            go_wp2
            go_ret
            rw [HF.out]
            exact ⟨rfl, HO.out.bel⟩
      · have hkn : (s.size : Int) < (s.size : Int) + 1 := by omega
        have hk0 : (0 : Int) ≤ (s.size : Int) := by omega
        have HF : Hid (st (dl p) (dl s) i s.size = b) := Lib.hid (by
          rw [HW.out, ← dl_len s, st_whole]
          exact HB.out)
        have ca : wo.cell? ⟨g, s.size, none⟩ = some (.bool b) := by rw [HO.out.at_.cell s.size, rowC_get _ _ s.size (Nat.le_refl _), HF.out]
        go_wp2
        go_ret
        exact ⟨rfl, HO.out.bel⟩
end Go.Proofs.YtodlecjbpmggiaaGreatDoor
