/- A fixed fact of the layer's laws; a time written is read again. -/
import Derived.Test.YtcbllfbhifimnaaDoorDtInv
namespace Go.Proofs.YtcbllfbhifimnaaDoor
open Go.RowKit
set_option linter.unusedVariables false
set_option linter.unusedSimpArgs false
set_option maxRecDepth 10000

theorem dayH_len (v : Int) (h0 : 0 ≤ v) (h : v < 7) : (dayH.getD v.toNat []).length = 3 ∧ Byts (dayH.getD v.toNat []) := by
  have hk : v = 0 ∨ v = 1 ∨ v = 2 ∨ v = 3 ∨ v = 4 ∨ v = 5 ∨ v = 6 := by omega
  rcases hk with rfl | rfl | rfl | rfl | rfl | rfl | rfl <;> exact ⟨rfl, by unfold Byts; decide⟩
theorem monN_len (v : Int) (h0 : 1 ≤ v) (h : v < 13) : (monN.getD (v - 1).toNat []).length = 3 ∧ Byts (monN.getD (v - 1).toNat []) := by
  have hk : v = 1 ∨ v = 2 ∨ v = 3 ∨ v = 4 ∨ v = 5 ∨ v = 6 ∨ v = 7 ∨ v = 8 ∨ v = 9 ∨ v = 10 ∨ v = 11 ∨ v = 12 := by omega
  rcases hk with rfl | rfl | rfl | rfl | rfl | rfl | rfl | rfl | rfl | rfl | rfl | rfl <;> exact ⟨rfl, by unfold Byts; decide⟩
theorem first_len {m : Mo} (hm : MoOk m) : (firstL m).length = 29 := by
  unfold firstL clkL
  simp only [List.length_append, padN_len, (dayH_len m.wd hm.wd.1 hm.wd.2).1, (monN_len m.mo hm.mo.1 hm.mo.2).1, List.length_cons, List.length_nil]
theorem first_byts {m : Mo} (hm : MoOk m) : Byts (firstL m) := by
  unfold firstL clkL
  have h1 := (dayH_len m.wd hm.wd.1 hm.wd.2).2
  have h2 := (monN_len m.mo hm.mo.1 hm.mo.2).2
  have e1 : Byts [44, 32] := by unfold Byts; decide
  have e2 : Byts [32] := by unfold Byts; decide
  have e3 : Byts [58] := by unfold Byts; decide
  have e4 : Byts [32, 71, 77, 84] := by unfold Byts; decide
  exact (((((((((h1.append e1).append (padN_byts 2 _)).append e2).append h2).append e2).append (padN_byts 4 _)).append e2).append (((((padN_byts 2 _).append e3).append (padN_byts 2 _)).append e3).append (padN_byts 2 _))).append e4)
theorem moS_ok {sec y mo d : Int} (hv : Valid y mo d) : MoOk (moS sec y mo d) := by
  have b := lenI_bd y mo
  obtain ⟨h1, h2, h3, h4, h5, h6⟩ := hv
  unfold moS
  exact ⟨by dsimp only; omega, by dsimp only; omega, by dsimp only; omega, by dsimp only; omega, ⟨by dsimp only; omega, by dsimp only; omega, by dsimp only; omega⟩⟩
theorem secI_moS {sec y mo d : Int} (hv : Valid y mo d) (hn : num y mo d = sec / 86400) : secI (moS sec y mo d) = some sec := by
  unfold secI
  rw [if_pos ⟨hv, by show (num y mo d + 3) % 7 = (sec / 86400 + 3) % 7; rw [hn]⟩]
  unfold secN moS
  dsimp only
  rw [hn]
  congr 1
  omega
theorem par_first {sec y mo d Y : Int} {t : ByteArray} (hv : Valid y mo d) (hn : num y mo d = sec / 86400) (ht : strL (firstL (moS sec y mo d)) = t) : parI Y (btL t) = some sec ∧ t.size = 29 := by
  have hm : MoOk (moS sec y mo d) := moS_ok hv
  constructor
  · rw [← ht, btL_strL (first_byts hm), parI_fix (fixP_first _ hm), secI_moS hv hn]
  · rw [← ht, strL_size, first_len hm]
/-- A text whose reading is known, whenever now is. -/
theorem parse_as (s : ByteArray) (now : Int) (v : Option Int) (n0 : -9223372036854775808 ≤ now) (n1 : now ≤ 9223372036854775807) (hv : ∀ Y, YearIs (nowD now) Y → parI Y (btL s) = v) (w : World) (hT : TabT w) :
    Calls Tryd.prog 9 #[.string s, .int .i64 now] w (OptP v w) := by
  obtain ⟨Y, hY⟩ := YearIs.some_ (nowD now) (nowD_bd now).1 (nowD_bd now).2
  have := parse_at s now Y hY n0 n1 w hT.d
  rw [hv Y hY] at this
  exact this
theorem v_94 : Valid 1994 11 6 := by unfold Valid; rw [lenI_30 _ _ (by omega)]; omega
theorem n_94 : num 1994 11 6 = 9075 := by decide
theorem sec_94 : secI ⟨6, 1994, 11, 6, 8, 49, 37⟩ = some 784111777 := by
  unfold secI
  rw [if_pos ⟨v_94, by rw [n_94]; decide⟩]
  unfold secN
  rw [n_94]
  decide
theorem v_95 : Valid 1995 5 9 := by unfold Valid; rw [lenI_31 _ _ (by omega)]; omega
theorem y_95 : YearIs (nowD 800000000) 1995 := ⟨5, 9, v_95, by decide⟩
theorem aw_a (Y : Int) : parI Y (btL ⟨#[83, 117, 110, 44, 32, 48, 54, 32, 78, 111, 118, 32, 49, 57, 57, 52, 32, 48, 56, 58, 52, 57, 58, 51, 55, 32, 71, 77, 84]⟩) = some 784111777 := by rw [parI_fix (m := ⟨6, 1994, 11, 6, 8, 49, 37⟩) rfl, sec_94]
theorem aw_b : parI 1995 (btL ⟨#[83, 117, 110, 100, 97, 121, 44, 32, 48, 54, 45, 78, 111, 118, 45, 57, 52, 32, 48, 56, 58, 52, 57, 58, 51, 55, 32, 71, 77, 84]⟩) = some 784111777 := by rw [parI_dash (m := ⟨6, fyI 1995 94, 11, 6, 8, 49, 37⟩) rfl rfl, show fyI 1995 94 = 1994 from by decide, sec_94]
theorem aw_c (Y : Int) : parI Y (btL ⟨#[83, 117, 110, 32, 78, 111, 118, 32, 32, 54, 32, 48, 56, 58, 52, 57, 58, 51, 55, 32, 49, 57, 57, 52]⟩) = some 784111777 := by rw [parI_spc (m := ⟨6, 1994, 11, 6, 8, 49, 37⟩) rfl rfl rfl, sec_94]
theorem aw_f : strL (firstL (moS 784111777 1994 11 6)) = ⟨#[83, 117, 110, 44, 32, 48, 54, 32, 78, 111, 118, 32, 49, 57, 57, 52, 32, 48, 56, 58, 52, 57, 58, 51, 55, 32, 71, 77, 84]⟩ := by decide
end Go.Proofs.YtcbllfbhifimnaaDoor
