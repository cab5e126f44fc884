/- The second and the third form: how they are read. No program here. -/
import Derived.Test.YtcbllfbhifimnaaDoorDtThird
import Derived.Test.YtcbllfbhifimnaaDoorDtSecond
namespace Go.Proofs.YtcbllfbhifimnaaDoor
open Go.RowKit
set_option linter.unusedVariables false
set_option linter.unusedSimpArgs false
set_option maxRecDepth 10000

theorem dayN_app (v : Int) (h0 : 0 ≤ v) (h : v < 7) (q : List Int) : nameS dayN 0 (dayN.getD v.toNat [] ++ q) = some (v, q) := by
  have hk : v = 0 ∨ v = 1 ∨ v = 2 ∨ v = 3 ∨ v = 4 ∨ v = 5 ∨ v = 6 := by omega
  rcases hk with rfl | rfl | rfl | rfl | rfl | rfl | rfl <;> rfl
theorem pad2_is (n : Nat) : padN 2 n = [((48 + n / 10 % 10 : Nat) : Int), ((48 + n % 10 : Nat) : Int)] := rfl
theorem spcS_day (d : Int) (h0 : 0 ≤ d) (h1 : d < 100) (q : List Int) : spcS (dayL d ++ q) = some (d, q) := by
  unfold dayL
  by_cases h : d < 10
  · rw [if_pos h, List.append_assoc, spcS_one (cutS_app [32] _), numS_pad 1 d q h0 (by omega)]
  · rw [if_neg h]
    have hc : cutS [32] (padN 2 d.toNat ++ q) = none := cutS_no (fun r e => by
      rw [pad2_is] at e
      simp only [List.cons_append, List.nil_append, List.cons.injEq] at e
      omega)
    rw [spcS_two hc, numS_pad 2 d q h0 (by omega), Option.bind_some]
    dsimp only
    rw [if_neg h]
theorem spcP_third (m : Mo) (hm : MoOk m) : spcP (thirdL m) = some m := by
  unfold spcP thirdL
  simp only [List.append_assoc]
  rw [dayH_app m.wd hm.wd.1 hm.wd.2]
  rw [Option.bind_some]
  try dsimp only
  rw [markS_app]
  rw [Option.bind_some]
  try dsimp only
  rw [monN_app m.mo hm.mo.1 hm.mo.2]
  rw [Option.bind_some]
  try dsimp only
  rw [markS_app]
  rw [Option.bind_some]
  try dsimp only
  rw [spcS_day m.d hm.d.1 hm.d.2]
  rw [Option.bind_some]
  try dsimp only
  rw [markS_app]
  rw [Option.bind_some]
  try dsimp only
  rw [clkS_app m hm.clk]
  rw [Option.bind_some]
  try dsimp only
  rw [markS_app]
  rw [Option.bind_some]
  try dsimp only
  rw [show numS 4 (padN 4 m.y.toNat) = some (m.y, []) from by have := numS_pad 4 m.y [] hm.y.1 (by have := hm.y.2; omega); rwa [List.append_nil] at this]
  rfl
theorem third_fix (m : Mo) (hm : MoOk m) : fixP (thirdL m) = none := by
  unfold fixP thirdL
  simp only [List.append_assoc]
  rw [dayH_app m.wd hm.wd.1 hm.wd.2]
  rfl
theorem third_dash (fy : Int → Int) (m : Mo) (hm : MoOk m) : dashP fy (thirdL m) = none := by
  unfold dashP thirdL
  simp only [List.append_assoc]
  have h0 := hm.wd.1
  have h1 := hm.wd.2
  obtain ⟨wd, y, mo, d, h, mi, s⟩ := m
  dsimp only at h0 h1 ⊢
  have hk : wd = 0 ∨ wd = 1 ∨ wd = 2 ∨ wd = 3 ∨ wd = 4 ∨ wd = 5 ∨ wd = 6 := by omega
  rcases hk with rfl | rfl | rfl | rfl | rfl | rfl | rfl <;> rfl
theorem dash_second (fy : Int → Int) (m : Mo) (hm : MoOk m) : dashP fy (secondL m) = some ⟨m.wd, fy (m.y % 100), m.mo, m.d, m.h, m.mi, m.s⟩ := by
  unfold dashP secondL
  simp only [List.append_assoc]
  rw [dayN_app m.wd hm.wd.1 hm.wd.2]
  rw [Option.bind_some]
  try dsimp only
  rw [markS_app]
  rw [Option.bind_some]
  try dsimp only
  rw [numS_pad 2 m.d _ hm.d.1 (by have := hm.d.2; omega)]
  rw [Option.bind_some]
  try dsimp only
  rw [markS_app]
  rw [Option.bind_some]
  try dsimp only
  rw [monN_app m.mo hm.mo.1 hm.mo.2]
  rw [Option.bind_some]
  try dsimp only
  rw [markS_app]
  rw [Option.bind_some]
  try dsimp only
  rw [numS_pad 2 (m.y % 100) _ (by omega) (by omega)]
  rw [Option.bind_some]
  try dsimp only
  rw [markS_app]
  rw [Option.bind_some]
  try dsimp only
  rw [clkS_app m hm.clk]
  rw [Option.bind_some]
  try dsimp only
  rw [show markS [32, 71, 77, 84] [32, 71, 77, 84] = some ((), []) from rfl]
  rfl
theorem second_fix (m : Mo) (hm : MoOk m) : fixP (secondL m) = none := by
  unfold fixP secondL
  simp only [List.append_assoc]
  have h0 := hm.wd.1
  have h1 := hm.wd.2
  obtain ⟨wd, y, mo, d, h, mi, s⟩ := m
  dsimp only at h0 h1 ⊢
  have hk : wd = 0 ∨ wd = 1 ∨ wd = 2 ∨ wd = 3 ∨ wd = 4 ∨ wd = 5 ∨ wd = 6 := by omega
  rcases hk with rfl | rfl | rfl | rfl | rfl | rfl | rfl <;> rfl
theorem dayN_len (v : Int) (h0 : 0 ≤ v) (h : v < 7) : 6 ≤ (dayN.getD v.toNat []).length ∧ (dayN.getD v.toNat []).length ≤ 9 ∧ Byts (dayN.getD v.toNat []) ∧ 44 ∉ dayN.getD v.toNat [] := by
  have hk : v = 0 ∨ v = 1 ∨ v = 2 ∨ v = 3 ∨ v = 4 ∨ v = 5 ∨ v = 6 := by omega
  rcases hk with rfl | rfl | rfl | rfl | rfl | rfl | rfl <;> exact ⟨by decide, by decide, by unfold Byts; decide, by decide⟩
theorem second_byts {m : Mo} (hm : MoOk m) : Byts (secondL m) := by
  unfold secondL
  have h1 := (dayN_len m.wd hm.wd.1 hm.wd.2).2.2.1
  have h2 := (monN_len m.mo hm.mo.1 hm.mo.2).2
  have e1 : Byts [44, 32] := by unfold Byts; decide
  have e2 : Byts [32] := by unfold Byts; decide
  have e3 : Byts [45] := by unfold Byts; decide
  have e4 : Byts [32, 71, 77, 84] := by unfold Byts; decide
  exact (((((((((h1.append e1).append (padN_byts 2 _)).append e3).append h2).append e3).append (padN_byts 2 _)).append e2).append (clk_byts m)).append e4)
theorem third_byts {m : Mo} (hm : MoOk m) : Byts (thirdL m) := by
  unfold thirdL
  have h1 := (dayH_len m.wd hm.wd.1 hm.wd.2).2
  have h2 := (monN_len m.mo hm.mo.1 hm.mo.2).2
  have e2 : Byts [32] := by unfold Byts; decide
  exact ((((((((h1.append e2).append h2).append e2).append (dayL_byts _)).append e2).append (clk_byts m)).append e2).append (padN_byts 4 _))
theorem second_len {m : Mo} (hm : MoOk m) : (secondL m).length = (dayN.getD m.wd.toNat []).length + 24 := by
  unfold secondL clkL
  simp only [List.length_append, padN_len, (monN_len m.mo hm.mo.1 hm.mo.2).1, List.length_cons, List.length_nil]
theorem third_len {m : Mo} (hm : MoOk m) : (thirdL m).length = 24 := by
  unfold thirdL clkL
  simp only [List.length_append, padN_len, dayL_len, (dayH_len m.wd hm.wd.1 hm.wd.2).1, (monN_len m.mo hm.mo.1 hm.mo.2).1, List.length_cons, List.length_nil]
theorem par_third {m : Mo} (hm : MoOk m) (Y : Int) : parI Y (thirdL m) = secI m := parI_spc (third_fix m hm) (third_dash _ m hm) (spcP_third m hm)
theorem par_second {m : Mo} (hm : MoOk m) (Y : Int) : parI Y (secondL m) = secI ⟨m.wd, fyI Y (m.y % 100), m.mo, m.d, m.h, m.mi, m.s⟩ := parI_dash (second_fix m hm) (dash_second _ m hm)
end Go.Proofs.YtcbllfbhifimnaaDoor
