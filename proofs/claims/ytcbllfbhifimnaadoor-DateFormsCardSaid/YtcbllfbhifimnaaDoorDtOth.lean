/- A text of the first form with one letter changed. No program here. -/
import Derived.Test.YtcbllfbhifimnaaDoorDtAwk
namespace Go.Proofs.YtcbllfbhifimnaaDoor
open Go.RowKit
set_option linter.unusedVariables false
set_option linter.unusedSimpArgs false
set_option maxRecDepth 10000

theorem dash_len {fy : Int → Int} {l : List Int} {m : Mo} (h : dashP fy l = some m) : 30 ≤ l.length := by
  unfold dashP at h
  rw [Option.bind_eq_some_iff] at h
  obtain ⟨⟨a, q1⟩, h1, h⟩ := h
  rw [Option.bind_eq_some_iff] at h
  obtain ⟨⟨_, q2⟩, h2, h⟩ := h
  rw [Option.bind_eq_some_iff] at h
  obtain ⟨⟨b, q3⟩, h3, h⟩ := h
  rw [Option.bind_eq_some_iff] at h
  obtain ⟨⟨_, q4⟩, h4, h⟩ := h
  rw [Option.bind_eq_some_iff] at h
  obtain ⟨⟨c, q5⟩, h5, h⟩ := h
  rw [Option.bind_eq_some_iff] at h
  obtain ⟨⟨_, q6⟩, h6, h⟩ := h
  rw [Option.bind_eq_some_iff] at h
  obtain ⟨⟨e, q7⟩, h7, h⟩ := h
  rw [Option.bind_eq_some_iff] at h
  obtain ⟨⟨_, q8⟩, h8, h⟩ := h
  rw [Option.bind_eq_some_iff] at h
  obtain ⟨⟨⟨x, y, z⟩, q9⟩, h9, h⟩ := h
  rw [Option.bind_eq_some_iff] at h
  obtain ⟨⟨_, q10⟩, h10, h⟩ := h
  dsimp only at h2 h3 h4 h5 h6 h7 h8 h9 h10 h
  obtain ⟨k, k1, _, i1⟩ := app_nameS h1
  have i2 := app_markS h2
  have i3 := (pad_numS h3).1
  have i4 := app_markS h4
  obtain ⟨j, j1, _, i5⟩ := app_nameS h5
  have i6 := app_markS h6
  have i7 := (pad_numS h7).1
  have i8 := app_markS h8
  have i9 := (app_clkS h9).2.2.2
  have i10 := app_markS h10
  have k2 : k < 7 := k1
  have j2 : j < 12 := j1
  have hk : 6 ≤ (dayN.getD k []).length := by
    have hk : k = 0 ∨ k = 1 ∨ k = 2 ∨ k = 3 ∨ k = 4 ∨ k = 5 ∨ k = 6 := by omega
    rcases hk with rfl | rfl | rfl | rfl | rfl | rfl | rfl <;> decide
  have hj : (monN.getD j []).length = 3 := by
    have hj : j = 0 ∨ j = 1 ∨ j = 2 ∨ j = 3 ∨ j = 4 ∨ j = 5 ∨ j = 6 ∨ j = 7 ∨ j = 8 ∨ j = 9 ∨ j = 10 ∨ j = 11 := by omega
    rcases hj with rfl | rfl | rfl | rfl | rfl | rfl | rfl | rfl | rfl | rfl | rfl | rfl <;> rfl
  rw [i1, i2, i3, i4, i5, i6, i7, i8, i9, i10]
  simp only [List.length_append, padN_len, List.length_cons, List.length_nil]
  omega
theorem spc_two {l q : List Int} {v : Int} (h : spcS l = some (v, q)) : ∃ p : List Int, p.length = 2 ∧ l = p ++ q := by
  cases hc : cutS [32] l with
  | some r =>
    rw [spcS_one hc] at h
    have := (pad_numS h).1
    exact ⟨[32] ++ padN 1 v.toNat, by simp [padN_len], by rw [cutS_some hc, this, List.append_assoc]⟩
  | none =>
    rw [spcS_two hc, Option.bind_eq_some_iff] at h
    obtain ⟨⟨u, r⟩, h1, h⟩ := h
    dsimp only at h
    split at h
    · cases h
    · simp only [Option.some.injEq, Prod.mk.injEq] at h
      obtain ⟨rfl, rfl⟩ := h
      exact ⟨padN 2 u.toNat, padN_len _ _, (pad_numS h1).1⟩
theorem spc_len {l : List Int} {m : Mo} (h : spcP l = some m) : l.length = 24 := by
  unfold spcP at h
  rw [Option.bind_eq_some_iff] at h
  obtain ⟨⟨a, q1⟩, h1, h⟩ := h
  rw [Option.bind_eq_some_iff] at h
  obtain ⟨⟨_, q2⟩, h2, h⟩ := h
  rw [Option.bind_eq_some_iff] at h
  obtain ⟨⟨b, q3⟩, h3, h⟩ := h
  rw [Option.bind_eq_some_iff] at h
  obtain ⟨⟨_, q4⟩, h4, h⟩ := h
  rw [Option.bind_eq_some_iff] at h
  obtain ⟨⟨c, q5⟩, h5, h⟩ := h
  rw [Option.bind_eq_some_iff] at h
  obtain ⟨⟨_, q6⟩, h6, h⟩ := h
  rw [Option.bind_eq_some_iff] at h
  obtain ⟨⟨⟨x, y, z⟩, q9⟩, h9, h⟩ := h
  rw [Option.bind_eq_some_iff] at h
  obtain ⟨⟨_, q10⟩, h10, h⟩ := h
  rw [Option.bind_eq_some_iff] at h
  obtain ⟨⟨e, q11⟩, h11, h⟩ := h
  dsimp only at h2 h3 h4 h5 h6 h9 h10 h11 h
  unfold doneS at h
  split at h
  · rename_i hq
    obtain ⟨k, k1, _, i1⟩ := app_nameS h1
    have i2 := app_markS h2
    obtain ⟨j, j1, _, i3⟩ := app_nameS h3
    have i4 := app_markS h4
    obtain ⟨p, p2, i5⟩ := spc_two h5
    have i6 := app_markS h6
    have i9 := (app_clkS h9).2.2.2
    have i10 := app_markS h10
    have i11 := (pad_numS h11).1
    have k2 : k < 7 := k1
    have j2 : j < 12 := j1
    have hk : (dayH.getD k []).length = 3 := by
      have hk : k = 0 ∨ k = 1 ∨ k = 2 ∨ k = 3 ∨ k = 4 ∨ k = 5 ∨ k = 6 := by omega
      rcases hk with rfl | rfl | rfl | rfl | rfl | rfl | rfl <;> rfl
    have hj : (monN.getD j []).length = 3 := by
      have hj : j = 0 ∨ j = 1 ∨ j = 2 ∨ j = 3 ∨ j = 4 ∨ j = 5 ∨ j = 6 ∨ j = 7 ∨ j = 8 ∨ j = 9 ∨ j = 10 ∨ j = 11 := by omega
      rcases hj with rfl | rfl | rfl | rfl | rfl | rfl | rfl | rfl | rfl | rfl | rfl | rfl <;> rfl
    rw [i1, i2, i3, i4, i5, i6, i9, i10, i11, hq]
    simp only [List.length_append, padN_len, List.length_cons, List.length_nil]
    omega
  · cases h
/-- All of a moment but the day of the week. -/
def restL (m : Mo) : List Int := padN 2 m.d.toNat ++ [32] ++ monN.getD (m.mo - 1).toNat [] ++ [32] ++ padN 4 m.y.toNat ++ [32] ++ clkL m ++ [32, 71, 77, 84]
theorem first_rest (m : Mo) : firstL m = (dayH.getD m.wd.toNat [] ++ [44, 32]) ++ restL m := by
  unfold firstL restL
  simp only [List.append_assoc]
theorem first_drop {m : Mo} (hm : MoOk m) : (firstL m).drop 5 = restL m := by
  rw [first_rest, List.drop_left' (by rw [List.length_append, (dayH_len m.wd hm.wd.1 hm.wd.2).1]; rfl)]
def onMon (m : Mo) : Mo := ⟨0, m.y, m.mo, m.d, m.h, m.mi, m.s⟩
theorem onMon_ok {m : Mo} (hm : MoOk m) : MoOk (onMon m) := ⟨by unfold onMon; dsimp only; omega, hm.y, hm.mo, hm.d, ⟨hm.clk.h, hm.clk.mi, hm.clk.s⟩⟩
theorem rest_inj {m k : Mo} (hm : MoOk m) (hk : MoOk k) (h : restL m = restL k) : onMon m = onMon k := by
  have e : firstL (onMon m) = firstL (onMon k) := by
    rw [first_rest, first_rest]
    have e1 : restL (onMon m) = restL m := rfl
    have e2 : restL (onMon k) = restL k := rfl
    rw [e1, e2, h]
    rfl
  have h1 := fixP_first _ (onMon_ok hm)
  have h2 := fixP_first _ (onMon_ok hk)
  rw [e, h2] at h1
  injection h1 with h1
  exact h1.symm
theorem sec_inj {m k : Mo} (hm : MoOk m) (hk : MoOk k) (vm : Valid m.y m.mo m.d) (vk : Valid k.y k.mo k.d) (wm : (num m.y m.mo m.d + 3) % 7 = m.wd) (wk : (num k.y k.mo k.d + 3) % 7 = k.wd) (h : secN m = secN k) : m = k := by
  have a1 := hm.clk.h
  have a2 := hm.clk.mi
  have a3 := hm.clk.s
  have b1 := hk.clk.h
  have b2 := hk.clk.mi
  have b3 := hk.clk.s
  unfold secN at h
  obtain ⟨wd, y, mo, d, hh, mi, s⟩ := m
  obtain ⟨wd', y', mo', d', hh', mi', s'⟩ := k
  dsimp only at *
  have hn : num y mo d = num y' mo' d' := by omega
  obtain ⟨rfl, rfl, rfl⟩ := num_inj _ _ _ _ _ _ vm vk hn
  have e1 : hh = hh' := by omega
  have e2 : mi = mi' := by omega
  have e3 : s = s' := by omega
  subst e1 e2 e3
  rw [← wm, ← wk]
/-- Another letter at any place: no text of a time, or of another time, and then not ahead of the sixth letter. -/
theorem other_first {m : Mo} (hm : MoOk m) (hv : Valid m.y m.mo m.d) (hw : (num m.y m.mo m.d + 3) % 7 = m.wd) (i : Nat) (c Y v : Int) (hi : i < 29) (hc : (firstL m)[i]? ≠ some c) (h : parI Y ((firstL m).set i c) = some v) : v ≠ secN m ∧ 4 < i := by
  have hl : ((firstL m).set i c).length = 29 := by rw [List.length_set, first_len hm]
  have hne : (firstL m).set i c ≠ firstL m := by
    intro e
    apply hc
    rw [← e, List.getElem?_set_self (by rw [first_len hm]; exact hi)]
  cases hf : fixP ((firstL m).set i c) with
  | some k =>
    obtain ⟨hk, he⟩ := first_fixP hf
    rw [parI_fix hf] at h
    unfold secI at h
    split at h
    · rename_i hh
      injection h with h
      have h1 : v ≠ secN m := by
        intro hvn
        have := sec_inj hm hk hv hh.1 hw hh.2 (by rw [← hvn, ← h])
        rw [← this] at he
        exact hne he
      refine ⟨h1, ?_⟩
      by_cases h4 : 4 < i
      · exact h4
      · have hd : restL m = restL k := by
          rw [← first_drop hm, ← first_drop hk, ← he, List.drop_set_of_lt (by omega)]
        have hmk := rest_inj hm hk hd
        unfold onMon at hmk
        simp only [Mo.mk.injEq] at hmk
        obtain ⟨_, e1, e2, e3, e4, e5, e6⟩ := hmk
        exfalso
        apply h1
        rw [← h]
        unfold secN
        rw [e1, e2, e3, e4, e5, e6]
    · cases h
  | none =>
    cases hg : dashP (fyI Y) ((firstL m).set i c) with
    | some k =>
      have := dash_len hg
      omega
    | none =>
      cases hs : spcP ((firstL m).set i c) with
      | some k =>
        have := spc_len hs
        omega
      | none =>
        rw [parI_none hf hg hs] at h
        cases h
end Go.Proofs.YtcbllfbhifimnaaDoor
