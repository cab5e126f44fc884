/- A fixed fact of the layer's laws; a time written is read again. -/
import Derived.Test.YtodibjpojfipoaaGreatDoorDtPrs
import Derived.Test.YtodibjpojfipoaaGreatDoorShelfR
import Derived.Lib.AppendIntMem
/- Numbers of so many digits: written. -/
namespace Go.Proofs.YtodibjpojfipoaaGreatDoor
open Go.RowKit
set_option linter.unusedVariables false
set_option linter.unusedSimpArgs false
set_option maxRecDepth 10000

/-- So many digits. -/
def padN : Nat → Nat → List Int
  | 0, _ => []
  | k + 1, n => padN k (n / 10) ++ [((48 + n % 10 : Nat) : Int)]
theorem padN_len : ∀ k n, (padN k n).length = k
  | 0, _ => rfl
  | k + 1, n => by unfold padN; simp [padN_len k]
theorem padN_zero : ∀ k, padN k 0 = List.replicate k 48
  | 0 => rfl
  | k + 1 => by
    unfold padN
    rw [Nat.zero_div, padN_zero k, List.replicate_succ']
    rfl
theorem dec_pad : ∀ (k n : Nat), n < 10 ^ (k + 1) → (Lib.decDigits n).length ≤ k + 1 ∧ List.replicate (k + 1 - (Lib.decDigits n).length) 48 ++ ivD (Lib.decDigits n) = padN (k + 1) n
  | 0, n, h => by
    have h10 : n < 10 := by simpa using h
    rw [Lib.decDigits_one h10]
    refine ⟨by simp, ?_⟩
    unfold padN padN
    simp [ivD]
    omega
  | k + 1, n, h => by
    by_cases h10 : n < 10
    · rw [Lib.decDigits_one h10]
      refine ⟨by simp, ?_⟩
      unfold padN
      rw [show n / 10 = 0 from by omega, padN_zero]
      simp [ivD]
      omega
    · have ih := dec_pad k (n / 10) (by rw [Nat.pow_succ] at h; omega)
      rw [Lib.decDigits, dif_neg h10]
      refine ⟨by simp; omega, ?_⟩
      unfold padN
      rw [← ih.2]
      simp [ivD]
      omega
/-- The package's names, and the library's table of powers. -/
structure TabT (w : World) : Prop where
  d : TabD w
  p : Lib.TabIs Tryz.prog w "internal/strconv.uint64pow10" .u64 Lib.pow10Tab
theorem TabT.later {w w' : World} (h : TabT w) (hb : Below w.heap.size w w') : TabT w' := ⟨h.d.later hb, (Lib.tabBelow_of_tabIs h.p) w' hb⟩
theorem d_grow {B : Nat} {a w : World} (h : Below B a w) (hB : B ≤ a.heap.size) (os : Array Obj) : Below B a (Go.Sort.grow w os) :=
  ⟨h.os, h.tape, h.output, by unfold Go.Sort.grow; rw [Array.size_append]; have := h.size; omega, fun k hk => by
    have := h.size
    unfold Go.Sort.grow
    rw [Array.getElem?_append_left (by omega)]
    exact h.block k hk⟩
theorem rep_list (c : Nat) : ivD (Lib.repeatL [48] c) = List.replicate c 48 := by
  induction c with
  | zero => rfl
  | succ c ih => 
    rw [List.replicate_succ, ← ih]
    rfl
end Go.Proofs.YtodibjpojfipoaaGreatDoor
/- A time written in the first form. -/
namespace Go.Proofs.YtodibjpojfipoaaGreatDoor
open Go.RowKit
set_option linter.unusedVariables false
set_option linter.unusedSimpArgs false
set_option maxRecDepth 10000

def clkL (m : Mo) : List Int := padN 2 m.h.toNat ++ [58] ++ padN 2 m.mi.toNat ++ [58] ++ padN 2 m.s.toNat
/-- The first form. -/
def firstL (m : Mo) : List Int := dayH.getD m.wd.toNat [] ++ [44, 32] ++ padN 2 m.d.toNat ++ [32] ++ monN.getD (m.mo - 1).toNat [] ++ [32] ++ padN 4 m.y.toNat ++ [32] ++ clkL m ++ [32, 71, 77, 84]
/-- The moment of some seconds, if its day is known. -/
def moS (sec y mo d : Int) : Mo := ⟨(sec / 86400 + 3) % 7, y, mo, d, sec % 86400 / 3600, sec % 86400 / 60 % 60, sec % 86400 % 60⟩
theorem btD_app (a b : ByteArray) : btL (a ++ b) = btL a ++ btL b := by simp [btL, ByteArray.data_append]
theorem padN_byts : ∀ k n, Byts (padN k n)
  | 0, _ => Byts.nil
  | k + 1, n => by unfold padN; exact (padN_byts k _).append (Byts.mk ⟨by omega, by omega⟩ Byts.nil)
theorem btD_pad (k n : Nat) : btL (strL (padN k n)) = padN k n := btL_strL (padN_byts k n)
theorem pad_size (k n : Nat) (t : ByteArray) (ht : strL (padN k n) = t) : t.size = k := by rw [← ht, strL_size, padN_len]
theorem tdm_neg (sec : Int) (h : sec < 0) : sec.tdiv 86400 = -((-sec) / 86400) ∧ sec.tmod 86400 = -((-sec) % 86400) := by
  obtain ⟨m, rfl⟩ : ∃ m, sec = -m := ⟨-sec, by omega⟩
  rw [Int.neg_tdiv, Int.neg_tmod, Int.neg_neg, Int.tdiv_eq_ediv_of_nonneg (by omega), Int.tmod_eq_emod_of_nonneg (by omega)]
  exact ⟨rfl, rfl⟩
end Go.Proofs.YtodibjpojfipoaaGreatDoor
/- The first form: what is written is read, and nothing else is. No program here. -/
namespace Go.Proofs.YtodibjpojfipoaaGreatDoor
open Go.RowKit
set_option linter.unusedVariables false
set_option linter.unusedSimpArgs false
set_option maxRecDepth 10000

theorem digS_app : ∀ (a : List Int) (n : Int) (b : List Int), digS n (a ++ b) = (digS n a).bind fun m => digS m b
  | [], n, b => rfl
  | c :: t, n, b => by
    rw [List.cons_append]
    by_cases h : 48 ≤ c ∧ c ≤ 57
    · rw [digS_yes h, digS_yes h, digS_app t]
    · rw [digS_no h, digS_no h]
      rfl
theorem digS_pad : ∀ (k n : Nat), n < 10 ^ k → digS 0 (padN k n) = some (n : Int)
  | 0, n, h => by
    have : n = 0 := by simpa using h
    subst this
    rfl
  | k + 1, n, h => by
    unfold padN
    rw [digS_app, digS_pad k (n / 10) (by rw [Nat.pow_succ] at h; omega)]
    show digS _ [_] = _
    rw [digS_yes (by omega)]
    show some _ = _
    congr 1
    omega
theorem pad_digS : ∀ (k : Nat) (l : List Int) (v : Int), l.length = k → digS 0 l = some v → l = padN k v.toNat ∧ 0 ≤ v ∧ v < 10 ^ k
  | 0, l, v, hl, h => by
    have : l = [] := List.length_eq_zero_iff.1 hl
    subst this
    injection h with h
    subst h
    exact ⟨rfl, by omega, by decide⟩
  | k + 1, l, v, hl, h => by
    have hne : l ≠ [] := by rintro rfl; simp at hl
    obtain ⟨t, c, rfl⟩ : ∃ t c, l = t ++ [c] := ⟨l.dropLast, l.getLast hne, (List.dropLast_concat_getLast hne).symm⟩
    rw [digS_app] at h
    cases hd : digS 0 t with
    | none => rw [hd] at h; cases h
    | some u =>
      rw [hd] at h
      have h2 : digS u [c] = some v := h
      by_cases hc : 48 ≤ c ∧ c ≤ 57
      · rw [digS_yes hc] at h2
        have h3 : 10 * u + (c - 48) = v := by injection h2
        have ih := pad_digS k t u (by simpa using hl) hd
        have hv : v.toNat / 10 = u.toNat ∧ v.toNat % 10 = (c - 48).toNat := by omega
        refine ⟨?_, by omega, by rw [Int.pow_succ]; omega⟩
        unfold padN
        rw [hv.1, hv.2, ← ih.1]
        congr 2
        omega
      · rw [digS_no hc] at h2
        cases h2
theorem toNat_lt (k : Nat) (v : Int) (h0 : 0 ≤ v) (h : v < 10 ^ k) : v.toNat < 10 ^ k := by
  have : ((v.toNat : Nat) : Int) < ((10 ^ k : Nat) : Int) := by rw [Int.toNat_of_nonneg h0]; push_cast; exact h
  exact Int.ofNat_lt.1 this
theorem numS_pad (k : Nat) (v : Int) (q : List Int) (h0 : 0 ≤ v) (h : v < 10 ^ k) : numS k (padN k v.toNat ++ q) = some (v, q) := by
  unfold numS
  rw [if_neg (by rw [List.length_append, padN_len]; omega), List.take_left' (padN_len k _), List.drop_left' (padN_len k _), digS_pad k _ (toNat_lt k v h0 h)]
  show some ((v.toNat : Int), q) = _
  rw [Int.toNat_of_nonneg h0]
theorem pad_numS {k : Nat} {l q : List Int} {v : Int} (h : numS k l = some (v, q)) : l = padN k v.toNat ++ q ∧ 0 ≤ v ∧ v < 10 ^ k := by
  unfold numS at h
  split at h
  · cases h
  · rename_i hl
    cases hd : digS 0 (l.take k) with
    | none => rw [hd] at h; cases h
    | some u =>
      rw [hd] at h
      simp only [Option.map_some, Option.some.injEq, Prod.mk.injEq] at h
      obtain ⟨rfl, rfl⟩ := h
      have := pad_digS k (l.take k) u (by rw [List.length_take]; omega) hd
      refine ⟨?_, this.2⟩
      rw [← this.1, List.take_append_drop]
theorem markS_app (t q : List Int) : markS t (t ++ q) = some ((), q) := by unfold markS; rw [cutS_app]; rfl
theorem app_markS {t l q : List Int} {u : Unit} (h : markS t l = some (u, q)) : l = t ++ q := by
  unfold markS at h
  cases hc : cutS t l with
  | none => rw [hc] at h; cases h
  | some r =>
    rw [hc] at h
    simp only [Option.map_some, Option.some.injEq, Prod.mk.injEq] at h
    rw [← h.2]
    exact cutS_some hc
theorem app_nameS : ∀ {ns : List (List Int)} {i : Int} {l q : List Int} {v : Int}, nameS ns i l = some (v, q) → ∃ k : Nat, k < ns.length ∧ v = i + k ∧ l = ns.getD k [] ++ q
  | [], i, l, q, v, h => by cases h
  | n :: ns, i, l, q, v, h => by
    cases hc : cutS n l with
    | some r =>
      rw [nameS_hit hc] at h
      simp only [Option.some.injEq, Prod.mk.injEq] at h
      obtain ⟨rfl, rfl⟩ := h
      exact ⟨0, by simp, by omega, cutS_some hc⟩
    | none =>
      rw [nameS_miss hc] at h
      obtain ⟨k, h1, h2, h3⟩ := app_nameS h
      refine ⟨k + 1, by simpa using h1, by omega, ?_⟩
      rw [h3]
      rfl
theorem dayH_app (v : Int) (h0 : 0 ≤ v) (h : v < 7) (q : List Int) : nameS dayH 0 (dayH.getD v.toNat [] ++ q) = some (v, q) := by
  have hk : v = 0 ∨ v = 1 ∨ v = 2 ∨ v = 3 ∨ v = 4 ∨ v = 5 ∨ v = 6 := by omega
  rcases hk with rfl | rfl | rfl | rfl | rfl | rfl | rfl <;> rfl
theorem monN_app (v : Int) (h0 : 1 ≤ v) (h : v < 13) (q : List Int) : nameS monN 1 (monN.getD (v - 1).toNat [] ++ q) = some (v, q) := by
  have hk : v = 1 ∨ v = 2 ∨ v = 3 ∨ v = 4 ∨ v = 5 ∨ v = 6 ∨ v = 7 ∨ v = 8 ∨ v = 9 ∨ v = 10 ∨ v = 11 ∨ v = 12 := by omega
  rcases hk with rfl | rfl | rfl | rfl | rfl | rfl | rfl | rfl | rfl | rfl | rfl | rfl <;> rfl
structure ClkOk (m : Mo) : Prop where
  h : 0 ≤ m.h ∧ m.h ≤ 23
  mi : 0 ≤ m.mi ∧ m.mi ≤ 59
  s : 0 ≤ m.s ∧ m.s ≤ 59
theorem clkS_app (m : Mo) (hm : ClkOk m) (q : List Int) : clkS (clkL m ++ q) = some ((m.h, m.mi, m.s), q) := by
  have h := hm.h
  have mi := hm.mi
  have s := hm.s
  unfold clkS clkL
  simp only [List.append_assoc]
  rw [numS_pad 2 m.h _ h.1 (by omega)]
  rw [Option.bind_some]
  try dsimp only
  rw [markS_app]
  rw [Option.bind_some]
  try dsimp only
  rw [numS_pad 2 m.mi _ mi.1 (by omega)]
  rw [Option.bind_some]
  try dsimp only
  rw [markS_app]
  rw [Option.bind_some]
  try dsimp only
  rw [numS_pad 2 m.s _ s.1 (by omega)]
  rw [Option.bind_some]
  rw [if_neg (by omega)]
theorem app_clkS {l q : List Int} {h mi s : Int} (x : clkS l = some ((h, mi, s), q)) : (0 ≤ h ∧ h ≤ 23) ∧ (0 ≤ mi ∧ mi ≤ 59) ∧ (0 ≤ s ∧ s ≤ 59) ∧ l = padN 2 h.toNat ++ [58] ++ padN 2 mi.toNat ++ [58] ++ padN 2 s.toNat ++ q := by
  unfold clkS at x
  rw [Option.bind_eq_some_iff] at x
  obtain ⟨⟨a, q1⟩, h1, x⟩ := x
  rw [Option.bind_eq_some_iff] at x
  obtain ⟨⟨_, q2⟩, h2, x⟩ := x
  rw [Option.bind_eq_some_iff] at x
  obtain ⟨⟨b, q3⟩, h3, x⟩ := x
  rw [Option.bind_eq_some_iff] at x
  obtain ⟨⟨_, q4⟩, h4, x⟩ := x
  rw [Option.bind_eq_some_iff] at x
  obtain ⟨⟨c, q5⟩, h5, x⟩ := x
  dsimp only at h2 h3 h4 h5 x
  split at x
  · cases x
  · rename_i hb
    simp only [Option.some.injEq, Prod.mk.injEq] at x
    obtain ⟨⟨rfl, rfl, rfl⟩, rfl⟩ := x
    have i1 := pad_numS h1
    have i2 := app_markS h2
    have i3 := pad_numS h3
    have i4 := app_markS h4
    have i5 := pad_numS h5
    refine ⟨by omega, by omega, by omega, ?_⟩
    rw [i1.1, i2, i3.1, i4, i5.1]
    simp only [List.append_assoc]
structure MoOk (m : Mo) : Prop where
  wd : 0 ≤ m.wd ∧ m.wd < 7
  y : 0 ≤ m.y ∧ m.y < 10000
  mo : 1 ≤ m.mo ∧ m.mo < 13
  d : 0 ≤ m.d ∧ m.d < 100
  clk : ClkOk m
theorem fixP_first (m : Mo) (hm : MoOk m) : fixP (firstL m) = some m := by
  unfold fixP firstL
  simp only [List.append_assoc]
  rw [dayH_app m.wd hm.wd.1 hm.wd.2]
  rw [Option.bind_some]
  try dsimp only
  rw [markS_app]
  rw [Option.bind_some]
  try dsimp only
  rw [numS_pad 2 m.d _ hm.d.1 (by have := hm.d.2; omega)]
  rw [Option.bind_some]
  try dsimp only
  rw [markS_app]
  rw [Option.bind_some]
  try dsimp only
  rw [monN_app m.mo hm.mo.1 hm.mo.2]
  rw [Option.bind_some]
  try dsimp only
  rw [markS_app]
  rw [Option.bind_some]
  try dsimp only
  rw [numS_pad 4 m.y _ hm.y.1 (by have := hm.y.2; omega)]
  rw [Option.bind_some]
  try dsimp only
  rw [markS_app]
  rw [Option.bind_some]
  try dsimp only
  rw [clkS_app m hm.clk]
  rw [Option.bind_some]
  try dsimp only
  rw [show markS [32, 71, 77, 84] [32, 71, 77, 84] = some ((), []) from rfl]
  rfl
theorem first_fixP {l : List Int} {m : Mo} (h : fixP l = some m) : MoOk m ∧ l = firstL m := by
  unfold fixP at h
  rw [Option.bind_eq_some_iff] at h
  obtain ⟨⟨a, q1⟩, h1, h⟩ := h
  rw [Option.bind_eq_some_iff] at h
  obtain ⟨⟨_, q2⟩, h2, h⟩ := h
  rw [Option.bind_eq_some_iff] at h
  obtain ⟨⟨b, q3⟩, h3, h⟩ := h
  rw [Option.bind_eq_some_iff] at h
  obtain ⟨⟨_, q4⟩, h4, h⟩ := h
  rw [Option.bind_eq_some_iff] at h
  obtain ⟨⟨c, q5⟩, h5, h⟩ := h
  rw [Option.bind_eq_some_iff] at h
  obtain ⟨⟨_, q6⟩, h6, h⟩ := h
  rw [Option.bind_eq_some_iff] at h
  obtain ⟨⟨e, q7⟩, h7, h⟩ := h
  rw [Option.bind_eq_some_iff] at h
  obtain ⟨⟨_, q8⟩, h8, h⟩ := h
  rw [Option.bind_eq_some_iff] at h
  obtain ⟨⟨⟨x, y, z⟩, q9⟩, h9, h⟩ := h
  rw [Option.bind_eq_some_iff] at h
  obtain ⟨⟨_, q10⟩, h10, h⟩ := h
  dsimp only at h2 h3 h4 h5 h6 h7 h8 h9 h10 h
  unfold doneS at h
  split at h
  · rename_i hq
    injection h with h
    subst h
    obtain ⟨k, k1, rfl, i1⟩ := app_nameS h1
    have i2 := app_markS h2
    have i3 := pad_numS h3
    have i4 := app_markS h4
    obtain ⟨j, j1, rfl, i5⟩ := app_nameS h5
    have i6 := app_markS h6
    have i7 := pad_numS h7
    have i8 := app_markS h8
    have i9 := app_clkS h9
    have i10 := app_markS h10
    have k2 : k < 7 := k1
    have j2 : j < 12 := j1
    refine ⟨⟨by dsimp only; omega, by dsimp only; omega, by dsimp only; omega, by dsimp only; omega, ⟨i9.1, i9.2.1, i9.2.2.1⟩⟩, ?_⟩
    unfold firstL clkL
    dsimp only
    rw [i1, i2, i3.1, i4, i5, i6, i7.1, i8, i9.2.2.2, i10, hq, show (0 + (k : Int)).toNat = k from by omega, show (1 + (j : Int) - 1).toNat = j from by omega]
    simp only [List.append_assoc, List.append_nil]
  · cases h
end Go.Proofs.YtodibjpojfipoaaGreatDoor
namespace Go.Proofs.YtodibjpojfipoaaGreatDoor
open Go.RowKit
set_option linter.unusedVariables false
set_option linter.unusedSimpArgs false
set_option maxRecDepth 10000

theorem dayH_len (v : Int) (h0 : 0 ≤ v) (h : v < 7) : (dayH.getD v.toNat []).length = 3 ∧ Byts (dayH.getD v.toNat []) := by
  have hk : v = 0 ∨ v = 1 ∨ v = 2 ∨ v = 3 ∨ v = 4 ∨ v = 5 ∨ v = 6 := by omega
  rcases hk with rfl | rfl | rfl | rfl | rfl | rfl | rfl <;> exact ⟨rfl, by unfold Byts; decide⟩
theorem monN_len (v : Int) (h0 : 1 ≤ v) (h : v < 13) : (monN.getD (v - 1).toNat []).length = 3 ∧ Byts (monN.getD (v - 1).toNat []) := by
  have hk : v = 1 ∨ v = 2 ∨ v = 3 ∨ v = 4 ∨ v = 5 ∨ v = 6 ∨ v = 7 ∨ v = 8 ∨ v = 9 ∨ v = 10 ∨ v = 11 ∨ v = 12 := by omega
  rcases hk with rfl | rfl | rfl | rfl | rfl | rfl | rfl | rfl | rfl | rfl | rfl | rfl <;> exact ⟨rfl, by unfold Byts; decide⟩
theorem first_len {m : Mo} (hm : MoOk m) : (firstL m).length = 29 := by
  unfold firstL clkL
  simp only [List.length_append, padN_len, (dayH_len m.wd hm.wd.1 hm.wd.2).1, (monN_len m.mo hm.mo.1 hm.mo.2).1, List.length_cons, List.length_nil]
theorem first_byts {m : Mo} (hm : MoOk m) : Byts (firstL m) := by
  unfold firstL clkL
  have h1 := (dayH_len m.wd hm.wd.1 hm.wd.2).2
  have h2 := (monN_len m.mo hm.mo.1 hm.mo.2).2
  have e1 : Byts [44, 32] := by unfold Byts; decide
  have e2 : Byts [32] := by unfold Byts; decide
  have e3 : Byts [58] := by unfold Byts; decide
  have e4 : Byts [32, 71, 77, 84] := by unfold Byts; decide
  exact (((((((((h1.append e1).append (padN_byts 2 _)).append e2).append h2).append e2).append (padN_byts 4 _)).append e2).append (((((padN_byts 2 _).append e3).append (padN_byts 2 _)).append e3).append (padN_byts 2 _))).append e4)
theorem moS_ok {sec y mo d : Int} (hv : Valid y mo d) : MoOk (moS sec y mo d) := by
  have b := lenI_bd y mo
  obtain ⟨h1, h2, h3, h4, h5, h6⟩ := hv
  unfold moS
  exact ⟨by dsimp only; omega, by dsimp only; omega, by dsimp only; omega, by dsimp only; omega, ⟨by dsimp only; omega, by dsimp only; omega, by dsimp only; omega⟩⟩
theorem secI_moS {sec y mo d : Int} (hv : Valid y mo d) (hn : num y mo d = sec / 86400) : secI (moS sec y mo d) = some sec := by
  unfold secI
  rw [if_pos ⟨hv, by show (num y mo d + 3) % 7 = (sec / 86400 + 3) % 7; rw [hn]⟩]
  unfold secN moS
  dsimp only
  rw [hn]
  congr 1
  omega
theorem par_first {sec y mo d Y : Int} {t : ByteArray} (hv : Valid y mo d) (hn : num y mo d = sec / 86400) (ht : strL (firstL (moS sec y mo d)) = t) : parI Y (btL t) = some sec ∧ t.size = 29 := by
  have hm : MoOk (moS sec y mo d) := moS_ok hv
  constructor
  · rw [← ht, btL_strL (first_byts hm), parI_fix (fixP_first _ hm), secI_moS hv hn]
  · rw [← ht, strL_size, first_len hm]
/-- A text whose reading is known, whenever now is. -/
theorem parse_as (s : ByteArray) (now : Int) (v : Option Int) (n0 : -9223372036854775808 ≤ now) (n1 : now ≤ 9223372036854775807) (hv : ∀ Y, YearIs (nowD now) Y → parI Y (btL s) = v) (w : World) (hT : TabT w) :
    Calls Tryz.prog 20 #[.string s, .int .i64 now] w (OptP v w) := by
  obtain ⟨Y, hY⟩ := YearIs.some_ (nowD now) (nowD_bd now).1 (nowD_bd now).2
  have := parse_at s now Y hY n0 n1 w hT.d
  rw [hv Y hY] at this
  exact this
theorem v_94 : Valid 1994 11 6 := by unfold Valid; rw [lenI_30 _ _ (by omega)]; omega
theorem n_94 : num 1994 11 6 = 9075 := by decide
theorem sec_94 : secI ⟨6, 1994, 11, 6, 8, 49, 37⟩ = some 784111777 := by
  unfold secI
  rw [if_pos ⟨v_94, by rw [n_94]; decide⟩]
  unfold secN
  rw [n_94]
  decide
theorem v_95 : Valid 1995 5 9 := by unfold Valid; rw [lenI_31 _ _ (by omega)]; omega
theorem y_95 : YearIs (nowD 800000000) 1995 := ⟨5, 9, v_95, by decide⟩
theorem aw_a (Y : Int) : parI Y (btL ⟨#[83, 117, 110, 44, 32, 48, 54, 32, 78, 111, 118, 32, 49, 57, 57, 52, 32, 48, 56, 58, 52, 57, 58, 51, 55, 32, 71, 77, 84]⟩) = some 784111777 := by rw [parI_fix (m := ⟨6, 1994, 11, 6, 8, 49, 37⟩) rfl, sec_94]
theorem aw_b : parI 1995 (btL ⟨#[83, 117, 110, 100, 97, 121, 44, 32, 48, 54, 45, 78, 111, 118, 45, 57, 52, 32, 48, 56, 58, 52, 57, 58, 51, 55, 32, 71, 77, 84]⟩) = some 784111777 := by rw [parI_dash (m := ⟨6, fyI 1995 94, 11, 6, 8, 49, 37⟩) rfl rfl, show fyI 1995 94 = 1994 from by decide, sec_94]
theorem aw_c (Y : Int) : parI Y (btL ⟨#[83, 117, 110, 32, 78, 111, 118, 32, 32, 54, 32, 48, 56, 58, 52, 57, 58, 51, 55, 32, 49, 57, 57, 52]⟩) = some 784111777 := by rw [parI_spc (m := ⟨6, 1994, 11, 6, 8, 49, 37⟩) rfl rfl rfl, sec_94]
theorem aw_f : strL (firstL (moS 784111777 1994 11 6)) = ⟨#[83, 117, 110, 44, 32, 48, 54, 32, 78, 111, 118, 32, 49, 57, 57, 52, 32, 48, 56, 58, 52, 57, 58, 51, 55, 32, 71, 77, 84]⟩ := by decide
end Go.Proofs.YtodibjpojfipoaaGreatDoor
