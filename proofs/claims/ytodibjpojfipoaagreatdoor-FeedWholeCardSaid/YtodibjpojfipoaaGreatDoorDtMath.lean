/- Package date: how a text is taken apart from its beginning. No program here. -/
import Derived.Test.YtodibjpojfipoaaGreatDoorFrMath
import Derived.Lib.Strings
namespace Go.Proofs.YtodibjpojfipoaaGreatDoor
open Go.RowKit
set_option linter.unusedVariables false
set_option linter.unusedSimpArgs false

/-- What is behind a text that is next. -/
def cutS (t l : List Int) : Option (List Int) := if t.isPrefixOf l = true then some (l.drop t.length) else none
theorem cutS_some {t l q : List Int} (h : cutS t l = some q) : l = t ++ q := by
  unfold cutS at h
  split at h
  · rename_i hp
    injection h with h
    obtain ⟨r, hr⟩ := List.isPrefixOf_iff_prefix.1 hp
    rw [← hr, List.drop_left] at h
    rw [← hr, h]
  · cases h
theorem cutS_app (t q : List Int) : cutS t (t ++ q) = some q := by
  unfold cutS
  rw [if_pos (List.isPrefixOf_iff_prefix.2 ⟨q, rfl⟩), List.drop_left]
theorem cutS_no {t l : List Int} (h : ∀ q, l ≠ t ++ q) : cutS t l = none := by
  cases hc : cutS t l with
  | none => rfl
  | some q => exact absurd (cutS_some hc) (h q)
def markS (t l : List Int) : Option (Unit × List Int) := (cutS t l).map fun q => ((), q)
/-- Digits. -/
def digS : Int → List Int → Option Int
  | n, [] => some n
  | n, c :: t => if 48 ≤ c ∧ c ≤ 57 then digS (10 * n + (c - 48)) t else none
def numS (k : Nat) (l : List Int) : Option (Int × List Int) := if l.length < k then none else (digS 0 (l.take k)).map fun n => (n, l.drop k)
def spcS (l : List Int) : Option (Int × List Int) := match cutS [32] l with
  | some q => numS 1 q
  | none => (numS 2 l).bind fun r => if r.1 < 10 then none else some r
def nameS : List (List Int) → Int → List Int → Option (Int × List Int)
  | [], _, _ => none
  | n :: ns, i, l => match cutS n l with
    | some q => some (i, q)
    | none => nameS ns (i + 1) l
def clkS (l : List Int) : Option ((Int × Int × Int) × List Int) :=
  (numS 2 l).bind fun a => (markS [58] a.2).bind fun b => (numS 2 b.2).bind fun c => (markS [58] c.2).bind fun d => (numS 2 d.2).bind fun e =>
    if 23 < a.1 ∨ 59 < c.1 ∨ 59 < e.1 then none else some ((a.1, c.1, e.1), e.2)
def ivD (l : List UInt8) : List Int := l.map fun c => (c.toNat : Int)
theorem ivD_bt (s : ByteArray) : btL s = ivD s.data.toList := rfl
theorem hasPrefix_iv : ∀ (p s : List UInt8), Lib.hasPrefix s p = (ivD p).isPrefixOf (ivD s)
  | [], s => rfl
  | a :: p, [] => rfl
  | a :: p, b :: s => by
    have ih := hasPrefix_iv p s
    show (a == b && Lib.hasPrefix s p) = (((a.toNat : Nat) : Int) == ((b.toNat : Nat) : Int) && (ivD p).isPrefixOf (ivD s))
    rw [ih]
    congr 1
    rw [Bool.eq_iff_iff, beq_iff_eq, beq_iff_eq]
    constructor
    · intro h; rw [h]
    · intro h; exact UInt8.toNat_inj.1 (by omega)
theorem cut_prefix (s p : List UInt8) : (Lib.hasPrefix s p = true → cutS (ivD p) (ivD s) = some (ivD (Lib.trimPrefix s p))) ∧ (Lib.hasPrefix s p = false → cutS (ivD p) (ivD s) = none ∧ Lib.trimPrefix s p = s) := by
  constructor
  · intro h
    unfold cutS Lib.trimPrefix
    rw [if_pos (by rw [← hasPrefix_iv]; exact h), if_pos h]
    simp [ivD, List.map_drop]
  · intro h
    unfold cutS Lib.trimPrefix
    rw [if_neg (by rw [← hasPrefix_iv, h]; decide), if_neg (by rw [h]; decide)]
    exact ⟨rfl, rfl⟩
theorem trim_len (s p : List UInt8) : (Lib.trimPrefix s p).length ≤ s.length := by
  unfold Lib.trimPrefix
  split
  · rw [List.length_drop]; omega
  · exact Nat.le_refl _
/-- One step of the reader: what is asked of value, rest and failure. -/
def StepIs {α : Type} (o : Option (α × List Int)) (v : α) (l' : List Int) (f' : Bool) : Prop := match o with
  | none => f' = true
  | some r => f' = false ∧ v = r.1 ∧ l' = r.2
theorem StepIs.of_none {α : Type} {o : Option (α × List Int)} {v : α} {l' : List Int} (h : o = none) : StepIs o v l' true := by subst h; rfl
theorem StepIs.of_some {α : Type} {o : Option (α × List Int)} {v : α} {l' : List Int} (h : o = some (v, l')) : StepIs o v l' false := by subst h; exact ⟨rfl, rfl, rfl⟩
/-- What the whole text says, told by what is left of it, if nothing failed so far. -/
theorem cont_step {α γ : Type} {o : Option γ} {f f' : Bool} {step : Option (α × List Int)} {K : α × List Int → Option γ} {v : α} {l' : List Int}
    (h : o = if f then none else step.bind K) (h1 : f = true → f' = true) (h2 : f = false → StepIs step v l' f') : o = if f' then none else K (v, l') := by
  cases f with
  | true => rw [h1 rfl]; exact h
  | false =>
    have := h2 rfl
    unfold StepIs at this
    subst h
    cases step with
    | none => rw [this]; rfl
    | some r =>
      obtain ⟨a, b, c⟩ := this
      rw [a, b, c]
      rfl
theorem digS_end (n : Int) : digS n [] = some n := rfl
theorem digS_yes {n c : Int} {t : List Int} (h : 48 ≤ c ∧ c ≤ 57) : digS n (c :: t) = digS (10 * n + (c - 48)) t := by conv => lhs; unfold digS; rw [if_pos h]
theorem digS_no {n c : Int} {t : List Int} (h : ¬ (48 ≤ c ∧ c ≤ 57)) : digS n (c :: t) = none := by unfold digS; rw [if_neg h]
theorem nameS_hit {n : List Int} {ns : List (List Int)} {i : Int} {l q : List Int} (h : cutS n l = some q) : nameS (n :: ns) i l = some (i, q) := by unfold nameS; rw [h]
theorem nameS_miss {n : List Int} {ns : List (List Int)} {i : Int} {l : List Int} (h : cutS n l = none) : nameS (n :: ns) i l = nameS ns (i + 1) l := by conv => lhs; unfold nameS; rw [h]
theorem spcS_one {l q : List Int} (h : cutS [32] l = some q) : spcS l = numS 1 q := by unfold spcS; rw [h]
theorem spcS_two {l : List Int} (h : cutS [32] l = none) : spcS l = (numS 2 l).bind fun r => if r.1 < 10 then none else some r := by unfold spcS; rw [h]
/-- The names. -/
def dayN : List (List Int) := [[77, 111, 110, 100, 97, 121], [84, 117, 101, 115, 100, 97, 121], [87, 101, 100, 110, 101, 115, 100, 97, 121], [84, 104, 117, 114, 115, 100, 97, 121], [70, 114, 105, 100, 97, 121], [83, 97, 116, 117, 114, 100, 97, 121], [83, 117, 110, 100, 97, 121]]
def dayH : List (List Int) := [[77, 111, 110], [84, 117, 101], [87, 101, 100], [84, 104, 117], [70, 114, 105], [83, 97, 116], [83, 117, 110]]
def monN : List (List Int) := [[74, 97, 110], [70, 101, 98], [77, 97, 114], [65, 112, 114], [77, 97, 121], [74, 117, 110], [74, 117, 108], [65, 117, 103], [83, 101, 112], [79, 99, 116], [78, 111, 118], [68, 101, 99]]
/-- A moment in its parts. -/
structure Mo where
  wd : Int
  y : Int
  mo : Int
  d : Int
  h : Int
  mi : Int
  s : Int
def doneS {α : Type} (m : α) (l : List Int) : Option α := if l = [] then some m else none
def fixP (l : List Int) : Option Mo :=
  (nameS dayH 0 l).bind fun a => (markS [44, 32] a.2).bind fun b => (numS 2 b.2).bind fun c => (markS [32] c.2).bind fun d => (nameS monN 1 d.2).bind fun e => (markS [32] e.2).bind fun f =>
  (numS 4 f.2).bind fun g => (markS [32] g.2).bind fun h => (clkS h.2).bind fun i => (markS [32, 71, 77, 84] i.2).bind fun j => doneS ⟨a.1, g.1, e.1, c.1, i.1.1, i.1.2.1, i.1.2.2⟩ j.2
def dashP (fy : Int → Int) (l : List Int) : Option Mo :=
  (nameS dayN 0 l).bind fun a => (markS [44, 32] a.2).bind fun b => (numS 2 b.2).bind fun c => (markS [45] c.2).bind fun d => (nameS monN 1 d.2).bind fun e => (markS [45] e.2).bind fun f =>
  (numS 2 f.2).bind fun g => (markS [32] g.2).bind fun h => (clkS h.2).bind fun i => (markS [32, 71, 77, 84] i.2).bind fun j => doneS ⟨a.1, fy g.1, e.1, c.1, i.1.1, i.1.2.1, i.1.2.2⟩ j.2
def spcP (l : List Int) : Option Mo :=
  (nameS dayH 0 l).bind fun a => (markS [32] a.2).bind fun b => (nameS monN 1 b.2).bind fun c => (markS [32] c.2).bind fun d => (spcS d.2).bind fun e => (markS [32] e.2).bind fun f =>
  (clkS f.2).bind fun g => (markS [32] g.2).bind fun h => (numS 4 h.2).bind fun i => doneS ⟨a.1, i.1, c.1, e.1, g.1.1, g.1.2.1, g.1.2.2⟩ i.2
end Go.Proofs.YtodibjpojfipoaaGreatDoor
