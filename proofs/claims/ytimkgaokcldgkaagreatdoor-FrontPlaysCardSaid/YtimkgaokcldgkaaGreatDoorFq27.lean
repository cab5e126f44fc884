/- Part of a chain: SrMath, SpMod, Elm, SpLg, SpLxM. -/
import Derived.Sort.Lot0
import Derived.Sort.LotA
import Derived.Test.YtimkgaokcldgkaaGreatDoorFq24
import Derived.Test.YtimkgaokcldgkaaGreatDoorFq22
import Derived.Test.YtimkgaokcldgkaaGreatDoorFq00
import Derived.Sort.KeysCollected
import Derived.Test.YtimkgaokcldgkaaGreatDoorFq05
import Derived.Test.YtimkgaokcldgkaaGreatDoorFq07
import Derived.Test.YtimkgaokcldgkaaGreatDoorFq09
import Derived.Test.YtimkgaokcldgkaaGreatDoorFq01
import Derived.Laws.CopyRow
import Derived.Test.YtimkgaokcldgkaaGreatDoorFq26
/- slices.SortStableFunc, told by arrays: blocks by insertion, then merges by rotation: what stays, and that elements may be renamed. No program here. -/
namespace Go.Proofs.YtimkgaokcldgkaaGreatDoor
open Go Go.Sort
set_option linter.unusedVariables false

section
variable {α β : Type} [Inhabited α] [Inhabited β]
/-- Where a search by halves ends. -/
def bsR (p : Nat → Bool) (i j : Nat) : Nat :=
  if i < j then (if p ((i + j) / 2) = true then bsR p ((i + j) / 2 + 1) j else bsR p i ((i + j) / 2)) else i
termination_by j - i
theorem bsR_go {p : Nat → Bool} {i j : Nat} (h : i < j) : bsR p i j = if p ((i + j) / 2) = true then bsR p ((i + j) / 2 + 1) j else bsR p i ((i + j) / 2) := by rw [bsR, if_pos h]
theorem bsR_end {p : Nat → Bool} {i j : Nat} (h : ¬ i < j) : bsR p i j = i := by rw [bsR, if_neg h]
theorem bsR_in (p : Nat → Bool) : ∀ (n i j : Nat), j - i ≤ n → i ≤ j → i ≤ bsR p i j ∧ bsR p i j ≤ j
  | 0, i, j, h, hij => by rw [bsR_end (by omega)]; omega
  | n + 1, i, j, h, hij => by
    by_cases hlt : i < j
    · rw [bsR_go hlt]
      split
      · have := bsR_in p n ((i + j) / 2 + 1) j (by omega) (by omega)
        omega
      · have := bsR_in p n i ((i + j) / 2) (by omega) (by omega)
        omega
    · rw [bsR_end hlt]; omega
def upS (d : Array α) (k e : Nat) : Array α := if k < e then upS (swp d k (k + 1)) (k + 1) e else d
termination_by e - k
theorem upS_go {d : Array α} {k e : Nat} (h : k < e) : upS d k e = upS (swp d k (k + 1)) (k + 1) e := by rw [upS, if_pos h]
theorem upS_end {d : Array α} {k e : Nat} (h : ¬ k < e) : upS d k e = d := by rw [upS, if_neg h]
def dnS (e : Nat) : Nat → Array α → Array α
  | 0, d => d
  | k + 1, d => if e < k + 1 then dnS e k (swp d (k + 1) k) else d
def swr (x y n : Nat) (d : Array α) (i : Nat) : Array α := if i < n then swr x y n (swp d (x + i) (y + i)) (i + 1) else d
termination_by n - i
theorem swr_go {x y n : Nat} {d : Array α} {i : Nat} (h : i < n) : swr x y n d i = swr x y n (swp d (x + i) (y + i)) (i + 1) := by rw [swr, if_pos h]
theorem swr_end {x y n : Nat} {d : Array α} {i : Nat} (h : ¬ i < n) : swr x y n d i = d := by rw [swr, if_neg h]
def rot (m : Nat) (d : Array α) (i j : Nat) : Array α :=
  if i = j then swr (m - i) m i d 0
  else if j < i ∧ 0 < j then rot m (swr (m - i) m j d 0) (i - j) j
  else if i < j ∧ 0 < i then rot m (swr (m - i) (m + j - i) i d 0) i (j - i)
  else d
termination_by i + j
theorem rot_eq {m : Nat} {d : Array α} {i j : Nat} (h : i = j) : rot m d i j = swr (m - i) m i d 0 := by rw [rot, if_pos h]
theorem rot_gt {m : Nat} {d : Array α} {i j : Nat} (h : j < i) (h0 : 0 < j) : rot m d i j = rot m (swr (m - i) m j d 0) (i - j) j := by rw [rot, if_neg (by omega), if_pos ⟨h, h0⟩]
theorem rot_lt {m : Nat} {d : Array α} {i j : Nat} (h : i < j) (h0 : 0 < i) : rot m d i j = rot m (swr (m - i) (m + j - i) i d 0) i (j - i) := by rw [rot, if_neg (by omega), if_neg (by omega), if_pos ⟨h, h0⟩]
section
variable (lt : α → α → Bool)
def symS (d : Array α) (a m b : Nat) : Nat := bsR (fun c => !lt d[(a + b) / 2 + m - 1 - c]! d[c]!) (if (a + b) / 2 < m then (a + b) / 2 + m - b else a) (if (a + b) / 2 < m then (a + b) / 2 else m)
def sym1 (d : Array α) (a m b : Nat) : Array α := if symS lt d a m b < m ∧ m < (a + b) / 2 + m - symS lt d a m b then rot m d (m - symS lt d a m b) ((a + b) / 2 + m - symS lt d a m b - m) else d
def sym : Nat → Array α → Nat → Nat → Nat → Array α
  | 0, d, _, _, _ => d
  | f + 1, d, a, m, b =>
    if m - a = 1 then upS d a (bsR (fun h => lt d[h]! d[a]!) m b - 1)
    else if b - m = 1 then dnS (bsR (fun h => !lt d[m]! d[h]!) a m) m d
    else
      if (a + b) / 2 < (a + b) / 2 + m - symS lt d a m b ∧ (a + b) / 2 + m - symS lt d a m b < b then
        sym f (if a < symS lt d a m b ∧ symS lt d a m b < (a + b) / 2 then sym f (sym1 lt d a m b) a (symS lt d a m b) ((a + b) / 2) else sym1 lt d a m b) ((a + b) / 2) ((a + b) / 2 + m - symS lt d a m b) b
      else (if a < symS lt d a m b ∧ symS lt d a m b < (a + b) / 2 then sym f (sym1 lt d a m b) a (symS lt d a m b) ((a + b) / 2) else sym1 lt d a m b)
def blkS (n : Nat) (d : Array α) (a : Nat) : Array α := if a + 20 ≤ n then blkS n (insertionSort lt d a (a + 20)) (a + 20) else insertionSort lt d a n
termination_by n - a
def pasS (n s : Nat) (d : Array α) (a : Nat) : Array α :=
  if a + 2 * s ≤ n ∧ 0 < s then pasS n s (sym lt n d a (a + s) (a + 2 * s)) (a + 2 * s) else if a + s < n then sym lt n d a (a + s) n else d
termination_by n - a
def outS (n : Nat) (d : Array α) (s : Nat) : Array α := if s < n ∧ 0 < s then outS n (pasS lt n s d 0) (2 * s) else d
termination_by n - s
def stabS (d : Array α) : Array α := outS lt d.size (blkS lt d.size d 0) 20
end
/-! Nothing is lost. -/
def Pm (d d' : Array α) : Prop := d'.toList.Perm d.toList
omit [Inhabited α] in
theorem Pm.refl (d : Array α) : Pm d d := List.Perm.refl _
omit [Inhabited α] in
theorem Pm.trans {a b c : Array α} (h : Pm a b) (k : Pm b c) : Pm a c := List.Perm.trans k h
omit [Inhabited α] in
theorem Pm.size {a b : Array α} (h : Pm a b) : b.size = a.size := by simpa using h.length_eq
theorem pm_swp (d : Array α) {i j : Nat} (hi : i < d.size) (hj : j < d.size) : Pm d (swp d i j) := by
  have e : swp d i j = d.swap i j hi hj := by
    unfold swp
    rw [Array.swap_def, getElem!_pos d i hi, getElem!_pos d j hj, Array.setIfInBounds_def, Array.setIfInBounds_def]
    simp [hi, hj]
  rw [e]
  exact (Array.swap_perm hi hj).toList
theorem pm_upS : ∀ (n : Nat) (d : Array α) (k e : Nat), e - k ≤ n → (k < e → e < d.size) → Pm d (upS d k e)
  | 0, d, k, e, h, _ => by rw [upS_end (by omega)]; exact Pm.refl _
  | n + 1, d, k, e, h, hb => by
    by_cases hlt : k < e
    · rw [upS_go hlt]
      have h1 := pm_swp d (i := k) (j := k + 1) (by have := hb hlt; omega) (by have := hb hlt; omega)
      exact h1.trans (pm_upS n _ _ _ (by omega) (fun _ => by rw [h1.size]; exact hb hlt))
    · rw [upS_end hlt]; exact Pm.refl _
theorem pm_dnS (e : Nat) : ∀ (k : Nat) (d : Array α), k < d.size → Pm d (dnS e k d)
  | 0, d, _ => Pm.refl _
  | k + 1, d, h => by
    unfold dnS
    split
    · have h1 := pm_swp d (i := k + 1) (j := k) h (by omega)
      exact h1.trans (pm_dnS e k _ (by rw [h1.size]; omega))
    · exact Pm.refl _
theorem pm_swr (x y n : Nat) : ∀ (c : Nat) (d : Array α) (i : Nat), n - i ≤ c → x + n ≤ d.size → y + n ≤ d.size → Pm d (swr x y n d i)
  | 0, d, i, h, _, _ => by rw [swr_end (by omega)]; exact Pm.refl _
  | c + 1, d, i, h, hx, hy => by
    by_cases hlt : i < n
    · rw [swr_go hlt]
      have h1 := pm_swp d (i := x + i) (j := y + i) (by omega) (by omega)
      exact h1.trans (pm_swr x y n c _ _ (by omega) (by rw [h1.size]; exact hx) (by rw [h1.size]; exact hy))
    · rw [swr_end hlt]; exact Pm.refl _
theorem pm_rot (m : Nat) : ∀ (c : Nat) (d : Array α) (i j : Nat), i + j ≤ c → i ≤ m → m + j ≤ d.size → Pm d (rot m d i j)
  | 0, d, i, j, h, _, _ => by
    obtain rfl : i = 0 := by omega
    obtain rfl : j = 0 := by omega
    rw [rot_eq rfl, swr_end (by omega)]
    exact Pm.refl _
  | c + 1, d, i, j, h, hi, hj => by
    by_cases h1 : i = j
    · rw [rot_eq h1]
      exact pm_swr _ _ _ _ _ _ (Nat.le_refl _) (by omega) (by omega)
    · by_cases h2 : j < i ∧ 0 < j
      · rw [rot_gt h2.1 h2.2]
        have h3 := pm_swr (m - i) m j j d 0 (by omega) (by omega) (by omega)
        exact h3.trans (pm_rot m c _ _ _ (by omega) (by omega) (by rw [h3.size]; omega))
      · by_cases h4 : i < j ∧ 0 < i
        · rw [rot_lt h4.1 h4.2]
          have h3 := pm_swr (m - i) (m + j - i) i i d 0 (by omega) (by omega) (by omega)
          exact h3.trans (pm_rot m c _ _ _ (by omega) (by omega) (by rw [h3.size]; omega))
        · rw [rot, if_neg h1, if_neg h2, if_neg h4]
          exact Pm.refl _
/-- The ends of a merge's search. -/
theorem symS_in (lt : α → α → Bool) (d : Array α) {a m b : Nat} (h1 : a < m) (h2 : m < b) : a ≤ symS lt d a m b ∧ symS lt d a m b ≤ m ∧ symS lt d a m b ≤ (a + b) / 2 ∧ (a + b) / 2 + m - symS lt d a m b ≤ b := by
  unfold symS
  split
  · have := bsR_in (fun c => !lt d[(a + b) / 2 + m - 1 - c]! d[c]!) _ ((a + b) / 2 + m - b) ((a + b) / 2) (Nat.le_refl _) (by omega)
    omega
  · have := bsR_in (fun c => !lt d[(a + b) / 2 + m - 1 - c]! d[c]!) _ a m (Nat.le_refl _) (by omega)
    omega
theorem pm_sym1 (lt : α → α → Bool) (d : Array α) {a m b : Nat} (h1 : a < m) (h2 : m < b) (h3 : b ≤ d.size) : Pm d (sym1 lt d a m b) := by
  have := symS_in lt d h1 h2
  unfold sym1
  split
  · exact pm_rot m _ d _ _ (Nat.le_refl _) (by omega) (by omega)
  · exact Pm.refl _
theorem pm_sym (lt : α → α → Bool) : ∀ (f : Nat) (d : Array α) (a m b : Nat), a < m → m < b → b ≤ d.size → Pm d (sym lt f d a m b)
  | 0, d, a, m, b, _, _, _ => Pm.refl _
  | f + 1, d, a, m, b, h1, h2, h3 => by
    unfold sym
    split
    · have := bsR_in (fun h => lt d[h]! d[a]!) _ m b (Nat.le_refl _) (by omega)
      exact pm_upS _ _ _ _ (Nat.le_refl _) (fun _ => by omega)
    · split
      · exact pm_dnS _ _ _ (by omega)
      · have hs := symS_in lt d h1 h2
        have p1 := pm_sym1 lt d h1 h2 h3
        have p2 : Pm d (if a < symS lt d a m b ∧ symS lt d a m b < (a + b) / 2 then sym lt f (sym1 lt d a m b) a (symS lt d a m b) ((a + b) / 2) else sym1 lt d a m b) := by
          split
          · rename_i hc
            exact p1.trans (pm_sym lt f _ _ _ _ hc.1 hc.2 (by rw [p1.size]; omega))
          · exact p1
        split
        · rename_i hc
          exact p2.trans (pm_sym lt f _ _ _ _ hc.1 hc.2 (by rw [p2.size]; omega))
        · exact p2
theorem pm_insI (lt : α → α → Bool) (a : Nat) : ∀ (j : Nat) (d : Array α), j < d.size → Pm d (insInner lt a j d)
  | 0, d, _ => Pm.refl _
  | j + 1, d, h => by
    unfold insInner
    split
    · have h1 := pm_swp d (i := j + 1) (j := j) h (by omega)
      exact h1.trans (pm_insI lt a j _ (by rw [h1.size]; omega))
    · exact Pm.refl _
theorem pm_insO (lt : α → α → Bool) (a b : Nat) : ∀ (n i : Nat) (d : Array α), b - i ≤ n → b ≤ d.size → Pm d (insOuter lt a b i d)
  | 0, i, d, h, _ => by rw [insOuter, if_neg (by omega)]; exact Pm.refl _
  | n + 1, i, d, h, hb => by
    rw [insOuter]
    split
    · have h1 := pm_insI lt a i d (by omega)
      exact h1.trans (pm_insO lt a b n (i + 1) _ (by omega) (by rw [h1.size]; exact hb))
    · exact Pm.refl _
theorem pm_ins (lt : α → α → Bool) (d : Array α) (a b : Nat) (hb : b ≤ d.size) : Pm d (insertionSort lt d a b) := pm_insO lt a b _ _ d (Nat.le_refl _) hb
theorem pm_blkS (lt : α → α → Bool) (n : Nat) : ∀ (c : Nat) (d : Array α) (a : Nat), n - a ≤ c → n ≤ d.size → Pm d (blkS lt n d a)
  | 0, d, a, h, hb => by rw [blkS, if_neg (by omega)]; exact pm_ins lt d a n hb
  | c + 1, d, a, h, hb => by
    rw [blkS]
    split
    · have h1 := pm_ins lt d a (a + 20) (by omega)
      exact h1.trans (pm_blkS lt n c _ _ (by omega) (by rw [h1.size]; exact hb))
    · exact pm_ins lt d a n hb
theorem pm_pasS (lt : α → α → Bool) (n s : Nat) : ∀ (c : Nat) (d : Array α) (a : Nat), n - a ≤ c → n ≤ d.size → 0 < s → Pm d (pasS lt n s d a)
  | 0, d, a, h, hb, hs => by rw [pasS, if_neg (by omega), if_neg (by omega)]; exact Pm.refl _
  | c + 1, d, a, h, hb, hs => by
    rw [pasS]
    split
    · have h1 := pm_sym lt n d a (a + s) (a + 2 * s) (by omega) (by omega) (by omega)
      exact h1.trans (pm_pasS lt n s c _ _ (by omega) (by rw [h1.size]; exact hb) hs)
    · split
      · exact pm_sym lt n d a (a + s) n (by omega) (by omega) hb
      · exact Pm.refl _
theorem pm_outS (lt : α → α → Bool) (n : Nat) : ∀ (c : Nat) (d : Array α) (s : Nat), n - s ≤ c → n ≤ d.size → Pm d (outS lt n d s)
  | 0, d, s, h, hb => by rw [outS, if_neg (by omega)]; exact Pm.refl _
  | c + 1, d, s, h, hb => by
    rw [outS]
    split
    · rename_i hc
      have h1 := pm_pasS lt n s _ d 0 (Nat.le_refl _) hb hc.2
      exact h1.trans (pm_outS lt n c _ _ (by omega) (by rw [h1.size]; exact hb))
    · exact Pm.refl _
theorem pm_stabS (lt : α → α → Bool) (d : Array α) : Pm d (stabS lt d) := by
  unfold stabS
  have h1 := pm_blkS lt d.size _ d 0 (Nat.le_refl _) (Nat.le_refl _)
  exact h1.trans (pm_outS lt d.size _ _ _ (Nat.le_refl _) (by rw [h1.size]; exact Nat.le_refl _))
/-! Elements may be renamed. -/
section
variable (f : α → β) (hf : f default = default) (lt : β → β → Bool)
include hf
theorem mp_get (d : Array α) (i : Nat) : (d.map f)[i]! = f d[i]! := by
  by_cases h : i < d.size
  · rw [getElem!_pos d i h, getElem!_pos (d.map f) i (by simpa using h), Array.getElem_map]
  · rw [getElem!_neg d i h, getElem!_neg (d.map f) i (by simpa using h), hf]
theorem mp_swp (d : Array α) (i j : Nat) : swp (d.map f) i j = (swp d i j).map f := by
  unfold swp
  rw [mp_get f hf, mp_get f hf]
  simp
theorem mp_upS : ∀ (n : Nat) (d : Array α) (k e : Nat), e - k ≤ n → upS (d.map f) k e = (upS d k e).map f
  | 0, d, k, e, h => by rw [upS_end (by omega), upS_end (by omega)]
  | n + 1, d, k, e, h => by
    by_cases hlt : k < e
    · rw [upS_go hlt, upS_go hlt, mp_swp f hf, mp_upS n _ _ _ (by omega)]
    · rw [upS_end hlt, upS_end hlt]
theorem mp_dnS (e : Nat) : ∀ (k : Nat) (d : Array α), dnS e k (d.map f) = (dnS e k d).map f
  | 0, d => rfl
  | k + 1, d => by
    unfold dnS
    split
    · rw [mp_swp f hf, mp_dnS e k]
    · rfl
theorem mp_swr (x y n : Nat) : ∀ (c : Nat) (d : Array α) (i : Nat), n - i ≤ c → swr x y n (d.map f) i = (swr x y n d i).map f
  | 0, d, i, h => by rw [swr_end (by omega), swr_end (by omega)]
  | c + 1, d, i, h => by
    by_cases hlt : i < n
    · rw [swr_go hlt, swr_go hlt, mp_swp f hf, mp_swr x y n c _ _ (by omega)]
    · rw [swr_end hlt, swr_end hlt]
theorem mp_rot (m : Nat) : ∀ (c : Nat) (d : Array α) (i j : Nat), i + j ≤ c → rot m (d.map f) i j = (rot m d i j).map f
  | 0, d, i, j, h => by
    obtain rfl : i = 0 := by omega
    obtain rfl : j = 0 := by omega
    rw [rot_eq rfl, rot_eq rfl, mp_swr f hf _ _ _ _ _ _ (Nat.le_refl _)]
  | c + 1, d, i, j, h => by
    by_cases h1 : i = j
    · rw [rot_eq h1, rot_eq h1, mp_swr f hf _ _ _ _ _ _ (Nat.le_refl _)]
    · by_cases h2 : j < i ∧ 0 < j
      · rw [rot_gt h2.1 h2.2, rot_gt h2.1 h2.2, mp_swr f hf _ _ _ _ _ _ (Nat.le_refl _), mp_rot m c _ _ _ (by omega)]
      · by_cases h4 : i < j ∧ 0 < i
        · rw [rot_lt h4.1 h4.2, rot_lt h4.1 h4.2, mp_swr f hf _ _ _ _ _ _ (Nat.le_refl _), mp_rot m c _ _ _ (by omega)]
        · rw [rot, if_neg h1, if_neg h2, if_neg h4, rot, if_neg h1, if_neg h2, if_neg h4]
theorem mp_symS (d : Array α) (a m b : Nat) : symS lt (d.map f) a m b = symS (fun x y => lt (f x) (f y)) d a m b := by
  unfold symS
  congr 1
  funext c
  rw [mp_get f hf, mp_get f hf]
theorem mp_sym1 (d : Array α) (a m b : Nat) : sym1 lt (d.map f) a m b = (sym1 (fun x y => lt (f x) (f y)) d a m b).map f := by
  unfold sym1
  rw [mp_symS f hf]
  split
  · exact mp_rot f hf m _ _ _ _ (Nat.le_refl _)
  · rfl
theorem mp_sym : ∀ (k : Nat) (d : Array α) (a m b : Nat), sym lt k (d.map f) a m b = (sym (fun x y => lt (f x) (f y)) k d a m b).map f
  | 0, d, a, m, b => rfl
  | k + 1, d, a, m, b => by
    unfold sym
    split
    · rw [show (fun h => lt (d.map f)[h]! (d.map f)[a]!) = fun h => lt (f d[h]!) (f d[a]!) from by funext h; rw [mp_get f hf, mp_get f hf]]
      exact mp_upS f hf _ _ _ _ (Nat.le_refl _)
    · split
      · rw [show (fun h => !lt (d.map f)[m]! (d.map f)[h]!) = fun h => !lt (f d[m]!) (f d[h]!) from by funext h; rw [mp_get f hf, mp_get f hf]]
        exact mp_dnS f hf _ _ _
      · rw [mp_symS f hf, mp_sym1 f hf]
        have e : (if a < symS (fun x y => lt (f x) (f y)) d a m b ∧ symS (fun x y => lt (f x) (f y)) d a m b < (a + b) / 2 then sym lt k ((sym1 (fun x y => lt (f x) (f y)) d a m b).map f) a (symS (fun x y => lt (f x) (f y)) d a m b) ((a + b) / 2) else (sym1 (fun x y => lt (f x) (f y)) d a m b).map f)
            = (if a < symS (fun x y => lt (f x) (f y)) d a m b ∧ symS (fun x y => lt (f x) (f y)) d a m b < (a + b) / 2 then sym (fun x y => lt (f x) (f y)) k (sym1 (fun x y => lt (f x) (f y)) d a m b) a (symS (fun x y => lt (f x) (f y)) d a m b) ((a + b) / 2) else sym1 (fun x y => lt (f x) (f y)) d a m b).map f := by
          split
          · exact mp_sym k _ _ _ _
          · rfl
        rw [e]
        split
        · exact mp_sym k _ _ _ _
        · rfl
theorem mp_insI (a : Nat) : ∀ (j : Nat) (d : Array α), insInner lt a j (d.map f) = (insInner (fun x y => lt (f x) (f y)) a j d).map f
  | 0, d => rfl
  | j + 1, d => by
    unfold insInner
    rw [mp_get f hf, mp_get f hf]
    split
    · rw [mp_swp f hf, mp_insI a j]
    · rfl
theorem mp_insO (a b : Nat) : ∀ (n i : Nat) (d : Array α), b - i ≤ n → insOuter lt a b i (d.map f) = (insOuter (fun x y => lt (f x) (f y)) a b i d).map f
  | 0, i, d, h => by rw [insOuter, if_neg (by omega), insOuter, if_neg (by omega)]
  | n + 1, i, d, h => by
    rw [insOuter]
    conv => rhs; rw [insOuter]
    split
    · rw [mp_insI f hf, mp_insO a b n _ _ (by omega)]
    · rfl
theorem mp_ins (d : Array α) (a b : Nat) : insertionSort lt (d.map f) a b = (insertionSort (fun x y => lt (f x) (f y)) d a b).map f := mp_insO f hf lt a b _ _ d (Nat.le_refl _)
theorem mp_blkS (n : Nat) : ∀ (c : Nat) (d : Array α) (a : Nat), n - a ≤ c → blkS lt n (d.map f) a = (blkS (fun x y => lt (f x) (f y)) n d a).map f
  | 0, d, a, h => by rw [blkS, if_neg (by omega), blkS, if_neg (by omega)]; exact mp_ins f hf lt d a n
  | c + 1, d, a, h => by
    rw [blkS]
    conv => rhs; rw [blkS]
    split
    · rw [mp_ins f hf, mp_blkS n c _ _ (by omega)]
    · exact mp_ins f hf lt d a n
theorem mp_pasS (n s : Nat) : ∀ (c : Nat) (d : Array α) (a : Nat), n - a ≤ c → pasS lt n s (d.map f) a = (pasS (fun x y => lt (f x) (f y)) n s d a).map f
  | 0, d, a, h => by
    by_cases h1 : a + 2 * s ≤ n ∧ 0 < s
    · omega
    · rw [pasS, if_neg h1, pasS, if_neg h1]
      split
      · exact mp_sym f hf lt n d _ _ _
      · rfl
  | c + 1, d, a, h => by
    rw [pasS]
    conv => rhs; rw [pasS]
    split
    · rw [mp_sym f hf, mp_pasS n s c _ _ (by omega)]
    · split
      · exact mp_sym f hf lt n d _ _ _
      · rfl
theorem mp_outS (n : Nat) : ∀ (c : Nat) (d : Array α) (s : Nat), n - s ≤ c → outS lt n (d.map f) s = (outS (fun x y => lt (f x) (f y)) n d s).map f
  | 0, d, s, h => by rw [outS, if_neg (by omega), outS, if_neg (by omega)]
  | c + 1, d, s, h => by
    rw [outS]
    conv => rhs; rw [outS]
    split
    · rw [mp_pasS f hf lt n s _ _ _ (Nat.le_refl _), mp_outS n c _ _ (by omega)]
    · rfl
theorem mp_stabS (d : Array α) : stabS lt (d.map f) = (stabS (fun x y => lt (f x) (f y)) d).map f := by
  unfold stabS
  rw [Array.size_map, mp_blkS f hf lt _ _ _ _ (Nat.le_refl _), mp_outS f hf lt _ _ _ _ (Nat.le_refl _)]
end
end
end Go.Proofs.YtimkgaokcldgkaaGreatDoor
/- Package spill, told by lists: what each function makes of a disk and an index. No program here but the types. -/
namespace Go.Proofs.YtimkgaokcldgkaaGreatDoor
open Go Go.RowKit
set_option linter.unusedVariables false
set_option linter.unusedSimpArgs false
set_option maxRecDepth 10000

/-- The records that bytes begin with. -/
def scanN : Nat → List Int → List Rc
  | 0, _ => []
  | k + 1, b => match decR b with
    | none => []
    | some (r, n) => r :: scanN k (b.drop n)
def scanL (b : List Int) : List Rc := scanN b.length b
def usedL (b : List Int) : Nat := (flatR (scanL b)).length
theorem flatR_cons (r : Rc) (t : List Rc) : flatR (r :: t) = encR r ++ flatR t := by simp [flatR]
theorem scanN_ok : ∀ (k : Nat) (b : List Int), Byts b → b.length ≤ k → Scanned b (scanN k b) (flatR (scanN k b)).length
  | 0, b, hb, hk => by
    obtain rfl : b = [] := List.eq_nil_of_length_eq_zero (by omega)
    exact ⟨by simp [scanN], rfl, by simp [scanN, flatR], by simp [scanN, flatR, decR]⟩
  | k + 1, b, hb, hk => by
    unfold scanN
    cases hd : decR b with
    | none => exact ⟨by simp, rfl, by simp [flatR], by simpa [flatR] using hd⟩
    | some p =>
      obtain ⟨r, n⟩ := p
      obtain ⟨h1, h2, h3, h4, h5, h6⟩ := enc_inv hb hd
      obtain ⟨i1, i2, i3, i4⟩ := scanN_ok k (b.drop n) (hb.drop n) (by rw [List.length_drop]; omega)
      dsimp only
      have hl : (flatR (r :: scanN k (b.drop n))).length = n + (flatR (scanN k (b.drop n))).length := by rw [flatR_cons, List.length_append, h5]
      refine ⟨fun x hx => ?_, rfl, ?_, ?_⟩
      · rcases List.mem_cons.1 hx with rfl | hx
        · exact ⟨h1, h2⟩
        · exact i1 x hx
      · rw [hl, ← List.drop_drop, flatR_cons, List.append_assoc, ← i3]
        exact h6
      · rw [hl, ← List.drop_drop]
        exact i4
theorem scan_ok {b : List Int} (hb : Byts b) : Scanned b (scanL b) (usedL b) := scanN_ok _ _ hb (Nat.le_refl _)
theorem scan_eq {b : List Int} (hb : Byts b) {rs : List Rc} {n : Nat} (h : Scanned b rs n) : rs = scanL b ∧ n = usedL b := Scanned.one h (scan_ok hb)
theorem used_le {b : List Int} (hb : Byts b) : usedL b ≤ b.length := by
  have h := (scan_ok hb).2.2.1
  have := congrArg List.length h
  rw [List.length_append] at this
  unfold usedL
  omega
/-- The index that the records of some segments give. -/
def replL (S : Sgs) (l : List Int) : Ix := l.foldl (fun x s => recsI s 0 (scanL (gD S s)) x) ix0
theorem repR_eq {S : Sgs} (hb : BytS S) {l : List Int} {x y : Ix} (h : RepR S l x y) : y = l.foldl (fun x s => recsI s 0 (scanL (gD S s)) x) x := by
  induction h with
  | nil x => rfl
  | snoc h1 h2 ih =>
    rw [List.foldl_append, ← ih, (scan_eq (hb _) h2).1]
    rfl
/-- What lies in a place. -/
def rdL (S : Sgs) (p : Pl) : Option Rc :=
  if ((gD S p.seg).length : Int) < p.off then none else match scanL (partL S p) with
  | [r] => some r
  | _ => none
theorem part_byts {S : Sgs} (hb : BytS S) (p : Pl) : Byts (partL S p) := ((hb p.seg).drop _).take _
theorem rdQ_eq {S : Sgs} (hb : BytS S) {p : Pl} {o : Option Rc} (h : RdQ S p o) : o = rdL S p := by
  unfold rdL
  rcases h with ⟨h1, rfl⟩ | ⟨h1, rs, n, h2, h3⟩
  · rw [if_pos h1]
  · rw [if_neg (by omega), ← (scan_eq (part_byts hb p) h2).1]
    rcases h3 with ⟨r, rfl, rfl⟩ | ⟨h3, rfl⟩
    · rfl
    · match rs, h3 with
      | [], _ => rfl
      | [r], h3 => exact absurd rfl h3
      | a :: b :: t, _ => rfl
/-- A disk. -/
structure Ds where
  S : Sgs
  un : Pcs
  most : Int
  beh : Int
  fal : Int
def Ds.tick (D : Ds) : Ds := { D with beh := wfH D.beh, fal := wfF D.beh D.fal }
def appD (D : Ds) (n : Int) (b : List Int) : Ds × Int :=
  if apF D.S D.most n b.length = true then (D, 5)
  else if wfB D.beh D.fal = true then (D.tick, 7)
  else (⟨pS D.S n (gD D.S n ++ b), D.un ++ [(n, b.length)], D.most, wfH D.beh, wfF D.beh D.fal⟩, 0)
def syncD (D : Ds) : Ds × Int := if wfB D.beh D.fal = true then (D.tick, 7) else (⟨D.S, [], D.most, wfH D.beh, wfF D.beh D.fal⟩, 0)
def dropD (D : Ds) (n : Int) : Ds × Int :=
  if (gS D.S n).isSome = true then (if wfB D.beh D.fal = true then (D.tick, 7) else (⟨dS D.S n, keepP n D.un, D.most, wfH D.beh, wfF D.beh D.fal⟩, 0)) else (D, 4)
def segsL (D : Ds) : List Int := D.S.map Prod.fst
def freshP (D : Ds) (n : Int) (size : Nat) : Pl × Bool := (⟨(followL (segsL D)).1, 0, size⟩, (followL (segsL D)).2 && decide ((D.S.length : Int) < n))
def lastP (D : Ds) (size : Nat) (last : Int) : Option Pl :=
  if usedL (gD D.S last) = (gD D.S last).length ∧ usedL (gD D.S last) + size ≤ 2048 then some ⟨last, (usedL (gD D.S last) : Int), size⟩ else none
/-- Where a record of some size goes. -/
def roomL (D : Ds) (n : Int) (size : Nat) : Pl × Bool :=
  if n < (D.S.length : Int) then (nowh, false) else
  match (segsL D).getLast?.bind (lastP D size) with
  | some p => (p, true)
  | none => freshP D n size
def writeD (D : Ds) (seg : Int) (b : List Int) : Ds × Int := if (appD D seg b).2 = 0 then syncD (appD D seg b).1 else appD D seg b
/-- A log: its disk, how many segments it may use, its index. -/
structure Lg where
  D : Ds
  n : Int
  x : Ix
def encO (r : Rc) : List Int := if soundR r then encR r else []
def atI (x : Ix) (id : Int) : Pl := (gA x.puts id).getD pl0
def loadL (g : Lg) (id : Int) : Option Rc := if (gA g.x.puts id).isSome = true then rdL g.D.S (atI g.x id) else none
def srtS (l : List ByteArray) : List ByteArray := ((l.map fun s => s.data.toList).mergeSort leB).map fun b => ⟨b.toArray⟩
def waitI (x : Ix) (h : ByteArray) : Wt := (gA x.waits h).getD wt0
/-- All records of the state, with their places. -/
def recP (g : Lg) (id : Int) : Option (Pl × List Int) := (loadL g id).map fun r => (atI g.x id, encO ⟨1, r.id, r.host, r.path, r.prio, r.till⟩)
def recW (x : Ix) (h : ByteArray) : Pl × List Int := ((waitI x h).at_, encO ⟨3, 0, h, ⟨#[]⟩, 0, (waitI x h).till⟩)
def recT (x : Ix) : List (Pl × List Int) := if (!(gA x.puts x.top).isSome && decide (0 < x.top)) = true then [(nowh, encO ⟨2, x.top, ⟨#[]⟩, ⟨#[]⟩, 0, 0⟩)] else []
def recsL (g : Lg) : List (Pl × List Int) := (srtI (g.x.puts.map Prod.fst)).filterMap (recP g) ++ (srtS (g.x.waits.map Prod.fst)).map (recW g.x) ++ recT g.x
instance : Inhabited Pl := ⟨pl0⟩
def cmpPl (a b : Pl) : Int := orI (cmpI a.seg b.seg) (cmpI a.off b.off)
def ltP (a b : Pl × List Int) : Bool := decide (cmpPl a.1 b.1 < 0)
def sortedL (g : Lg) : List (Pl × List Int) := (stabS ltP (recsL g).toArray).toList
def packStep (cs : List (List Int)) (b : List Int) : List (List Int) := match cs.findIdx? (fun c => decide (c.length + b.length ≤ 2048)) with
  | none => cs ++ [b]
  | some i => cs.set i (cs.getD i [] ++ b)
def packL (g : Lg) : List (List Int) := ((sortedL g).map Prod.snd).foldl packStep []
/-- New segments are written: the disk, all segments then, and the error. -/
def rewL : Ds → List Int → List (List Int) → Ds × List Int × Int
  | D, all, [] => ((syncD D).1, all, (syncD D).2)
  | D, all, c :: t => if (followL all).2 = true then (if (appD D (followL all).1 c).2 = 0 then rewL (appD D (followL all).1 c).1 (all ++ [(followL all).1]) t else ((appD D (followL all).1 c).1, all, (appD D (followL all).1 c).2)) else (D, all, 5)
def rewriteL (g : Lg) : Ds × List Int × Int := if g.n < ((packL g).length : Int) then (g.D, [], 5) else
  ((rewL g.D (segsL g.D) (packL g)).1, (rewL g.D (segsL g.D) (packL g)).2.1.drop (segsL g.D).length, (rewL g.D (segsL g.D) (packL g)).2.2)
def dropsD : Ds → List Int → Ds × Int
  | D, [] => (D, 0)
  | D, s :: t => if (dropD D s).2 = 0 then dropsD (dropD D s).1 t else dropD D s
def sameQ (a b : Option Rc) : Bool := decide ((a.getD rc0).id = (b.getD rc0).id) && (decide ((a.getD rc0).host = (b.getD rc0).host) && (decide ((a.getD rc0).path = (b.getD rc0).path) && (decide ((a.getD rc0).prio = (b.getD rc0).prio) && decide ((a.getD rc0).till = (b.getD rc0).till))))
def holdsL (g : Lg) (rest all : Ix) : Bool :=
  (srtI (g.x.puts.map Prod.fst)).all (fun id => (gA rest.puts id).isSome && sameQ (rdL g.D.S (atI rest id)) (loadL g id)) &&
  ((srtI (rest.puts.map Prod.fst)).all (fun id => (gA all.puts id).isSome) &&
  ((srtS (all.waits.map Prod.fst)).all (fun h => decide ((waitI rest h).till = (waitI all h).till)) && decide (rest.top = all.top)))
def followX (x rest : Ix) : Ix :=
  { x with
    puts := (srtI (x.puts.map Prod.fst)).foldl (fun S id => pA S id (atI rest id)) x.puts,
    waits := (srtS (x.waits.map Prod.fst)).foldl (fun S h => if (waitI rest h).till = ((gA S h).getD wt0).till then pA S h (waitI rest h) else S) x.waits }
def pruneGo : List Int → Lg → Ix → Lg × Int
  | [], g, _ => (g, 0)
  | s :: t, g, all =>
    if holdsL g (replL g.D.S ((segsL g.D).filter fun k => decide (k ≠ s))) all = true then
      (if (dropsD g.D [s]).2 = 0 then pruneGo t ⟨(dropsD g.D [s]).1, g.n, followX g.x (replL g.D.S ((segsL g.D).filter fun k => decide (k ≠ s)))⟩ (replL g.D.S ((segsL g.D).filter fun k => decide (k ≠ s)))
      else (⟨(dropsD g.D [s]).1, g.n, g.x⟩, (dropsD g.D [s]).2))
    else pruneGo t g all
def pruneL (g : Lg) : Lg × Int := if (syncD g.D).2 = 0 then pruneGo (segsL (syncD g.D).1) ⟨(syncD g.D).1, g.n, g.x⟩ (replL (syncD g.D).1.S (segsL (syncD g.D).1)) else (⟨(syncD g.D).1, g.n, g.x⟩, (syncD g.D).2)
def compactGo (g : Lg) : Lg × Int :=
  if (rewriteL g).2.2 = 0 then (⟨(dropsD (rewriteL g).1 (segsL g.D)).1, g.n, replL (rewriteL g).1.S (rewriteL g).2.1⟩, (dropsD (rewriteL g).1 (segsL g.D)).2)
  else (⟨(dropsD (rewriteL g).1 (rewriteL g).2.1).1, g.n, g.x⟩, (rewriteL g).2.2)
def compactL (g : Lg) : Lg × Int := if g.n < (g.D.S.length : Int) then (if (pruneL g).2 = 0 then compactGo (pruneL g).1 else pruneL g) else compactGo g
/-- A record is written: where, and the error. -/
def noteL (g : Lg) (r : Rc) : Lg × Pl × Int :=
  if soundR r then
    (if (roomL g.D g.n (encR r).length).2 = true then
      (⟨(writeD g.D (roomL g.D g.n (encR r).length).1.seg (encR r)).1, g.n, g.x⟩, (if (writeD g.D (roomL g.D g.n (encR r).length).1.seg (encR r)).2 = 0 then (roomL g.D g.n (encR r).length).1 else nowh), (writeD g.D (roomL g.D g.n (encR r).length).1.seg (encR r)).2)
    else ((compactL g).1, nowh, (compactL g).2))
  else (g, nowh, 2)
def topped (g : Lg) (id : Int) : Lg := ⟨g.D, g.n, { g.x with top := max g.x.top id }⟩
/-- What Put makes of a log that has a place, or has none. -/
def putAt (g : Lg) (r : Rc) (at_ : Pl) : Lg × Int :=
  if (writeD g.D at_.seg (encR r)).2 = 0 then (⟨(writeD g.D at_.seg (encR r)).1, g.n, { g.x with puts := pA g.x.puts r.id at_ }⟩, 0) else (⟨(writeD g.D at_.seg (encR r)).1, g.n, g.x⟩, (writeD g.D at_.seg (encR r)).2)
def putL (g : Lg) (r : Rc) : Lg × Int :=
  if soundR r then
    (if (roomL g.D g.n (encR r).length).2 = true then putAt (topped g r.id) r (roomL g.D g.n (encR r).length).1
    else if (compactL g).2 = 0 then
      (if (roomL (compactL g).1.D (compactL g).1.n (encR r).length).2 = true then putAt (topped (compactL g).1 r.id) r (roomL (compactL g).1.D (compactL g).1.n (encR r).length).1
      else (topped (compactL g).1 r.id, 5))
    else (topped (compactL g).1 r.id, (compactL g).2))
  else (g, 2)
def waitRc (h : ByteArray) (till : Int) : Rc := ⟨3, 0, h, ⟨#[]⟩, 0, till⟩
def waitNote (g : Lg) (h : ByteArray) (till : Int) : Lg × Pl × Int := noteL ⟨g.D, g.n, pauseI g.x h till nowh⟩ (waitRc h till)
def waitL (g : Lg) (h : ByteArray) (till : Int) : Lg × Int :=
  if soundR (waitRc h till) then
    (if newsI g.x h till = true ∧ (waitNote g h till).2.1 ≠ nowh then (⟨(waitNote g h till).1.D, (waitNote g h till).1.n, { (waitNote g h till).1.x with waits := pA (waitNote g h till).1.x.waits h ⟨till, (waitNote g h till).2.1⟩ }⟩, (waitNote g h till).2.2)
    else ((waitNote g h till).1, (waitNote g h till).2.2))
  else (g, 2)
def openL (D : Ds) (n : Int) : Lg := ⟨D, n, replL D.S (segsL D)⟩
end Go.Proofs.YtimkgaokcldgkaaGreatDoor
/- Elements of k cells in a row of one's own: loads and stores of whole elements. No program here. -/
namespace Go.Proofs.YtimkgaokcldgkaaGreatDoor
open Go Go.RowKit Go.Sort
set_option linter.unusedVariables false

theorem run_loadVar_at {P : Program} {w : World} {g o : Nat} {ty : TypeId} {cs : Array Value} {d : TypeDesc} (hc : ∀ j v, cs[j]? = some v → w.cell? ⟨g, o + j, none⟩ = some v)
    (hu : P.underlying ty = some d) (hd : (match d with | .struct _ | .array _ _ => true | _ => false) = true) (hi : (P.info? ty).map (·.size) = some cs.size) :
    (loadVar ty ⟨g, o, none⟩).run P w = .ok (.agg cs) w := by
  have hl : (loadCells ⟨g, o, none⟩ cs.toList.length).run P w = .ok cs.toList.toArray w :=
    run_loadCells_list (P := P) w ⟨g, o, none⟩ cs.toList (fun j v hv => by
      have hadd : (⟨g, o, none⟩ : Addr).add j = ⟨g, o + j, none⟩ := by unfold Addr.add; split <;> simp_all
      rw [hadd]
      exact hc j v (by simpa using hv))
  cases hq : P.info? ty with
  | none => simp [hq] at hi
  | some i =>
    have hs : i.size = cs.size := by simpa [hq] using hi
    have hagg : (isAgg ty).run P w = .ok true w := by
      unfold isAgg
      rw [Sem.run_bind, run_underlying hu w]
      cases d <;> simp_all
    simp only [Array.length_toList, Array.toArray_toList] at hl
    simp [loadVar, Sem.run_bind, hagg, sizeOf, typeInfo, hq, hs, hl]
theorem exec_load_at {P : Program} {w : World} {ev : Operand → Value} {o : Oper} {ty : TypeId} {x : Operand} {g off : Nat} {cs : Array Value} {d : TypeDesc} (ho : o.op = .load ty x) (hx : ev x = .pointer (some ⟨g, off, none⟩)) (hc : ∀ j v, cs[j]? = some v → w.cell? ⟨g, off + j, none⟩ = some v)
    (hu : P.underlying ty = some d) (hd : (match d with | .struct _ | .array _ _ => true | _ => false) = true) (hi : (P.info? ty).map (·.size) = some cs.size) :
    (execOp ev o).run P w = .ok (.value (.agg cs)) w := by
  unfold execOp
  simp only [ho, hx, Instr.loadAt, Instr.sureAddr, Sem.run_bind, Sem.run_pure, Result.andThen_ok, run_loadVar_at hc hu hd hi]
section
variable {α : Type} [Inhabited α] {enc : α → List Value} {k : Nat}
def flE (enc : α → List Value) (l : List α) : List Value := l.flatMap enc
omit [Inhabited α] in
theorem flE_at (hk : ∀ x, (enc x).length = k) {j : Nat} (hj : j < k) : ∀ {l : List α} {i : Nat} {x : α}, l[i]? = some x → (flE enc l)[i * k + j]? = (enc x)[j]?
  | [], i, x, h => by simp at h
  | q :: t, i, x, h => by
    have e : flE enc (q :: t) = enc q ++ flE enc t := by simp [flE]
    rw [e]
    cases i with
    | zero =>
      have := Option.some.inj (by simpa using h)
      subst this
      rw [Nat.zero_mul, Nat.zero_add, List.getElem?_append_left (by rw [hk]; exact hj)]
    | succ i =>
      rw [List.getElem?_append_right (by rw [hk, Nat.succ_mul]; omega), show (i + 1) * k + j - (enc q).length = i * k + j by rw [hk, Nat.succ_mul]; omega]
      exact flE_at hk hj (by simpa using h)
omit [Inhabited α] in
theorem flE_set (hk : ∀ x, (enc x).length = k) (y : α) : ∀ (l : List α) (i : Nat), i < l.length → flE enc (l.set i y) = (flE enc l).take (i * k) ++ enc y ++ (flE enc l).drop (i * k + k)
  | [], i, h => by simp at h
  | q :: t, i, h => by
    have e : ∀ (z : α) (u : List α), flE enc (z :: u) = enc z ++ flE enc u := fun z u => by simp [flE]
    cases i with
    | zero =>
      rw [List.set_cons_zero, e, e, Nat.zero_mul, List.take_zero, List.nil_append, Nat.zero_add, List.drop_append_of_le_length (by rw [hk]; exact Nat.le_refl _)]
      rw [show (enc q).drop k = [] from List.drop_of_length_le (by rw [hk]; exact Nat.le_refl _), List.nil_append]
    | succ i =>
      have h1 : (i + 1) * k = (enc q).length + i * k := by rw [hk, Nat.succ_mul]; omega
      have t1 : (enc q ++ flE enc t).take ((enc q).length + i * k) = enc q ++ (flE enc t).take (i * k) := by
        rw [List.take_append, List.take_of_length_le (Nat.le_add_right _ _)]
        congr 2
        omega
      have t2 : (enc q ++ flE enc t).drop ((enc q).length + i * k + k) = (flE enc t).drop (i * k + k) := by
        rw [List.drop_append, List.drop_of_length_le (by omega), List.nil_append]
        congr 1
        omega
      rw [List.set_cons_succ, e, e, flE_set hk y t i (by simpa using h), h1, t1, t2]
      simp
omit [Inhabited α] in
/-- What lies at an element's cells. -/
theorem own_elem {w : World} {B g n c : Nat} {E : TypeId} {l : List α} (hk : ∀ x, (enc x).length = k) (h : Own w B E k (some ⟨g, 0, none⟩) n c (flE enc l)) {i : Nat} {x : α} (hx : l[i]? = some x) (j : Nat) (v : Value) (hv : (enc x).toArray[j]? = some v) : w.cell? ⟨g, i * k + j, none⟩ = some v := by
  have hv : (enc x)[j]? = some v := by simpa using hv
  have hj : j < k := by rw [← hk x]; exact (List.getElem?_eq_some_iff.1 hv).1
  exact h.cell (by rw [flE_at hk hj hx]; exact hv)
omit [Inhabited α] in
/-- A whole element is stored. -/
theorem own_store {P : Program} {w : World} {B g n c : Nat} {E : TypeId} {l : List α} (hk : ∀ x, (enc x).length = k) (h1 : ∀ x, ∀ v ∈ enc x, v.oneCell' = true) (hsz : (P.info? E).map (·.size) = some k) (h : Own w B E k (some ⟨g, 0, none⟩) n c (flE enc l)) (hl : l.length = n) {i : Nat} (hi : i < n) (y : α) :
    ∃ w', (Instr.storeAt E (.pointer (some ⟨g, i * k, none⟩)) (.agg (enc y).toArray)).run P w = .ok () w' ∧ Own w' B E k (some ⟨g, 0, none⟩) n c (flE enc (l.set i y)) ∧ w.grownBy w' (some g) ∧ w'.heap.size = w.heap.size ∧ w'.drawn = w.drawn := by
  obtain ⟨cur, hg, hs, ht, hnc, hm, hB⟩ := h.block
  have hin : i * k + k ≤ n * k := by
    have := Nat.mul_le_mul_right k (show i + 1 ≤ n from hi)
    rwa [Nat.succ_mul] at this
  have hnu : n * k ≤ c * k := Nat.mul_le_mul_right _ hnc
  have hst := run_storeCells_at P g (i * k) E (enc y) 0 cur w hg (by rw [hs, hk]; omega) (h1 y)
  obtain ⟨inf, hq, hi2⟩ := Option.map_eq_some_iff.1 hsz
  refine ⟨w.setRow g (cur.toList.take (i * k + 0) ++ enc y ++ cur.toList.drop (i * k + 0 + (enc y).length)).toArray, ?_, ?_, ?_, by simp, rfl⟩
  · simp only [Instr.storeAt, Instr.sureAddr, Sem.run_bind, Sem.run_pure, Result.andThen]
    simp [storeVar, sizeOf, typeInfo, hq, Value.cells, hi2, hk]
    simpa [hk] using hst
  · refine Own.of_block (setRow_heap _ _ _ _ _ _ hg) ?_ ?_ hnc hm hB
    · have hcl : cur.toList.length = c * k := by rw [Array.length_toList, hs]
      simp only [List.size_toArray, List.length_append, List.length_take, List.length_drop, hcl, hk, Nat.add_zero]
      omega
    · rw [flE_set hk y l i (by omega)]
      have htk : (flE enc l).take (i * k) = cur.toList.take (i * k) := by rw [← ht, List.take_take, Nat.min_eq_left (by omega)]
      have hdr : (flE enc l).drop (i * k + k) = (cur.toList.drop (i * k + k)).take (n * k - (i * k + k)) := by rw [← ht, List.drop_take]
      have hcl : cur.toList.length = c * k := by rw [Array.length_toList, hs]
      rw [htk, hdr]
      simp only [Nat.add_zero, hk]
      have hl1 : (cur.toList.take (i * k)).length = i * k := by rw [List.length_take, hcl]; omega
      rw [List.take_append, List.take_of_length_le (by rw [List.length_append, hl1, hk]; omega), List.length_append, hl1, hk]
  · exact ⟨rfl, rfl, rfl, by simp, fun j _ hj => setRow_other w g j _ (fun e => hj (by rw [e]))⟩
omit [Inhabited α] in
theorem step_storeE {P : Program} {ops : Array Oper} {o : Oper} {act : Act} {K : Act → World → Prop} {Q : Exit → Act → World → Prop} {F : Prop} {w : World} (hgd : o.guard = none) {E : TypeId} {x y : Operand} (ho : o.op = .store E x y) {B g n c i : Nat} {l : List α} {e : α}
    (hx : act.eval x = .pointer (some ⟨g, i * k, none⟩)) (hy : act.eval y = .agg (enc e).toArray) (hk : ∀ x, (enc x).length = k) (h1 : ∀ x, ∀ v ∈ enc x, v.oneCell' = true) (hsz : (P.info? E).map (·.size) = some k) (hown : Own w B E k (some ⟨g, 0, none⟩) n c (flE enc l)) (hl : l.length = n) (hi : i < n)
    (h : ∀ w', Own w' B E k (some ⟨g, 0, none⟩) n c (flE enc (l.set i e)) → w.grownBy w' (some g) → w'.drawn = w.drawn → K (act.put o.dst undef) w') : if Region.wanted o (yielded ops act.tmps) = true then Oper.wp P o act w K Q else F := by
  have hw : Region.wanted o (yielded ops act.tmps) = true := by simp [Region.wanted, hgd]
  rw [if_pos hw]
  obtain ⟨w', hs, q1, q2, _, q3⟩ := own_store (P := P) hk h1 hsz hown hl hi e
  unfold Oper.wp execOp
  simp only [ho, hx, hy, Sem.run_bind, Sem.run_pure, hs, Result.andThen_ok]
  exact h w' q1 q2 q3
theorem swp_list (d : Array α) {i j : Nat} (hi : i < d.size) (hj : j < d.size) {x y : α} (hx : d.toList[i]? = some x) (hy : d.toList[j]? = some y) : (swp d i j).toList = (d.toList.set i y).set j x := by
  have e1 : d[i]! = x := by rw [getElem!_pos d i hi]; simpa [hi] using hx
  have e2 : d[j]! = y := by rw [getElem!_pos d j hj]; simpa [hj] using hy
  unfold swp
  rw [e1, e2]
  simp
end
end Go.Proofs.YtimkgaokcldgkaaGreatDoor
/- Package spill: a disk and a log in memory, each with the blocks that are its own. -/
namespace Go.Proofs.YtimkgaokcldgkaaGreatDoor
open Go Go.RowKit Go.Maps
set_option linter.unusedVariables false
set_option linter.unusedSimpArgs false
set_option maxRecDepth 10000

/-- What a call does to the blocks R: only they are written; they become R', of which new ones may be a part. -/
structure TurnR (R : Nat → Prop) (w : World) (R' : Nat → Prop) (w' : World) : Prop where
  only : Only R w w'
  new : ∀ k, R' k → R k ∨ w.heap.size ≤ k
theorem TurnR.later {R : Nat → Prop} {w w' : World} (h : Below w.heap.size w w') : TurnR R w R w' := ⟨Only.of_below _ h, fun k hk => Or.inl hk⟩
theorem TurnR.trans {R R1 R2 : Nat → Prop} {w w1 w2 : World} (h : TurnR R w R1 w1) (k : TurnR R1 w1 R2 w2) : TurnR R w R2 w2 :=
  ⟨h.only.trans k.only h.new, fun x hx => by
    rcases k.new x hx with h2 | h2
    · exact h.new x h2
    · exact Or.inr (Nat.le_trans h.only.size h2)⟩
theorem Only.wide {R R' : Nat → Prop} {w w' : World} (h : Only R w w') (hr : ∀ k, R k → R' k) : Only R' w w' := ⟨h.os, h.tape, h.output, h.size, fun k hk hne => h.block k hk (fun e => hne (hr k e))⟩
/-! The disk. -/
theorem sum_ge {K : List Int} {f g : Int → Nat} {n : Int} {z : Nat} (hn : n ∈ K) (h : ∀ k, f k = (if n = k then z else 0) + g k) : z + (K.map g).sum ≤ (K.map f).sum := by
  induction K with
  | nil => cases hn
  | cons k t ih =>
    rw [List.map_cons, List.map_cons, List.sum_cons, List.sum_cons, h k]
    have hm : ∀ t : List Int, (t.map g).sum ≤ (t.map f).sum := fun t => by
      induction t with
      | nil => simp
      | cons j s ih2 => rw [List.map_cons, List.map_cons, List.sum_cons, List.sum_cons, h j]; omega
    rcases List.mem_cons.1 hn with e | e
    · subst e
      rw [if_pos rfl]
      have := hm t
      omega
    · have := ih e
      omega
theorem un_count {K : List Int} : ∀ {u : Pcs}, (∀ p ∈ u, p.1 ∈ K) → (∀ p ∈ u, 0 < p.2) → u.length ≤ (K.map (loose u)).sum
  | [], _, _ => Nat.zero_le _
  | (g, z) :: t, h1, h2 => by
    have ih := un_count (u := t) (fun p hp => h1 p (List.mem_cons_of_mem _ hp)) (fun p hp => h2 p (List.mem_cons_of_mem _ hp))
    have := sum_ge (K := K) (f := loose ((g, z) :: t)) (g := loose t) (n := g) (z := z) (h1 _ List.mem_cons_self) (fun k => rfl)
    have h3 := h2 (g, z) List.mem_cons_self
    dsimp only at h3
    rw [List.length_cons]
    omega
theorem sum_le {K : List Int} {f : Int → Nat} {m : Nat} (h : ∀ k, f k ≤ m) : (K.map f).sum ≤ K.length * m := by
  induction K with
  | nil => simp
  | cons k t ih =>
    rw [List.map_cons, List.sum_cons, List.length_cons, Nat.succ_mul]
    have := h k
    omega
structure DkM (w : World) (R : Nat → Prop) (d : Nat) (D : Ds) : Prop where
  dm : ∃ bm uc V ua, Dm w 0 d bm D.S V ua uc D.un D.most D.beh D.fal ∧ ∀ k, MineD d bm D.S V ua k → R k
  lt : ∀ k, R k → k < w.heap.size
  byt : BytS D.S
  pos : ∀ p ∈ D.un, 0 < p.2
  nn : ∀ n, (gS D.S n).isSome = true → 0 ≤ n
section
variable {w : World} {R : Nat → Prop} {d : Nat} {D : Ds}
theorem DkM.keep {w' : World} (h : DkM w R d D) (hs : w.heap.size ≤ w'.heap.size) (hb : ∀ k, R k → w'.heap[k]? = w.heap[k]?) : DkM w' R d D := by
  obtain ⟨bm, uc, V, ua, hd, hm⟩ := h.dm
  refine ⟨⟨bm, uc, V, ua, ⟨(hb d (hm d (Or.inl rfl))).trans hd.box, hd.mp.blocks fun k hk => hb k (hm k (Or.inr (Or.inl hk))), hd.own.blocks fun g e => hb g (hm g (Or.inr (Or.inr e))), hd.un_ok, hd.dB, hd.behB, hd.falB, hd.mo, hd.cnt, hd.seg, hd.kw⟩, hm⟩, fun k hk => Nat.lt_of_lt_of_le (h.lt k hk) hs, h.byt, h.pos, h.nn⟩
theorem DkM.later {w' : World} (h : DkM w R d D) (hb : Below w.heap.size w w') : DkM w' R d D := h.keep hb.size fun k hk => hb.block k (h.lt k hk)
theorem DkM.only {R2 : Nat → Prop} {w' : World} (h : DkM w R d D) (ho : Only R2 w w') (ha : ∀ k, R k → ¬ R2 k) : DkM w' R d D := h.keep ho.size fun k hk => ho.block k (h.lt k hk) (ha k hk)
theorem DkM.un_few (h : DkM w R d D) : D.un.length ≤ 32768 := by
  obtain ⟨bm, uc, V, ua, hd, hm⟩ := h.dm
  have h1 := un_count (K := D.S.map Prod.fst) (u := D.un) (fun p hp => gS_keys.2 (hd.un_ok.1 p hp)) h.pos
  have h2 := sum_le (K := D.S.map Prod.fst) (f := loose D.un) (m := 2048) (fun k => Nat.le_trans (hd.un_ok.2 k) (hd.seg k))
  have h3 := hd.cnt
  rw [List.length_map] at h2
  omega
theorem DkM.cnt (h : DkM w R d D) : D.S.length ≤ 16 := by
  obtain ⟨bm, uc, V, ua, hd, hm⟩ := h.dm
  exact hd.cnt
theorem DkM.seg (h : DkM w R d D) (n : Int) : (gD D.S n).length ≤ 2048 := by
  obtain ⟨bm, uc, V, ua, hd, hm⟩ := h.dm
  exact hd.seg n
theorem DkM.kw (h : DkM w R d D) {n : Int} (hn : (gS D.S n).isSome = true) : okI n := by
  obtain ⟨bm, uc, V, ua, hd, hm⟩ := h.dm
  exact hd.kw n hn
theorem DkM.ss (h : DkM w R d D) : SS D.S := by
  obtain ⟨bm, uc, V, ua, hd, hm⟩ := h.dm
  exact hd.mp.ss
theorem DkM.segs_ok (h : DkM w R d D) : ∀ s ∈ segsL D, okI s ∧ 0 ≤ s := fun s hs => ⟨h.kw (gS_keys.1 hs), h.nn s (gS_keys.1 hs)⟩
/-- What a disk is behind a call. -/
def AftK (R : Nat → Prop) (d : Nat) (w : World) (D' : Ds) (w' : World) : Prop := ∃ R', DkM w' R' d D' ∧ TurnR R w R' w'
theorem AftK.refl {w' : World} (h : DkM w R d D) (hb : Below w.heap.size w w') : AftK R d w D w' := ⟨R, h.later hb, TurnR.later hb⟩
theorem aftK {w' : World} {bm uc : Nat} {V : VF} {ua : Option Addr} {S' : Sgs} {un' : Pcs} {most' beh' fal' : Int} (hd : Dm w 0 d bm D.S V ua uc D.un D.most D.beh D.fal) (hm : ∀ k, MineD d bm D.S V ua k → R k)
    (ha : AftD 0 d bm D.S V ua w S' un' most' beh' fal' w') (h1 : BytS S') (h2 : ∀ p ∈ un', 0 < p.2) (h3 : ∀ n, (gS S' n).isSome = true → 0 ≤ n) : AftK R d w ⟨S', un', most', beh', fal'⟩ w' := by
  obtain ⟨V', ua', uc', hd', ht⟩ := ha
  refine ⟨fun k => MineD d bm S' V' ua' k, ⟨⟨bm, uc', V', ua', hd', fun k hk => hk⟩, fun k hk => (hd'.mine hk).1, h1, h2, h3⟩, ⟨ht.1.wide hm, fun k hk => ?_⟩⟩
  rcases ht.2 k hk with h | h
  · exact Or.inl (hm k h)
  · exact Or.inr h
theorem byt_put {S : Sgs} (h : BytS S) (n : Int) {b : List Int} (hb : Byts b) : BytS (pS S n (gD S n ++ b)) := fun k => by
  rw [gD_put]
  split
  · exact (h n).append hb
  · exact h k
theorem nn_put {S : Sgs} (h : ∀ n, (gS S n).isSome = true → 0 ≤ n) {n : Int} (hn : 0 ≤ n) (b : List Int) : ∀ k, (gS (pS S n b) k).isSome = true → 0 ≤ k := fun k hk => by
  rw [gS_put] at hk
  split at hk
  · rename_i e; rw [e]; exact hn
  · exact h k hk
theorem kapp_at (h : DkM w R d D) (n : Int) (hn : 0 ≤ n) (hnw : okI n) (b : List Int) (hb : Byts b) (h0 : 0 < b.length) (m : Nat) (hm : b.length = m) (hm2 : m ≤ 100000) (ab : Option Addr) (cb : Nat) (hr : RdC w ab (u8L b)) (hnm : ∀ g off, ab = some ⟨g, off, none⟩ → ¬ R g) :
    Calls Tryz.prog 50 #[.pointer (some ⟨d, 0, none⟩), .int .i64 n, .slice ab m cb] w fun e w' => e = .returned (.int .i64 (appD D n b).2) ∧ AftK R d w (appD D n b).1 w' := by
  have hun := h.un_few
  obtain ⟨bm, uc, V, ua, hd, hmi⟩ := h.dm
  refine (app_at hd n hn hnw (by omega) b m hm hm2 ab cb hr (fun g off e _ hk => hnm g off e (hmi g hk))).mono ?_
  rintro e w' (⟨h1, rfl, hbl⟩ | ⟨h1, h2, rfl, ha⟩ | ⟨h1, h2, rfl, ha⟩)
  · rw [show appD D n b = (D, 5) by unfold appD; rw [if_pos h1]]
    exact ⟨rfl, AftK.refl h hbl⟩
  · rw [show appD D n b = (D.tick, 7) by unfold appD; rw [h1, if_neg (by decide), if_pos h2]]
    exact ⟨rfl, aftK hd hmi ha h.byt h.pos h.nn⟩
  · rw [show appD D n b = (⟨pS D.S n (gD D.S n ++ b), D.un ++ [(n, b.length)], D.most, wfH D.beh, wfF D.beh D.fal⟩, 0) by unfold appD; rw [h1, h2, if_neg (by decide), if_neg (by decide)]]
    refine ⟨rfl, aftK hd hmi ha (byt_put h.byt n hb) (fun p hp => ?_) (nn_put h.nn hn _)⟩
    rcases List.mem_append.1 hp with hp | hp
    · exact h.pos p hp
    · rw [List.mem_singleton] at hp
      rw [hp]
      exact h0
theorem ksync_at (h : DkM w R d D) :
    Calls Tryz.prog 51 #[.pointer (some ⟨d, 0, none⟩)] w fun e w' => e = .returned (.int .i64 (syncD D).2) ∧ AftK R d w (syncD D).1 w' := by
  obtain ⟨bm, uc, V, ua, hd, hmi⟩ := h.dm
  refine (sync_at hd).mono ?_
  rintro e w' ⟨rfl, ha⟩
  cases hw : wfB D.beh D.fal with
  | true =>
    rw [hw, if_pos rfl] at ha
    rw [show syncD D = (D.tick, 7) by unfold syncD; rw [if_pos hw], if_pos rfl]
    exact ⟨rfl, aftK hd hmi ha h.byt h.pos h.nn⟩
  | false =>
    rw [hw, if_neg (by decide)] at ha
    rw [show syncD D = (⟨D.S, [], D.most, wfH D.beh, wfF D.beh D.fal⟩, 0) by unfold syncD; rw [hw, if_neg (by decide)], if_neg (by decide)]
    exact ⟨rfl, aftK hd hmi ha h.byt (fun p hp => (by cases hp)) h.nn⟩
theorem kdrop_at (h : DkM w R d D) (n : Int) (hnw : okI n) :
    Calls Tryz.prog 70 #[.pointer (some ⟨d, 0, none⟩), .int .i64 n] w fun e w' => e = .returned (.int .i64 (dropD D n).2) ∧ AftK R d w (dropD D n).1 w' := by
  obtain ⟨bm, uc, V, ua, hd, hmi⟩ := h.dm
  refine (drop_at hd n hnw).mono ?_
  rintro e w' (⟨h1, rfl, hbl⟩ | ⟨h1, h2, rfl, ha⟩ | ⟨h1, h2, rfl, ha⟩)
  · rw [show dropD D n = (D, 4) by unfold dropD; rw [h1]; rfl]
    exact ⟨rfl, AftK.refl h hbl⟩
  · rw [show dropD D n = (D.tick, 7) by unfold dropD; rw [if_pos h1, if_pos h2]]
    exact ⟨rfl, aftK hd hmi ha h.byt h.pos h.nn⟩
  · rw [show dropD D n = (⟨dS D.S n, keepP n D.un, D.most, wfH D.beh, wfF D.beh D.fal⟩, 0) by unfold dropD; rw [if_pos h1, h2, if_neg (by decide)]]
    refine ⟨rfl, aftK hd hmi ha (fun k => ?_) (fun p hp => h.pos p (List.mem_filter.1 hp).1) (fun k hk => ?_)⟩
    · rw [gD_drop]
      split
      · exact fun x hx => (by cases hx)
      · exact h.byt k
    · rw [gS_drop] at hk
      split at hk
      · cases hk
      · exact h.nn k hk
theorem ksegs_at (h : DkM w R d D) (N : Nat) (hN : D.S.length = N) :
    Calls Tryz.prog 25 #[.pointer (some ⟨d, 0, none⟩)] w fun e w' => ∃ a c, e = .returned (.slice a N c) ∧ Own w' w.heap.size 3 1 a N c (inL (segsL D)) ∧ Below w.heap.size w w' := by
  obtain ⟨bm, uc, V, ua, hd, hmi⟩ := h.dm
  refine (segs_at hd N hN).mono ?_
  rintro e w' ⟨a, c, rfl, ho, hb⟩
  refine ⟨a, c, rfl, ?_, hb⟩
  unfold inL segsL
  rw [List.map_map]
  exact ho
theorem kread_at (h : DkM w R d D) (n : Int) (hn : okI n) (N : Nat) (hN : (gD D.S n).length = N) :
    Calls Tryz.prog 37 #[.pointer (some ⟨d, 0, none⟩), .int .i64 n] w fun e w' => ∃ a c k, e = .returned (.tuple #[.slice a N c, .int .i64 k]) ∧ Own w' w.heap.size 5 1 a N c (u8L (gD D.S n)) ∧ Below w.heap.size w w' := by
  obtain ⟨bm, uc, V, ua, hd, hmi⟩ := h.dm
  exact dread_at hd n hn N hN
structure PlOk (p : Pl) : Prop where
  seg : okI p.seg
  o0 : 0 ≤ p.off
  o1 : p.off ≤ 9223372036854775807
  s0 : 0 ≤ p.size
  s1 : p.size ≤ 1000000
theorem ksread_at (h : DkM w R d D) (p : Pl) (hp : PlOk p) :
    Calls Tryz.prog 75 #[.pointer (some ⟨d, 0, none⟩), plV p] w fun e w' => e = .returned (.tuple #[.agg (reqL ((rdL D.S p).getD rc0)).toArray, .bool (rdL D.S p).isSome]) ∧ Below w.heap.size w w' := by
  obtain ⟨bm, uc, V, ua, hd, hmi⟩ := h.dm
  refine (sread_at hd h.byt p hp.seg hp.o0 hp.o1 hp.s0 hp.s1).mono ?_
  rintro e w' ⟨o, rfl, ho, hb⟩
  rw [rdQ_eq h.byt ho]
  exact ⟨rfl, hb⟩
end
end Go.Proofs.YtimkgaokcldgkaaGreatDoor
/- Package spill: an index that is well made; a log in memory with its blocks; replay, Open. -/
namespace Go.Proofs.YtimkgaokcldgkaaGreatDoor
open Go Go.RowKit Go.Maps
set_option linter.unusedVariables false
set_option linter.unusedSimpArgs false
set_option maxRecDepth 10000

theorem okI_of {n : Int} (h1 : -9223372036854775808 ≤ n) (h2 : n ≤ 9223372036854775807) : okI n := by
  unfold okI
  simp [Lit.wf, IntKind.min, IntKind.max, IntKind.signed, IntKind.bits]
  omega
theorem okI_iff {n : Int} (h : okI n) : -9223372036854775808 ≤ n ∧ n ≤ 9223372036854775807 := by
  unfold okI at h
  simp [Lit.wf, IntKind.min, IntKind.max, IntKind.signed, IntKind.bits] at h
  omega
structure IxOk (x : Ix) : Prop where
  puts : ∀ id p, gA x.puts id = some p → PlOk p ∧ 0 ≤ id
  waits : ∀ h v, gA x.waits h = some v → PlOk v.at_ ∧ 0 ≤ v.till ∧ v.till ≤ 9223372036854775807 ∧ h.size ≤ 256
  top0 : 0 ≤ x.top
  top1 : x.top ≤ 9223372036854775807
theorem plOk_zero : PlOk pl0 := ⟨okI_of (by decide) (by decide), by decide, by decide, by decide, by decide⟩
theorem IxOk.zero : IxOk ix0 := ⟨fun id p h => (by simp [ix0, gA] at h), fun h v e => (by simp [ix0, gA] at e), by decide, by decide⟩
theorem IxOk.put {x : Ix} (h : IxOk x) {id : Int} {p : Pl} (hp : PlOk p) (h0 : 0 ≤ id) (h1 : id ≤ 9223372036854775807) : IxOk { x with puts := pA x.puts id p, top := max x.top id } :=
  ⟨fun k q hk => by
    have hk : gA (pA x.puts id p) k = some q := hk
    rw [gA_put] at hk
    split at hk
    · rename_i e
      rw [← Option.some.inj hk, e]
      exact ⟨hp, h0⟩
    · exact h.puts k q hk, h.waits, by have := h.top0; show 0 ≤ max _ _; omega, by have := h.top1; show max _ _ ≤ _; omega⟩
theorem IxOk.puts_ {x : Ix} (h : IxOk x) {id : Int} {p : Pl} (hp : PlOk p) (h0 : 0 ≤ id) : IxOk { x with puts := pA x.puts id p } :=
  ⟨fun k q hk => by
    have hk : gA (pA x.puts id p) k = some q := hk
    rw [gA_put] at hk
    split at hk
    · rename_i e
      rw [← Option.some.inj hk, e]
      exact ⟨hp, h0⟩
    · exact h.puts k q hk, h.waits, h.top0, h.top1⟩
theorem IxOk.topped {x : Ix} (h : IxOk x) {id : Int} (h1 : id ≤ 9223372036854775807) : IxOk { x with top := max x.top id } :=
  ⟨h.puts, h.waits, by have := h.top0; show 0 ≤ max _ _; omega, by have := h.top1; show max _ _ ≤ _; omega⟩
theorem IxOk.del {x : Ix} (h : IxOk x) (id : Int) : IxOk { x with puts := dA x.puts id } :=
  ⟨fun k q hk => by
    have hk : gA (dA x.puts id) k = some q := hk
    rw [gA_del] at hk
    split at hk
    · cases hk
    · exact h.puts k q hk, h.waits, h.top0, h.top1⟩
theorem IxOk.wait {x : Ix} (h : IxOk x) {s : ByteArray} {t : Int} {p : Pl} (hp : PlOk p) (h0 : 0 ≤ t) (h1 : t ≤ 9223372036854775807) (hs : s.size ≤ 256) : IxOk { x with waits := pA x.waits s ⟨t, p⟩ } :=
  ⟨h.puts, fun k q hk => by
    have hk : gA (pA x.waits s ⟨t, p⟩) k = some q := hk
    rw [gA_put] at hk
    split at hk
    · rename_i e
      rw [← Option.some.inj hk, e]
      exact ⟨hp, h0, h1, hs⟩
    · exact h.waits k q hk, h.top0, h.top1⟩
theorem IxOk.till0 {x : Ix} (h : IxOk x) (s : ByteArray) : 0 ≤ tillI x s := by
  unfold tillI
  cases hg : gA x.waits s with
  | none => decide
  | some v => exact (h.waits s v hg).2.1
theorem IxOk.pause {x : Ix} (h : IxOk x) {s : ByteArray} {t : Int} {p : Pl} (hp : PlOk p) (h1 : t ≤ 9223372036854775807) (hs : s.size ≤ 256) : IxOk (pauseI x s t p) := by
  unfold pauseI
  split
  · rename_i hn
    refine h.wait hp ?_ h1 hs
    have h9 : tillI x s < t := by unfold newsI at hn; simpa using hn
    have := h.till0 s
    omega
  · exact h
theorem IxOk.apply {x : Ix} (h : IxOk x) {r : Rc} {p : Pl} (hp : PlOk p) (hs : soundR r) (hf : FitR r) : IxOk (applyI x r p) := by
  obtain ⟨s1, s2, s3, s4, s5, s6, s7, s8⟩ := hs
  obtain ⟨f1, f2⟩ := hf
  unfold applyI
  split
  · exact h.put hp s3 (by omega)
  · split
    · exact (h.del r.id).topped (by omega)
    · split
      · exact h.pause hp (by omega) s7
      · exact h
theorem recsI_ok {seg : Int} (hs : okI seg) : ∀ {rs : List Rc} {x : Ix} {o : Int}, IxOk x → (∀ r ∈ rs, soundR r ∧ FitR r) → 0 ≤ o → o + ((flatR rs).length : Int) ≤ 1000000 → IxOk (recsI seg o rs x)
  | [], x, o, h, _, _, _ => h
  | r :: t, x, o, h, h1, h2, h3 => by
    rw [flatR_cons, List.length_append] at h3
    obtain ⟨a, b⟩ := h1 r List.mem_cons_self
    unfold recsI
    exact recsI_ok hs (h.apply ⟨hs, h2, by show o ≤ _; omega, Int.natCast_nonneg _, by show ((encR r).length : Int) ≤ _; omega⟩ a b) (fun q hq => h1 q (List.mem_cons_of_mem _ hq)) (by omega) (by omega)
theorem recsI_len {seg : Int} : ∀ {rs : List Rc} {x : Ix} {o : Int}, (recsI seg o rs x).puts.length ≤ x.puts.length + rs.length ∧ (recsI seg o rs x).waits.length ≤ x.waits.length + rs.length
  | [], x, o => ⟨by simp [recsI], by simp [recsI]⟩
  | r :: t, x, o => by
    have ih := recsI_len (seg := seg) (rs := t) (x := applyI x r ⟨seg, o, (encR r).length⟩) (o := o + (encR r).length)
    have h := applyI_len x r ⟨seg, o, (encR r).length⟩
    unfold recsI
    rw [List.length_cons]
    omega
theorem flat_ge : ∀ rs : List Rc, rs.length * 26 ≤ (flatR rs).length
  | [] => Nat.le_refl _
  | r :: t => by
    rw [flatR_cons, List.length_append, List.length_cons]
    have := encR_ge r
    have := flat_ge t
    omega
theorem scanL_len {b : List Int} (hb : Byts b) : (scanL b).length * 26 ≤ b.length := by
  have h1 := flat_ge (scanL b)
  have h2 := used_le hb
  unfold usedL at h2
  omega
theorem repl_ok {S : Sgs} (hb : BytS S) (hl : ∀ n, (gD S n).length ≤ 2048) : ∀ {l : List Int} {x : Ix}, (∀ s ∈ l, okI s) → IxOk x →
    IxOk (l.foldl (fun x s => recsI s 0 (scanL (gD S s)) x) x) ∧ (l.foldl (fun x s => recsI s 0 (scanL (gD S s)) x) x).puts.length ≤ x.puts.length + 2048 * l.length ∧ (l.foldl (fun x s => recsI s 0 (scanL (gD S s)) x) x).waits.length ≤ x.waits.length + 2048 * l.length
  | [], x, _, h => ⟨h, by simp, by simp⟩
  | s :: t, x, hs, h => by
    have h1 := recsI_ok (hs s List.mem_cons_self) h (scan_ok (hb s)).1 (Int.le_refl 0) (by
      have := used_le (hb s)
      have := hl s
      unfold usedL at *
      omega)
    have h2 := recsI_len (seg := s) (rs := scanL (gD S s)) (x := x) (o := 0)
    have h3 := scanL_len (hb s)
    have h4 := hl s
    have ih := repl_ok hb hl (l := t) (fun q hq => hs q (List.mem_cons_of_mem _ hq)) h1
    rw [List.foldl_cons, List.length_cons]
    refine ⟨ih.1, ?_, ?_⟩
    · omega
    · omega
theorem replL_ok {S : Sgs} (hb : BytS S) (hl : ∀ n, (gD S n).length ≤ 2048) {l : List Int} (hs : ∀ s ∈ l, okI s) : IxOk (replL S l) ∧ (replL S l).puts.length ≤ 2048 * l.length ∧ (replL S l).waits.length ≤ 2048 * l.length := by
  have := repl_ok hb hl hs IxOk.zero
  unfold replL
  have e1 : ix0.puts.length = 0 := rfl
  have e2 : ix0.waits.length = 0 := rfl
  exact ⟨this.1, by have := this.2; omega, by have := this.2; omega⟩
/-- Few enough to be counted. -/
def Few (x : Ix) : Prop := x.puts.length ≤ 900000 ∧ x.waits.length ≤ 900000
/-- The index of a log in memory. -/
def logC (d : Nat) (n : Int) (pm : Nat) (wm : Option Nat) (top : Int) : Array Value := #[.pointer (some ⟨d, 0, none⟩), .int .i64 n, .map (some pm), .map wm, .int .i64 top]
structure LxM (w : World) (R : Nat → Prop) (d L : Nat) (n : Int) (x : Ix) : Prop where
  ix : ∃ pm wm, IxM w 0 L 2 (logC d n pm wm x.top) 66 pm wm x ∧ ∀ k, MineI L pm wm k → R k
  lt : ∀ k, R k → k < w.heap.size
  ok : IxOk x
section
variable {w : World} {R : Nat → Prop} {d L : Nat} {n : Int} {x : Ix}
theorem LxM.keep {w' : World} (h : LxM w R d L n x) (hs : w.heap.size ≤ w'.heap.size) (hb : ∀ k, R k → w'.heap[k]? = w.heap[k]?) : LxM w' R d L n x := by
  obtain ⟨pm, wm, hi, hm⟩ := h.ix
  exact ⟨⟨pm, wm, hi.keep fun k hk => hb k (hm k hk), hm⟩, fun k hk => Nat.lt_of_lt_of_le (h.lt k hk) hs, h.ok⟩
theorem LxM.later {w' : World} (h : LxM w R d L n x) (hb : Below w.heap.size w w') : LxM w' R d L n x := h.keep hb.size fun k hk => hb.block k (h.lt k hk)
theorem LxM.only {R2 : Nat → Prop} {w' : World} (h : LxM w R d L n x) (ho : Only R2 w w') (ha : ∀ k, R k → ¬ R2 k) : LxM w' R d L n x := h.keep ho.size fun k hk => ho.block k (h.lt k hk) (ha k hk)
theorem LxM.box (h : LxM w R d L n x) : ∃ pm wm, Box w L (logC d n pm wm x.top) 66 ∧ R L := by
  obtain ⟨pm, wm, hi, hm⟩ := h.ix
  exact ⟨pm, wm, hi.box, hm L (Or.inl rfl)⟩
theorem logC_eq {w : World} {pm : Nat} {wm wm' : Option Nat} {t : Int} {cs : Array Value} {y : Ix} (hi : IxM w 0 L 2 cs 66 pm wm' y) (hc : ∀ i, i ≠ 2 + 1 → i ≠ 2 + 2 → cs[i]? = (logC d n pm wm t)[i]?) : cs = logC d n pm wm' y.top := by
  apply Array.ext_getElem?
  intro i
  match i with
  | 0 => exact hc 0 (by decide) (by decide)
  | 1 => exact hc 1 (by decide) (by decide)
  | 2 => exact hi.c0
  | 3 => exact hi.c1
  | 4 => exact hi.c2
  | k + 5 => rw [hc (k + 5) (by omega) (by omega)]; rfl
/-- An index behind a call of its own. -/
theorem LxM.turned {w' : World} {pm : Nat} {wm : Option Nat} {y : Ix} (hi : IxM w 0 L 2 (logC d n pm wm x.top) 66 pm wm x) (hm : ∀ k, MineI L pm wm k → R k) (ha : AftI 0 L 2 (logC d n pm wm x.top) 66 pm wm w y w') (ho : IxOk y) : ∃ R', LxM w' R' d L n y ∧ TurnR R w R' w' := by
  obtain ⟨wm', cs', h1, h2, h3, h4⟩ := ha
  obtain rfl := logC_eq h1 h2
  refine ⟨MineI L pm wm', ⟨⟨pm, wm', h1, fun k hk => hk⟩, fun k hk => (h1.lt hk).1, ho⟩, ⟨h3.wide hm, fun k hk => ?_⟩⟩
  rcases hk with hk | hk | hk
  · exact Or.inl (hm k (Or.inl hk))
  · exact Or.inl (hm k (Or.inr (Or.inl hk)))
  · rcases h4 with h4 | ⟨m, h4, h5⟩
    · exact Or.inl (hm k (Or.inr (Or.inr (h4 ▸ hk))))
    · rw [h4] at hk
      cases hk
      exact Or.inr h5
end
/-- The package's variable. -/
def gNow : Nat := 0
def NowM (w : World) : Prop := ∀ i : Nat, i < 3 → w.cell? ⟨gNow, i, none⟩ = (plC nowh)[i]?
theorem NowM.lt {w : World} (h : NowM w) : gNow < w.heap.size := World.block_lt_of_cell? _ _ (h 0 (by decide))
theorem NowM.keep {w w' : World} (h : NowM w) (hb : w'.heap[gNow]? = w.heap[gNow]?) : NowM w' := fun i hi => (cell_blk hb i).trans (h i hi)
theorem NowM.later {w w' : World} (h : NowM w) (hb : Below w.heap.size w w') : NowM w' := h.keep (hb.block _ h.lt)
theorem NowM.only {R : Nat → Prop} {w w' : World} (h : NowM w) (ho : Only R w w') (hn : ¬ R gNow) : NowM w' := h.keep (ho.block _ h.lt hn)
structure LgM (w : World) (RD RL : Nat → Prop) (d L : Nat) (g : Lg) : Prop where
  dk : DkM w RD d g.D
  lx : LxM w RL d L g.n g.x
  ap : ∀ k, RD k → ¬ RL k
  now : NowM w
  nD : ¬ RD gNow
  nL : ¬ RL gNow
/-- What a log is behind a call. -/
structure AftG (RD RL : Nat → Prop) (d L : Nat) (w : World) (g' : Lg) (w' : World) (RD' RL' : Nat → Prop) : Prop where
  lg : LgM w' RD' RL' d L g'
  only : Only (fun k => RD k ∨ RL k) w w'
  newD : ∀ k, RD' k → RD k ∨ w.heap.size ≤ k
  newL : ∀ k, RL' k → RL k ∨ w.heap.size ≤ k
def AftL (RD RL : Nat → Prop) (d L : Nat) (w : World) (g' : Lg) (w' : World) : Prop := ∃ RD' RL', AftG RD RL d L w g' w' RD' RL'
section
variable {w w' : World} {RD RL : Nat → Prop} {d L : Nat} {g g' : Lg}
theorem LgM.keep (h : LgM w RD RL d L g) (hs : w.heap.size ≤ w'.heap.size) (hb : ∀ k, k < w.heap.size → (RD k ∨ RL k ∨ k = gNow) → w'.heap[k]? = w.heap[k]?) : LgM w' RD RL d L g :=
  ⟨h.dk.keep hs fun k hk => hb k (h.dk.lt k hk) (Or.inl hk), h.lx.keep hs fun k hk => hb k (h.lx.lt k hk) (Or.inr (Or.inl hk)), h.ap, h.now.keep (hb _ h.now.lt (Or.inr (Or.inr rfl))), h.nD, h.nL⟩
theorem LgM.later (h : LgM w RD RL d L g) (hb : Below w.heap.size w w') : LgM w' RD RL d L g := h.keep hb.size fun k hk _ => hb.block k hk
theorem LgM.drew (h : LgM w RD RL d L g) : LgM w.drew RD RL d L g := h.later (Below.refl _ w).drew
theorem AftL.refl (h : LgM w RD RL d L g) (hb : Below w.heap.size w w') : AftL RD RL d L w g w' := ⟨RD, RL, h.later hb, Only.of_below _ hb, fun k hk => Or.inl hk, fun k hk => Or.inl hk⟩
theorem AftL.trans {w1 : World} {RD1 RL1 : Nat → Prop} {g1 : Lg} (h : AftG RD RL d L w g1 w1 RD1 RL1) (k : AftL RD1 RL1 d L w1 g' w') : AftL RD RL d L w g' w' := by
  obtain ⟨RD2, RL2, k⟩ := k
  refine ⟨RD2, RL2, k.lg, h.only.trans k.only fun x hx => ?_, fun x hx => ?_, fun x hx => ?_⟩
  · rcases hx with hx | hx
    · rcases h.newD x hx with e | e
      · exact Or.inl (Or.inl e)
      · exact Or.inr e
    · rcases h.newL x hx with e | e
      · exact Or.inl (Or.inr e)
      · exact Or.inr e
  · rcases k.newD x hx with e | e
    · exact h.newD x e
    · exact Or.inr (Nat.le_trans h.only.size e)
  · rcases k.newL x hx with e | e
    · exact h.newL x e
    · exact Or.inr (Nat.le_trans h.only.size e)
/-- The same from an earlier world. -/
theorem AftL.before {w0 : World} (hb : Below w0.heap.size w0 w) (h : AftL RD RL d L w g' w') : AftL RD RL d L w0 g' w' := by
  obtain ⟨RD2, RL2, k⟩ := h
  refine ⟨RD2, RL2, k.lg, (Only.of_below _ hb).trans k.only (fun x hx => Or.inl hx), fun x hx => ?_, fun x hx => ?_⟩
  · rcases k.newD x hx with e | e
    · exact Or.inl e
    · exact Or.inr (Nat.le_trans hb.size e)
  · rcases k.newL x hx with e | e
    · exact Or.inl e
    · exact Or.inr (Nat.le_trans hb.size e)
theorem AftL.later {w2 : World} (h : AftL RD RL d L w g' w') (hb : Below w'.heap.size w' w2) : AftL RD RL d L w g' w2 := by
  obtain ⟨RD2, RL2, k⟩ := h
  exact AftL.trans k (AftL.refl k.lg hb)
/-- A call upon the disk alone. -/
theorem LgM.disk {D' : Ds} (h : LgM w RD RL d L g) (ha : AftK RD d w D' w') : AftL RD RL d L w ⟨D', g.n, g.x⟩ w' := by
  obtain ⟨RD', hd, ht⟩ := ha
  refine ⟨RD', RL, ⟨hd, h.lx.only ht.only (fun k h1 h2 => h.ap k h2 h1), fun k hk hl => ?_, h.now.only ht.only h.nD, fun e => ?_, h.nL⟩, ht.only.wide (fun k hk => Or.inl hk), ht.new, fun k hk => Or.inl hk⟩
  · rcases ht.new k hk with e | e
    · exact h.ap k e hl
    · have := h.lx.lt k hl
      omega
  · rcases ht.new _ e with e | e
    · exact h.nD e
    · have := h.now.lt
      omega
/-- A call upon the index alone. -/
theorem LgM.index {x' : Ix} (h : LgM w RD RL d L g) (ha : ∃ RL', LxM w' RL' d L g.n x' ∧ TurnR RL w RL' w') : AftL RD RL d L w ⟨g.D, g.n, x'⟩ w' := by
  obtain ⟨RL', hl, ht⟩ := ha
  refine ⟨RD, RL', ⟨h.dk.only ht.only h.ap, hl, fun k hk hk2 => ?_, h.now.only ht.only h.nL, h.nD, fun e => ?_⟩, ht.only.wide (fun k hk => Or.inr hk), fun k hk => Or.inl hk, ht.new⟩
  · rcases ht.new k hk2 with e | e
    · exact h.ap k hk e
    · have := h.dk.lt k hk
      omega
  · rcases ht.new _ e with e | e
    · exact h.nL e
    · have := h.now.lt
      omega
/-- What is no block of the log's stays. -/
theorem AftG.keep {RD' RL' : Nat → Prop} (h : AftG RD RL d L w g' w' RD' RL') {k : Nat} (hk : k < w.heap.size) (h1 : ¬ RD k) (h2 : ¬ RL k) : w'.heap[k]? = w.heap[k]? := h.only.block k hk (fun e => by rcases e with e | e; exact h1 e; exact h2 e)
end
theorem kreplay_at {w : World} {R : Nat → Prop} {d : Nat} {D : Ds} (h : DkM w R d D) (l : List Int) (N cap : Nat) (a : Option Addr) (hl : l.length = N) (hN : N ≤ 16) (hr : RdC w a (inL l)) (hw : ∀ s ∈ l, okI s) :
    Calls Tryz.prog 24 #[.pointer (some ⟨d, 0, none⟩), .slice a N cap] w fun e w' => ∃ (pm : Nat) (wm : Option Nat), e = .returned (.agg #[.map (some pm), .map wm, .int .i64 (replL D.S l).top]) ∧ PtM w' pm (replL D.S l).puts ∧ WtM w' wm (replL D.S l).waits ∧ wm ≠ some pm ∧ w.heap.size ≤ pm ∧ (∀ m, wm = some m → w.heap.size ≤ m) ∧ Below w.heap.size w w' := by
  obtain ⟨bm, uc, V, ua, hd, hmi⟩ := h.dm
  refine (replay_at hd h.byt l N cap a hl hN hr hw).mono ?_
  rintro e w' ⟨x, pm, wm, rfl, hrep, h1, h2, h3, h4, h5, h6⟩
  obtain rfl : x = replL D.S l := repR_eq h.byt hrep
  exact ⟨pm, wm, rfl, h1, h2, h3, h4, h5, h6⟩
theorem kopen_at {w : World} {R : Nat → Prop} {d : Nat} {D : Ds} (h : DkM w R d D) (n : Int) (hnow : NowM w) (hn : ¬ R gNow) :
    Calls Tryz.prog 6 #[.pointer (some ⟨d, 0, none⟩), .int .i64 n] w fun e w' => ∃ (L : Nat) (RL : Nat → Prop), e = .returned (.tuple #[.pointer (some ⟨L, 0, none⟩), .int .i64 0]) ∧ LgM w' R RL d L (openL D n) ∧ Few (openL D n).x ∧ Below w.heap.size w w' ∧ ∀ k, RL k → w.heap.size ≤ k := by
  obtain ⟨bm, uc, V, ua, hd, hmi⟩ := h.dm
  refine (open_at hd h.byt n).mono ?_
  rintro e w' ⟨L, pm, wm, x, rfl, hrep, hi, hb⟩
  obtain rfl : x = replL D.S (segsL D) := repR_eq h.byt hrep
  have hok := replL_ok h.byt h.seg (l := segsL D) (fun s hs => (h.segs_ok s hs).1)
  have hc : (segsL D).length ≤ 16 := by unfold segsL; rw [List.length_map]; exact h.cnt
  have hge : ∀ k, MineI L pm wm k → w.heap.size ≤ k := fun k hk => (hi.lt hk).2
  refine ⟨L, MineI L pm wm, rfl, ⟨h.later hb, ⟨⟨pm, wm, ⟨hi.box, hi.c0, hi.c1, hi.c2, hi.puts, hi.waits, hi.apart, Nat.zero_le _, Nat.zero_le _, fun m _ => Nat.zero_le _⟩, fun k hk => hk⟩, fun k hk => (hi.lt hk).1, hok.1⟩, fun k h1 h2 => ?_, hnow.later hb, hn, fun e => ?_⟩, ⟨?_, ?_⟩, hb, hge⟩
  · have := h.lt k h1
    have := hge k h2
    omega
  · have := hnow.lt
    have := hge _ e
    omega
  · show (replL D.S (segsL D)).puts.length ≤ _
    omega
  · show (replL D.S (segsL D)).waits.length ≤ _
    omega
end Go.Proofs.YtimkgaokcldgkaaGreatDoor
