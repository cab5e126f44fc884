/- Part of a chain: SrMath. -/
import Derived.Sort.Lot0
import Derived.Sort.LotA
/- slices.SortStableFunc, told by arrays: blocks by insertion, then merges by rotation: what stays, and that elements may be renamed. No program here. -/
namespace Go.Proofs.YteinblpkcpjpnaaGreatDoor
open Go Go.Sort
set_option linter.unusedVariables false
set_option linter.unusedSimpArgs false

section
variable {α β : Type} [Inhabited α] [Inhabited β]
/-- Where a search by halves ends. -/
def bsR (p : Nat → Bool) (i j : Nat) : Nat :=
  if i < j then (if p ((i + j) / 2) = true then bsR p ((i + j) / 2 + 1) j else bsR p i ((i + j) / 2)) else i
termination_by j - i
theorem bsR_go {p : Nat → Bool} {i j : Nat} (h : i < j) : bsR p i j = if p ((i + j) / 2) = true then bsR p ((i + j) / 2 + 1) j else bsR p i ((i + j) / 2) := by rw [bsR, if_pos h]
theorem bsR_end {p : Nat → Bool} {i j : Nat} (h : ¬ i < j) : bsR p i j = i := by rw [bsR, if_neg h]
theorem bsR_in (p : Nat → Bool) : ∀ (n i j : Nat), j - i ≤ n → i ≤ j → i ≤ bsR p i j ∧ bsR p i j ≤ j
  | 0, i, j, h, hij => by rw [bsR_end (by omega)]; omega
  | n + 1, i, j, h, hij => by
    by_cases hlt : i < j
    · rw [bsR_go hlt]
      split
      · have := bsR_in p n ((i + j) / 2 + 1) j (by omega) (by omega)
        omega
      · have := bsR_in p n i ((i + j) / 2) (by omega) (by omega)
        omega
    · rw [bsR_end hlt]; omega
def upS (d : Array α) (k e : Nat) : Array α := if k < e then upS (swp d k (k + 1)) (k + 1) e else d
termination_by e - k
theorem upS_go {d : Array α} {k e : Nat} (h : k < e) : upS d k e = upS (swp d k (k + 1)) (k + 1) e := by rw [upS, if_pos h]
theorem upS_end {d : Array α} {k e : Nat} (h : ¬ k < e) : upS d k e = d := by rw [upS, if_neg h]
def dnS (e : Nat) : Nat → Array α → Array α
  | 0, d => d
  | k + 1, d => if e < k + 1 then dnS e k (swp d (k + 1) k) else d
def swr (x y n : Nat) (d : Array α) (i : Nat) : Array α := if i < n then swr x y n (swp d (x + i) (y + i)) (i + 1) else d
termination_by n - i
theorem swr_go {x y n : Nat} {d : Array α} {i : Nat} (h : i < n) : swr x y n d i = swr x y n (swp d (x + i) (y + i)) (i + 1) := by rw [swr, if_pos h]
theorem swr_end {x y n : Nat} {d : Array α} {i : Nat} (h : ¬ i < n) : swr x y n d i = d := by rw [swr, if_neg h]
def rot (m : Nat) (d : Array α) (i j : Nat) : Array α :=
  if i = j then swr (m - i) m i d 0
  else if j < i ∧ 0 < j then rot m (swr (m - i) m j d 0) (i - j) j
  else if i < j ∧ 0 < i then rot m (swr (m - i) (m + j - i) i d 0) i (j - i)
  else d
termination_by i + j
theorem rot_eq {m : Nat} {d : Array α} {i j : Nat} (h : i = j) : rot m d i j = swr (m - i) m i d 0 := by rw [rot, if_pos h]
theorem rot_gt {m : Nat} {d : Array α} {i j : Nat} (h : j < i) (h0 : 0 < j) : rot m d i j = rot m (swr (m - i) m j d 0) (i - j) j := by rw [rot, if_neg (by omega), if_pos ⟨h, h0⟩]
theorem rot_lt {m : Nat} {d : Array α} {i j : Nat} (h : i < j) (h0 : 0 < i) : rot m d i j = rot m (swr (m - i) (m + j - i) i d 0) i (j - i) := by rw [rot, if_neg (by omega), if_neg (by omega), if_pos ⟨h, h0⟩]
section
variable (lt : α → α → Bool)
def symS (d : Array α) (a m b : Nat) : Nat := bsR (fun c => !lt d[(a + b) / 2 + m - 1 - c]! d[c]!) (if (a + b) / 2 < m then (a + b) / 2 + m - b else a) (if (a + b) / 2 < m then (a + b) / 2 else m)
def sym1 (d : Array α) (a m b : Nat) : Array α := if symS lt d a m b < m ∧ m < (a + b) / 2 + m - symS lt d a m b then rot m d (m - symS lt d a m b) ((a + b) / 2 + m - symS lt d a m b - m) else d
def sym : Nat → Array α → Nat → Nat → Nat → Array α
  | 0, d, _, _, _ => d
  | f + 1, d, a, m, b =>
    if m - a = 1 then upS d a (bsR (fun h => lt d[h]! d[a]!) m b - 1)
    else if b - m = 1 then dnS (bsR (fun h => !lt d[m]! d[h]!) a m) m d
    else
      if (a + b) / 2 < (a + b) / 2 + m - symS lt d a m b ∧ (a + b) / 2 + m - symS lt d a m b < b then
        sym f (if a < symS lt d a m b ∧ symS lt d a m b < (a + b) / 2 then sym f (sym1 lt d a m b) a (symS lt d a m b) ((a + b) / 2) else sym1 lt d a m b) ((a + b) / 2) ((a + b) / 2 + m - symS lt d a m b) b
      else (if a < symS lt d a m b ∧ symS lt d a m b < (a + b) / 2 then sym f (sym1 lt d a m b) a (symS lt d a m b) ((a + b) / 2) else sym1 lt d a m b)
def blkS (n : Nat) (d : Array α) (a : Nat) : Array α := if a + 20 ≤ n then blkS n (insertionSort lt d a (a + 20)) (a + 20) else insertionSort lt d a n
termination_by n - a
def pasS (n s : Nat) (d : Array α) (a : Nat) : Array α :=
  if a + 2 * s ≤ n ∧ 0 < s then pasS n s (sym lt n d a (a + s) (a + 2 * s)) (a + 2 * s) else if a + s < n then sym lt n d a (a + s) n else d
termination_by n - a
def outS (n : Nat) (d : Array α) (s : Nat) : Array α := if s < n ∧ 0 < s then outS n (pasS lt n s d 0) (2 * s) else d
termination_by n - s
def stabS (d : Array α) : Array α := outS lt d.size (blkS lt d.size d 0) 20
end
/-! Nothing is lost. -/
def Pm (d d' : Array α) : Prop := d'.toList.Perm d.toList
omit [Inhabited α] in
theorem Pm.refl (d : Array α) : Pm d d := List.Perm.refl _
omit [Inhabited α] in
theorem Pm.trans {a b c : Array α} (h : Pm a b) (k : Pm b c) : Pm a c := List.Perm.trans k h
omit [Inhabited α] in
theorem Pm.size {a b : Array α} (h : Pm a b) : b.size = a.size := by simpa using h.length_eq
theorem pm_swp (d : Array α) {i j : Nat} (hi : i < d.size) (hj : j < d.size) : Pm d (swp d i j) := by
  have e : swp d i j = d.swap i j hi hj := by
    unfold swp
    rw [Array.swap_def, getElem!_pos d i hi, getElem!_pos d j hj, Array.setIfInBounds_def, Array.setIfInBounds_def]
    simp [hi, hj]
  rw [e]
  exact (Array.swap_perm hi hj).toList
theorem pm_upS : ∀ (n : Nat) (d : Array α) (k e : Nat), e - k ≤ n → (k < e → e < d.size) → Pm d (upS d k e)
  | 0, d, k, e, h, _ => by rw [upS_end (by omega)]; exact Pm.refl _
  | n + 1, d, k, e, h, hb => by
    by_cases hlt : k < e
    · rw [upS_go hlt]
      have h1 := pm_swp d (i := k) (j := k + 1) (by have := hb hlt; omega) (by have := hb hlt; omega)
      exact h1.trans (pm_upS n _ _ _ (by omega) (fun _ => by rw [h1.size]; exact hb hlt))
    · rw [upS_end hlt]; exact Pm.refl _
theorem pm_dnS (e : Nat) : ∀ (k : Nat) (d : Array α), k < d.size → Pm d (dnS e k d)
  | 0, d, _ => Pm.refl _
  | k + 1, d, h => by
    unfold dnS
    split
    · have h1 := pm_swp d (i := k + 1) (j := k) h (by omega)
      exact h1.trans (pm_dnS e k _ (by rw [h1.size]; omega))
    · exact Pm.refl _
theorem pm_swr (x y n : Nat) : ∀ (c : Nat) (d : Array α) (i : Nat), n - i ≤ c → x + n ≤ d.size → y + n ≤ d.size → Pm d (swr x y n d i)
  | 0, d, i, h, _, _ => by rw [swr_end (by omega)]; exact Pm.refl _
  | c + 1, d, i, h, hx, hy => by
    by_cases hlt : i < n
    · rw [swr_go hlt]
      have h1 := pm_swp d (i := x + i) (j := y + i) (by omega) (by omega)
      exact h1.trans (pm_swr x y n c _ _ (by omega) (by rw [h1.size]; exact hx) (by rw [h1.size]; exact hy))
    · rw [swr_end hlt]; exact Pm.refl _
theorem pm_rot (m : Nat) : ∀ (c : Nat) (d : Array α) (i j : Nat), i + j ≤ c → i ≤ m → m + j ≤ d.size → Pm d (rot m d i j)
  | 0, d, i, j, h, _, _ => by
    obtain rfl : i = 0 := by omega
    obtain rfl : j = 0 := by omega
    rw [rot_eq rfl, swr_end (by omega)]
    exact Pm.refl _
  | c + 1, d, i, j, h, hi, hj => by
    by_cases h1 : i = j
    · rw [rot_eq h1]
      exact pm_swr _ _ _ _ _ _ (Nat.le_refl _) (by omega) (by omega)
    · by_cases h2 : j < i ∧ 0 < j
      · rw [rot_gt h2.1 h2.2]
        have h3 := pm_swr (m - i) m j j d 0 (by omega) (by omega) (by omega)
        exact h3.trans (pm_rot m c _ _ _ (by omega) (by omega) (by rw [h3.size]; omega))
      · by_cases h4 : i < j ∧ 0 < i
        · rw [rot_lt h4.1 h4.2]
          have h3 := pm_swr (m - i) (m + j - i) i i d 0 (by omega) (by omega) (by omega)
          exact h3.trans (pm_rot m c _ _ _ (by omega) (by omega) (by rw [h3.size]; omega))
        · rw [rot, if_neg h1, if_neg h2, if_neg h4]
          exact Pm.refl _
/-- The ends of a merge's search. -/
theorem symS_in (lt : α → α → Bool) (d : Array α) {a m b : Nat} (h1 : a < m) (h2 : m < b) : a ≤ symS lt d a m b ∧ symS lt d a m b ≤ m ∧ symS lt d a m b ≤ (a + b) / 2 ∧ (a + b) / 2 + m - symS lt d a m b ≤ b := by
  unfold symS
  split
  · have := bsR_in (fun c => !lt d[(a + b) / 2 + m - 1 - c]! d[c]!) _ ((a + b) / 2 + m - b) ((a + b) / 2) (Nat.le_refl _) (by omega)
    omega
  · have := bsR_in (fun c => !lt d[(a + b) / 2 + m - 1 - c]! d[c]!) _ a m (Nat.le_refl _) (by omega)
    omega
theorem pm_sym1 (lt : α → α → Bool) (d : Array α) {a m b : Nat} (h1 : a < m) (h2 : m < b) (h3 : b ≤ d.size) : Pm d (sym1 lt d a m b) := by
  have := symS_in lt d h1 h2
  unfold sym1
  split
  · exact pm_rot m _ d _ _ (Nat.le_refl _) (by omega) (by omega)
  · exact Pm.refl _
theorem pm_sym (lt : α → α → Bool) : ∀ (f : Nat) (d : Array α) (a m b : Nat), a < m → m < b → b ≤ d.size → Pm d (sym lt f d a m b)
  | 0, d, a, m, b, _, _, _ => Pm.refl _
  | f + 1, d, a, m, b, h1, h2, h3 => by
    unfold sym
    split
    · have := bsR_in (fun h => lt d[h]! d[a]!) _ m b (Nat.le_refl _) (by omega)
      exact pm_upS _ _ _ _ (Nat.le_refl _) (fun _ => by omega)
    · split
      · exact pm_dnS _ _ _ (by omega)
      · have hs := symS_in lt d h1 h2
        have p1 := pm_sym1 lt d h1 h2 h3
        have p2 : Pm d (if a < symS lt d a m b ∧ symS lt d a m b < (a + b) / 2 then sym lt f (sym1 lt d a m b) a (symS lt d a m b) ((a + b) / 2) else sym1 lt d a m b) := by
          split
          · rename_i hc
            exact p1.trans (pm_sym lt f _ _ _ _ hc.1 hc.2 (by rw [p1.size]; omega))
          · exact p1
        split
        · rename_i hc
          exact p2.trans (pm_sym lt f _ _ _ _ hc.1 hc.2 (by rw [p2.size]; omega))
        · exact p2
theorem pm_insI (lt : α → α → Bool) (a : Nat) : ∀ (j : Nat) (d : Array α), j < d.size → Pm d (insInner lt a j d)
  | 0, d, _ => Pm.refl _
  | j + 1, d, h => by
    unfold insInner
    split
    · have h1 := pm_swp d (i := j + 1) (j := j) h (by omega)
      exact h1.trans (pm_insI lt a j _ (by rw [h1.size]; omega))
    · exact Pm.refl _
theorem pm_insO (lt : α → α → Bool) (a b : Nat) : ∀ (n i : Nat) (d : Array α), b - i ≤ n → b ≤ d.size → Pm d (insOuter lt a b i d)
  | 0, i, d, h, _ => by rw [insOuter, if_neg (by omega)]; exact Pm.refl _
  | n + 1, i, d, h, hb => by
    rw [insOuter]
    split
    · have h1 := pm_insI lt a i d (by omega)
      exact h1.trans (pm_insO lt a b n (i + 1) _ (by omega) (by rw [h1.size]; exact hb))
    · exact Pm.refl _
theorem pm_ins (lt : α → α → Bool) (d : Array α) (a b : Nat) (hb : b ≤ d.size) : Pm d (insertionSort lt d a b) := pm_insO lt a b _ _ d (Nat.le_refl _) hb
theorem pm_blkS (lt : α → α → Bool) (n : Nat) : ∀ (c : Nat) (d : Array α) (a : Nat), n - a ≤ c → n ≤ d.size → Pm d (blkS lt n d a)
  | 0, d, a, h, hb => by rw [blkS, if_neg (by omega)]; exact pm_ins lt d a n hb
  | c + 1, d, a, h, hb => by
    rw [blkS]
    split
    · have h1 := pm_ins lt d a (a + 20) (by omega)
      exact h1.trans (pm_blkS lt n c _ _ (by omega) (by rw [h1.size]; exact hb))
    · exact pm_ins lt d a n hb
theorem pm_pasS (lt : α → α → Bool) (n s : Nat) : ∀ (c : Nat) (d : Array α) (a : Nat), n - a ≤ c → n ≤ d.size → 0 < s → Pm d (pasS lt n s d a)
  | 0, d, a, h, hb, hs => by rw [pasS, if_neg (by omega), if_neg (by omega)]; exact Pm.refl _
  | c + 1, d, a, h, hb, hs => by
    rw [pasS]
    split
    · have h1 := pm_sym lt n d a (a + s) (a + 2 * s) (by omega) (by omega) (by omega)
      exact h1.trans (pm_pasS lt n s c _ _ (by omega) (by rw [h1.size]; exact hb) hs)
    · split
      · exact pm_sym lt n d a (a + s) n (by omega) (by omega) hb
      · exact Pm.refl _
theorem pm_outS (lt : α → α → Bool) (n : Nat) : ∀ (c : Nat) (d : Array α) (s : Nat), n - s ≤ c → n ≤ d.size → Pm d (outS lt n d s)
  | 0, d, s, h, hb => by rw [outS, if_neg (by omega)]; exact Pm.refl _
  | c + 1, d, s, h, hb => by
    rw [outS]
    split
    · rename_i hc
      have h1 := pm_pasS lt n s _ d 0 (Nat.le_refl _) hb hc.2
      exact h1.trans (pm_outS lt n c _ _ (by omega) (by rw [h1.size]; exact hb))
    · exact Pm.refl _
theorem pm_stabS (lt : α → α → Bool) (d : Array α) : Pm d (stabS lt d) := by
  unfold stabS
  have h1 := pm_blkS lt d.size _ d 0 (Nat.le_refl _) (Nat.le_refl _)
  exact h1.trans (pm_outS lt d.size _ _ _ (Nat.le_refl _) (by rw [h1.size]; exact Nat.le_refl _))
/-! Elements may be renamed. -/
section
variable (f : α → β) (hf : f default = default) (lt : β → β → Bool)
include hf
theorem mp_get (d : Array α) (i : Nat) : (d.map f)[i]! = f d[i]! := by
  by_cases h : i < d.size
  · rw [getElem!_pos d i h, getElem!_pos (d.map f) i (by simpa using h), Array.getElem_map]
  · rw [getElem!_neg d i h, getElem!_neg (d.map f) i (by simpa using h), hf]
theorem mp_swp (d : Array α) (i j : Nat) : swp (d.map f) i j = (swp d i j).map f := by
  unfold swp
  rw [mp_get f hf, mp_get f hf]
  simp
theorem mp_upS : ∀ (n : Nat) (d : Array α) (k e : Nat), e - k ≤ n → upS (d.map f) k e = (upS d k e).map f
  | 0, d, k, e, h => by rw [upS_end (by omega), upS_end (by omega)]
  | n + 1, d, k, e, h => by
    by_cases hlt : k < e
    · rw [upS_go hlt, upS_go hlt, mp_swp f hf, mp_upS n _ _ _ (by omega)]
    · rw [upS_end hlt, upS_end hlt]
theorem mp_dnS (e : Nat) : ∀ (k : Nat) (d : Array α), dnS e k (d.map f) = (dnS e k d).map f
  | 0, d => rfl
  | k + 1, d => by
    unfold dnS
    split
    · rw [mp_swp f hf, mp_dnS e k]
    · rfl
theorem mp_swr (x y n : Nat) : ∀ (c : Nat) (d : Array α) (i : Nat), n - i ≤ c → swr x y n (d.map f) i = (swr x y n d i).map f
  | 0, d, i, h => by rw [swr_end (by omega), swr_end (by omega)]
  | c + 1, d, i, h => by
    by_cases hlt : i < n
    · rw [swr_go hlt, swr_go hlt, mp_swp f hf, mp_swr x y n c _ _ (by omega)]
    · rw [swr_end hlt, swr_end hlt]
theorem mp_rot (m : Nat) : ∀ (c : Nat) (d : Array α) (i j : Nat), i + j ≤ c → rot m (d.map f) i j = (rot m d i j).map f
  | 0, d, i, j, h => by
    obtain rfl : i = 0 := by omega
    obtain rfl : j = 0 := by omega
    rw [rot_eq rfl, rot_eq rfl, mp_swr f hf _ _ _ _ _ _ (Nat.le_refl _)]
  | c + 1, d, i, j, h => by
    by_cases h1 : i = j
    · rw [rot_eq h1, rot_eq h1, mp_swr f hf _ _ _ _ _ _ (Nat.le_refl _)]
    · by_cases h2 : j < i ∧ 0 < j
      · rw [rot_gt h2.1 h2.2, rot_gt h2.1 h2.2, mp_swr f hf _ _ _ _ _ _ (Nat.le_refl _), mp_rot m c _ _ _ (by omega)]
      · by_cases h4 : i < j ∧ 0 < i
        · rw [rot_lt h4.1 h4.2, rot_lt h4.1 h4.2, mp_swr f hf _ _ _ _ _ _ (Nat.le_refl _), mp_rot m c _ _ _ (by omega)]
        · rw [rot, if_neg h1, if_neg h2, if_neg h4, rot, if_neg h1, if_neg h2, if_neg h4]
theorem mp_symS (d : Array α) (a m b : Nat) : symS lt (d.map f) a m b = symS (fun x y => lt (f x) (f y)) d a m b := by
  unfold symS
  congr 1
  funext c
  rw [mp_get f hf, mp_get f hf]
theorem mp_sym1 (d : Array α) (a m b : Nat) : sym1 lt (d.map f) a m b = (sym1 (fun x y => lt (f x) (f y)) d a m b).map f := by
  unfold sym1
  rw [mp_symS f hf]
  split
  · exact mp_rot f hf m _ _ _ _ (Nat.le_refl _)
  · rfl
theorem mp_sym : ∀ (k : Nat) (d : Array α) (a m b : Nat), sym lt k (d.map f) a m b = (sym (fun x y => lt (f x) (f y)) k d a m b).map f
  | 0, d, a, m, b => rfl
  | k + 1, d, a, m, b => by
    unfold sym
    split
    · rw [show (fun h => lt (d.map f)[h]! (d.map f)[a]!) = fun h => lt (f d[h]!) (f d[a]!) from by funext h; rw [mp_get f hf, mp_get f hf]]
      exact mp_upS f hf _ _ _ _ (Nat.le_refl _)
    · split
      · rw [show (fun h => !lt (d.map f)[m]! (d.map f)[h]!) = fun h => !lt (f d[m]!) (f d[h]!) from by funext h; rw [mp_get f hf, mp_get f hf]]
        exact mp_dnS f hf _ _ _
      · rw [mp_symS f hf, mp_sym1 f hf]
        have e : (if a < symS (fun x y => lt (f x) (f y)) d a m b ∧ symS (fun x y => lt (f x) (f y)) d a m b < (a + b) / 2 then sym lt k ((sym1 (fun x y => lt (f x) (f y)) d a m b).map f) a (symS (fun x y => lt (f x) (f y)) d a m b) ((a + b) / 2) else (sym1 (fun x y => lt (f x) (f y)) d a m b).map f)
            = (if a < symS (fun x y => lt (f x) (f y)) d a m b ∧ symS (fun x y => lt (f x) (f y)) d a m b < (a + b) / 2 then sym (fun x y => lt (f x) (f y)) k (sym1 (fun x y => lt (f x) (f y)) d a m b) a (symS (fun x y => lt (f x) (f y)) d a m b) ((a + b) / 2) else sym1 (fun x y => lt (f x) (f y)) d a m b).map f := by
          split
          · exact mp_sym k _ _ _ _
          · rfl
        rw [e]
        split
        · exact mp_sym k _ _ _ _
        · rfl
theorem mp_insI (a : Nat) : ∀ (j : Nat) (d : Array α), insInner lt a j (d.map f) = (insInner (fun x y => lt (f x) (f y)) a j d).map f
  | 0, d => rfl
  | j + 1, d => by
    unfold insInner
    rw [mp_get f hf, mp_get f hf]
    split
    · rw [mp_swp f hf, mp_insI a j]
    · rfl
theorem mp_insO (a b : Nat) : ∀ (n i : Nat) (d : Array α), b - i ≤ n → insOuter lt a b i (d.map f) = (insOuter (fun x y => lt (f x) (f y)) a b i d).map f
  | 0, i, d, h => by rw [insOuter, if_neg (by omega), insOuter, if_neg (by omega)]
  | n + 1, i, d, h => by
    rw [insOuter]
    conv => rhs; rw [insOuter]
    split
    · rw [mp_insI f hf, mp_insO a b n _ _ (by omega)]
    · rfl
theorem mp_ins (d : Array α) (a b : Nat) : insertionSort lt (d.map f) a b = (insertionSort (fun x y => lt (f x) (f y)) d a b).map f := mp_insO f hf lt a b _ _ d (Nat.le_refl _)
theorem mp_blkS (n : Nat) : ∀ (c : Nat) (d : Array α) (a : Nat), n - a ≤ c → blkS lt n (d.map f) a = (blkS (fun x y => lt (f x) (f y)) n d a).map f
  | 0, d, a, h => by rw [blkS, if_neg (by omega), blkS, if_neg (by omega)]; exact mp_ins f hf lt d a n
  | c + 1, d, a, h => by
    rw [blkS]
    conv => rhs; rw [blkS]
    split
    · rw [mp_ins f hf, mp_blkS n c _ _ (by omega)]
    · exact mp_ins f hf lt d a n
theorem mp_pasS (n s : Nat) : ∀ (c : Nat) (d : Array α) (a : Nat), n - a ≤ c → pasS lt n s (d.map f) a = (pasS (fun x y => lt (f x) (f y)) n s d a).map f
  | 0, d, a, h => by
    by_cases h1 : a + 2 * s ≤ n ∧ 0 < s
    · omega
    · rw [pasS, if_neg h1, pasS, if_neg h1]
      split
      · exact mp_sym f hf lt n d _ _ _
      · rfl
  | c + 1, d, a, h => by
    rw [pasS]
    conv => rhs; rw [pasS]
    split
    · rw [mp_sym f hf, mp_pasS n s c _ _ (by omega)]
    · split
      · exact mp_sym f hf lt n d _ _ _
      · rfl
theorem mp_outS (n : Nat) : ∀ (c : Nat) (d : Array α) (s : Nat), n - s ≤ c → outS lt n (d.map f) s = (outS (fun x y => lt (f x) (f y)) n d s).map f
  | 0, d, s, h => by rw [outS, if_neg (by omega), outS, if_neg (by omega)]
  | c + 1, d, s, h => by
    rw [outS]
    conv => rhs; rw [outS]
    split
    · rw [mp_pasS f hf lt n s _ _ _ (Nat.le_refl _), mp_outS n c _ _ (by omega)]
    · rfl
theorem mp_stabS (d : Array α) : stabS lt (d.map f) = (stabS (fun x y => lt (f x) (f y)) d).map f := by
  unfold stabS
  rw [Array.size_map, mp_blkS f hf lt _ _ _ _ (Nat.le_refl _), mp_outS f hf lt _ _ _ _ (Nat.le_refl _)]
end
end
end Go.Proofs.YteinblpkcpjpnaaGreatDoor
