/- The document's own matching: where in the text one may be behind each sign of the pattern. -/
import Derived.Test.YtodlecjbpmggiaaGreatDoorMtMatch
namespace Go.Proofs.YtodlecjbpmggiaaGreatDoor
open Go.RowKit
set_option linter.unusedVariables false
set_option linter.unusedSimpArgs false

/-- A row of bools that a function says. -/
def rowC (n : Nat) (f : Nat → Bool) : Array Value := ((List.range (n + 1)).map fun j => Value.bool (f j)).toArray
theorem rowC_get (n : Nat) (f : Nat → Bool) (k : Nat) (hk : k ≤ n) : (rowC n f)[k]? = some (.bool (f k)) := by
  unfold rowC
  rw [List.getElem?_toArray, List.getElem?_map, List.getElem?_range (by omega)]
  rfl
theorem rowC_size (n : Nat) (f : Nat → Bool) : (rowC n f).size = n + 1 := by simp [rowC]
theorem rowC_set (n : Nat) (f g : Nat → Bool) (k : Nat) (b : Bool) (h : ∀ j, j ≤ n → g j = if j = k then b else f j) : (rowC n f).setIfInBounds k (.bool b) = rowC n g := by
  apply Array.ext_getElem?
  intro i
  rw [Array.getElem?_setIfInBounds]
  by_cases hi : i ≤ n
  · rw [rowC_get n g i hi, h i hi, rowC_size]
    by_cases e : k = i
    · subst e
      rw [if_pos rfl, if_pos (by omega), if_pos rfl]
    · rw [if_neg e, rowC_get n f i hi, if_neg (fun h => e h.symm)]
  · have h1 : (rowC n g)[i]? = none := Array.getElem?_eq_none (by rw [rowC_size]; omega)
    have h2 : (rowC n f)[i]? = none := Array.getElem?_eq_none (by rw [rowC_size]; omega)
    rw [h1, h2]
    split
    · rw [rowC_size, if_neg (by omega)]
    · rfl
theorem rowC_congr (n : Nat) (f g : Nat → Bool) (h : ∀ j, j ≤ n → g j = f j) : rowC n f = rowC n g := by
  unfold rowC
  congr 1
  refine List.map_congr_left fun j hj => ?_
  rw [h j (by have := List.mem_range.1 hj; omega)]
theorem infoB : (Tryz.prog.info? 4).map (fun i => (i.zero, i.size, i.bytes)) = some (some (.bool false), 1, 1) := by kernel_rfl
theorem make_bools (n : Nat) (hn : n ≤ 1000000) (w : World) : (Instr.makeSlice 95 (.int .i64 ((n : Int) + 1)) (.int .i64 ((n : Int) + 1))).run Tryz.prog w = .ok (.slice (some ⟨w.heap.size, 0, none⟩) (n + 1) (n + 1)) (w.alloc (.cells (rowC n fun _ => false) 4)) := by
  obtain ⟨i0, hi0, hz0, hz1, hz2⟩ := info_parts infoB
  have h := run_make (P := Tryz.prog) w 95 4 i0 (.bool false) Tryz.underlying95 hi0 hz0 .i64 .i64 ((n : Int) + 1) ((n : Int) + 1) (by omega) (Int.le_refl _) (by rw [hz2]; omega) (by omega)
  have e1 : ((n : Int) + 1).toNat = n + 1 := by omega
  have e2 : madeCells (Value.bool false).cells ((n + 1) * i0.size) = rowC n fun _ => false := by
    rw [hz1, Nat.mul_one]
    apply Array.ext
    · rw [size_madeCells, rowC_size]
    · intro i h1 h2
      simp [madeCells, rowC, Value.cells, Nat.mod_one]
  rw [e1, e2] at h
  exact h

/-- Behind i signs of the pattern one may be at k. -/
def st (p s : List UInt8) (i k : Nat) : Bool := mb (p.take i) (s.take k)
theorem st_zero (p s : List UInt8) (k : Nat) (hk : k ≤ s.length) : st p s 0 k = decide (k = 0) := by
  unfold st
  rw [List.take_zero, Bool.eq_iff_iff, mb_nil, decide_eq_true_eq, List.take_eq_nil_iff]
  constructor
  · rintro (h | h)
    · exact h
    · subst h; simpa using hk
  · exact fun h => Or.inl h
theorem take_next {p : List UInt8} {i : Nat} {c : UInt8} (h : p[i]? = some c) : p.take (i + 1) = p.take i ++ [c] := by
  obtain ⟨h1, h2⟩ := List.getElem?_eq_some_iff.1 h
  rw [List.take_succ_eq_append_getElem h1, h2]
theorem st_star {p s : List UInt8} {i k : Nat} (h : p[i]? = some 42) (hk : k ≤ s.length) : st p s (i + 1) k = (st p s i k || (decide (0 < k) && st p s (i + 1) (k - 1))) := by
  have e : ∀ k, k ≤ s.length → (st p s (i + 1) k = true ↔ ∃ j, j ≤ k ∧ st p s i j = true) := by
    intro k hk
    unfold st
    rw [take_next h, mb_snoc_star, List.length_take, Nat.min_eq_left hk]
    constructor
    · rintro ⟨j, hj, h⟩; rw [List.take_take, Nat.min_eq_left hj] at h; exact ⟨j, hj, h⟩
    · rintro ⟨j, hj, h⟩; exact ⟨j, hj, by rw [List.take_take, Nat.min_eq_left hj]; exact h⟩
  rw [Bool.eq_iff_iff, e k hk, Bool.or_eq_true, Bool.and_eq_true, decide_eq_true_eq, e (k - 1) (by omega)]
  constructor
  · rintro ⟨j, hj, h⟩
    by_cases hjk : j = k
    · subst hjk; exact Or.inl h
    · exact Or.inr ⟨by omega, j, by omega, h⟩
  · rintro (h | ⟨_, j, hj, h⟩)
    · exact ⟨k, Nat.le_refl _, h⟩
    · exact ⟨j, by omega, h⟩
theorem st_lit {p s : List UInt8} {i k : Nat} {c : UInt8} (h : p[i]? = some c) (hc : c ≠ 42) (hk : k ≤ s.length) : st p s (i + 1) k = true ↔ 0 < k ∧ st p s i (k - 1) = true ∧ s[k - 1]? = some c := by
  unfold st
  rw [take_next h, mb_snoc_lit hc]
  constructor
  · rintro ⟨t, ht, h⟩
    have hl := congrArg List.length ht
    rw [List.length_take, List.length_append, List.length_cons, List.length_nil, Nat.min_eq_left hk] at hl
    have hk0 : k = (k - 1) + 1 := by omega
    have h2 : s.take k = s.take (k - 1) ++ [s[k - 1]'(by omega)] := by
      conv => lhs; rw [hk0]
      rw [List.take_succ_eq_append_getElem (by omega)]
    rw [h2] at ht
    obtain ⟨h3, h4⟩ := List.append_inj' ht rfl
    injection h4 with h4
    refine ⟨by omega, by rw [h3]; exact h, ?_⟩
    rw [List.getElem?_eq_getElem (by omega), h4]
  · rintro ⟨hk0, h1, h2⟩
    obtain ⟨h3, h4⟩ := List.getElem?_eq_some_iff.1 h2
    refine ⟨s.take (k - 1), ?_, h1⟩
    have hk0' : k = (k - 1) + 1 := by omega
    conv => lhs; rw [hk0']
    rw [List.take_succ_eq_append_getElem h3, h4]
theorem st_whole (p s : List UInt8) : st p s p.length s.length = mb p s := by unfold st; rw [List.take_length, List.take_length]
theorem st_open (p s : List UInt8) : mb (p ++ [42]) s = true ↔ ∃ k, k ≤ s.length ∧ st p s p.length k = true := by
  rw [mb_snoc_star]
  unfold st
  rw [List.take_length]
theorem dl_get (x : ByteArray) (i : Nat) (h : i < x.size) : (dl x)[i]? = some (x[i]'h) := by
  unfold dl
  rw [List.getElem?_eq_getElem (by rw [← Lib.size_eq]; exact h)]
  rfl
theorem dl_len (x : ByteArray) : (dl x).length = x.size := (Lib.size_eq x).symm
/-- The inner loop's row: filled up to k. -/
def upTo (k : Nat) (f : Nat → Bool) : Nat → Bool := fun j => decide (j < k) && f j
structure InG (p s : ByteArray) (w wr : World) (i k g g2 : Nat) : Prop where
  at_ : Box wr g (rowC s.size (st (dl p) (dl s) i)) 4
  next : Box wr g2 (rowC s.size (upTo k (st (dl p) (dl s) (i + 1)))) 4
  bel : Below w.heap.size w wr
structure OutG (p s : ByteArray) (w wr : World) (i g : Nat) : Prop where
  at_ : Box wr g (rowC s.size (st (dl p) (dl s) i)) 4
  bel : Below w.heap.size w wr
theorem InG.store {p s : ByteArray} {w wr : World} {i k g g2 : Nat} (h : InG p s w wr i k g g2) (hg : g ≠ g2) (hB : w.heap.size ≤ g2) (hk : k ≤ s.size) (b : Bool) (hb : st (dl p) (dl s) (i + 1) k = b) : InG p s w (wr.setCell ⟨g2, k, none⟩ (.bool b)) i (k + 1) g g2 := by
  refine ⟨h.at_.other (a := ⟨g2, k, none⟩) hg _, ?_, h.bel.setCell (p := ⟨g2, k, none⟩) hB _⟩
  have := h.next.set k (.bool b)
  rwa [rowC_set s.size _ (upTo (k + 1) (st (dl p) (dl s) (i + 1))) k b (fun j hj => by
    unfold upTo
    by_cases e : j = k
    · subst e
      rw [if_pos rfl, hb]
      simp
    · rw [if_neg e]
      congr 1
      rw [decide_eq_decide]
      omega)] at this
theorem InG.skip {p s : ByteArray} {w wr : World} {i k g g2 : Nat} (h : InG p s w wr i k g g2) (hb : st (dl p) (dl s) (i + 1) k = false) : InG p s w wr i (k + 1) g g2 := by
  refine ⟨h.at_, ?_, h.bel⟩
  rw [rowC_congr s.size (upTo (k + 1) (st (dl p) (dl s) (i + 1))) (upTo k (st (dl p) (dl s) (i + 1))) (fun j hj => by
    unfold upTo
    by_cases e : j = k
    · subst e
      rw [hb]
      simp
    · congr 1
      rw [decide_eq_decide]
      omega)]
  exact h.next
theorem InG.drewN {p s : ByteArray} {w wr : World} {i k g g2 : Nat} (h : InG p s w wr i k g g2) (n : Nat) : InG p s w (wr.drewN n) i k g g2 := ⟨h.at_.drewN n, h.next.drewN n, below_drewN h.bel n⟩
end Go.Proofs.YtodlecjbpmggiaaGreatDoor
