/- TaleReads: a text, line by line. -/
import Derived.Test.YtbfdklmljcdonaaDoorTlAwk2
namespace Go.Proofs.YtbfdklmljcdonaaDoor
open Go Go.RowKit
set_option linter.unusedVariables false
set_option linter.unusedSimpArgs false
set_option maxRecDepth 10000

theorem lnl_nil : lnl [] = [] := by
  have := lnl_len []
  exact List.eq_nil_of_length_eq_zero (by simpa using this)
theorem lnl_at (l : Bt) (i : Nat) (hl : l ≠ []) (hi : i ≤ l.length) (hno : ∀ j, j < i → l[j]? ≠ some 10) (hend : i = l.length ∨ l[i]? = some 10) : lnl l = l.take i :: lnl (l.drop (i + 1)) := by
  have hn : (10 : UInt8) ∉ l.take i := fun hm => by
    obtain ⟨j, hj⟩ := List.mem_iff_getElem?.1 hm
    have hji : j < i := by
      have := (List.getElem?_eq_some_iff.1 hj).1
      rw [List.length_take] at this
      omega
    rw [List.getElem?_take_of_lt hji] at hj
    exact hno j hji hj
  rcases hend with h | h
  · rw [h, List.take_of_length_le (Nat.le_refl _), List.drop_eq_nil_of_le (by omega), lnl_nil, lnl_last l hl]
    rw [h, List.take_of_length_le (Nat.le_refl _)] at hn
    exact hn
  · obtain ⟨hlt, hv⟩ := List.getElem?_eq_some_iff.1 h
    have e : l = l.take i ++ 10 :: l.drop (i + 1) := by
      have := (List.take_append_drop i l).symm
      rw [List.drop_eq_getElem_cons hlt, hv] at this
      exact this
    have := lnl_word (l.take i) (l.drop (i + 1)) hn
    rw [← e] at this
    exact this
/-- Where the reading of a text stands: so many lines done, from here on. -/
def AtL (x : ByteArray) (k f : Nat) : Prop := k ≤ f ∧ f ≤ x.size + 1 ∧ lnl ((bl x).drop f) = (lnl (bl x)).drop k
theorem AtL.start (x : ByteArray) : AtL x 0 0 := ⟨Nat.le_refl _, Nat.zero_le _, rfl⟩
theorem AtL.fin {x : ByteArray} {k f : Nat} (h : AtL x k f) (hf : ¬ f < x.size) : (lnB x).length ≤ k := by
  obtain ⟨_, _, h3⟩ := h
  rw [List.drop_eq_nil_of_le (by rw [bl_len]; omega), lnl_nil] at h3
  have := congrArg List.length h3
  rw [List.length_drop] at this
  unfold lnB
  rw [List.length_map]
  simp at this
  omega
theorem AtL.step {x : ByteArray} {k f e : Nat} (h : AtL x k f) (hf : f < x.size) (hfe : f ≤ e) (hex : e ≤ x.size) (hno : ∀ j, f ≤ j → j < e → (bl x)[j]? ≠ some 10) (hend : e = x.size ∨ (bl x)[e]? = some 10) :
    AtL x (k + 1) (e + 1) ∧ (lnB x)[k]? = some (stB (((bl x).drop f).take (e - f))) := by
  obtain ⟨h1, h2, h3⟩ := h
  have hd := lnl_at ((bl x).drop f) (e - f) (fun hn => by have := congrArg List.length hn; rw [List.length_drop, bl_len] at this; simp at this; omega) (by rw [List.length_drop, bl_len]; omega)
    (fun j hj => by rw [List.getElem?_drop]; exact hno (f + j) (by omega) (by omega))
    (by
      rcases hend with h | h
      · left; rw [List.length_drop, bl_len]; omega
      · right; rw [List.getElem?_drop, show f + (e - f) = e by omega]; exact h)
  rw [h3, List.drop_drop, show f + (e - f + 1) = e + 1 by omega] at hd
  have hk : (lnl (bl x))[k]? = some (((bl x).drop f).take (e - f)) := by
    have := congrArg (·[0]?) hd
    simpa [List.getElem?_drop] using this
  refine ⟨⟨by omega, by omega, ?_⟩, by unfold lnB; rw [List.getElem?_map, hk]; rfl⟩
  have := congrArg (List.drop 1) hd
  rw [List.drop_drop] at this
  simpa using this.symm
theorem bl_extract (x : ByteArray) (f e : Nat) : x.extract f e = stB (((bl x).drop f).take (e - f)) := by
  unfold stB bl
  apply ByteArray.ext
  rw [ByteArray.data_extract]
  apply Array.ext'
  rw [Array.toList_extract, List.extract_eq_take_drop]
/-- What Read came to, as the loop needs it. -/
def Good (x : ByteArray) (ys : List Yv) (k : Nat) (y : ByteArray) : Prop := (lnB x)[k]? = some y → ∃ v, ys[k]? = some v ∧ stepS (bl y) = some (spOf v.y)
theorem good_at {x : ByteArray} {ys : List Yv} (h : (lnB x).map (fun x => stepS (bl x)) = ys.map (fun v => some (spOf v.y))) (k : Nat) (y : ByteArray) : Good x ys k y := fun hk => by
  have := congrArg (·[k]?) h
  simp only [List.getElem?_map, hk, Option.map_some] at this
  cases hv : ys[k]? with
  | none => rw [hv] at this; cases this
  | some v => rw [hv] at this; exact ⟨v, rfl, Option.some.inj this⟩
theorem yV_at : ∀ {ys : List Yv} {i : Nat} {v : Yv}, ys[i]? = some v → ∀ j u, (yL v)[j]? = some u → (yV ys)[i * 6 + j]? = some u
  | x :: ys, 0, v, hi, j, u, hj => by
    injection hi with hi
    subst hi
    have hl : j < (yL x).length := (List.getElem?_eq_some_iff.1 hj).1
    show (yL x ++ yV ys)[0 * 6 + j]? = _
    rw [Nat.zero_mul, Nat.zero_add, List.getElem?_append_left hl]
    exact hj
  | x :: ys, i + 1, v, hi, j, u, hj => by
    have ih := yV_at (ys := ys) (i := i) (by simpa using hi) j u hj
    have hl : (yL x).length = 6 := rfl
    show (yL x ++ yV ys)[(i + 1) * 6 + j]? = _
    rw [List.getElem?_append_right (by omega), hl, show (i + 1) * 6 + j - 6 = i * 6 + j by omega]
    exact ih
end Go.Proofs.YtbfdklmljcdonaaDoor
