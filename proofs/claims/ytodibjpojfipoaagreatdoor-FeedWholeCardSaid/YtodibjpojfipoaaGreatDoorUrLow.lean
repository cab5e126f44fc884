/- Bytes of a text in a block of one's own, changed in place. -/
import Derived.Test.YtodibjpojfipoaaGreatDoorUrMath
import Derived.Test.YtodibjpojfipoaaGreatDoorRowB
import Derived.Test.YtodibjpojfipoaaGreatDoorBox
import Derived.Laws.IdiomStrings
namespace Go.Proofs.YtodibjpojfipoaaGreatDoor
open Go.RowKit
set_option linter.unusedVariables false
set_option linter.unusedSimpArgs false

/-- Block g begins with these bytes, and they may be written. -/
def ByAt (w : World) (g : Nat) (l : List Int) : Prop := ∃ (cs : Array Value) (t : TypeId) (f0 f1 : Nat), w.heap[g]? = some (.cells cs t (f0, f1)) ∧ (∀ (i : Nat) (c : Int), l[i]? = some c → cs[i]? = some (Value.int .u8 c)) ∧ l.length ≤ f0
theorem ByAt.lt {w : World} {g : Nat} {l : List Int} (h : ByAt w g l) : g < w.heap.size := by
  obtain ⟨cs, t, f0, f1, h, _⟩ := h
  exact lt_of_block h
theorem ByAt.cell {w : World} {g : Nat} {l : List Int} (h : ByAt w g l) (i : Nat) (c : Int) (hi : l[i]? = some c) : w.cell? ⟨g, i, none⟩ = some (.int .u8 c) := by
  obtain ⟨cs, t, f0, f1, h, hc, _⟩ := h
  have := hc i c hi
  simp [World.cell?, h, this]
theorem ByAt.free {w : World} {g : Nat} {l : List Int} (h : ByAt w g l) (i : Nat) (hi : i < l.length) : w.frozen? ⟨g, i, none⟩ = false := by
  obtain ⟨cs, t, f0, f1, h, _, hf⟩ := h
  simp [World.frozen?, h]
  omega
theorem ByAt.drew {w : World} {g : Nat} {l : List Int} (h : ByAt w g l) : ByAt w.drew g l := h
theorem ByAt.later {w w' : World} {g : Nat} {l : List Int} (h : ByAt w g l) (hb : Below w.heap.size w w') : ByAt w' g l := by
  obtain ⟨cs, t, f0, f1, h1, h2, h3⟩ := h
  exact ⟨cs, t, f0, f1, (hb.block g (lt_of_block h1)).trans h1, h2, h3⟩
theorem ByAt.set {w : World} {g : Nat} {l : List Int} (h : ByAt w g l) (i : Nat) (v : Int) : ByAt (w.setCell ⟨g, i, none⟩ (.int .u8 v)) g (l.set i v) := by
  obtain ⟨cs, t, f0, f1, h1, h2, h3⟩ := h
  have hlt := lt_of_block h1
  refine ⟨cs.setIfInBounds i (.int .u8 v), t, f0, f1, ?_, fun j c hj => ?_, by simpa using h3⟩
  · have h' : w.heap[g] = .cells cs t (f0, f1) := by simpa [Array.getElem?_eq_getElem hlt] using h1
    show (w.heap.modify g _)[g]? = _
    rw [Array.getElem?_eq_getElem (by simpa using hlt), Array.getElem_modify_self, h']
    rfl
  · have hjl : j < l.length := by simpa using (List.getElem?_eq_some_iff.1 hj).1
    have hcs := h2 j _ (List.getElem?_eq_getElem hjl)
    have hsz := (Array.getElem?_eq_some_iff.1 hcs).1
    by_cases e : i = j
    · subst e
      rw [List.getElem?_set_self hjl] at hj
      injection hj with hj
      subst hj
      rw [Array.getElem?_setIfInBounds_self_of_lt hsz]
    · rw [List.getElem?_set_ne e] at hj
      rw [Array.getElem?_setIfInBounds_ne e]
      exact h2 j c hj
theorem ByAt.rd {w : World} {g : Nat} {l : List Int} (h : ByAt w g l) : RdB w (some ⟨g, 0, none⟩) l :=
  Or.inr ⟨g, 0, rfl, fun i c hi => by rw [Nat.zero_add]; exact h.cell i c hi⟩
theorem ByAt.new (w : World) (s : ByteArray) (cap : Nat) (t : TypeId) : ByAt (w.alloc (.cells (bytesRow s cap) t ((bytesRow s cap).size, (bytesRow s cap).size + 1))) w.heap.size (btL s) := by
  refine ⟨bytesRow s cap, t, _, _, heap_alloc_new w _, fun i c hi => ?_, ?_⟩
  · unfold btL at hi
    rw [List.getElem?_map] at hi
    have hlt : i < s.data.size := by
      cases hx : s.data.toList[i]? with
      | none => rw [hx] at hi; cases hi
      | some x => simpa using (List.getElem?_eq_some_iff.1 hx).1
    unfold bytesRow
    rw [Array.getElem?_append_left (by simpa using hlt), Array.getElem?_map]
    rw [Array.getElem?_toList] at hi
    cases hx : s.data[i]? with
    | none => rw [hx] at hi; cases hi
    | some x =>
      rw [hx] at hi
      injection hi with hi
      subst hi
      rfl
  · rw [btL_length]
    unfold bytesRow
    rw [Array.size_append, Array.size_map]
    exact Nat.le_add_right _ _
def lowB (s : ByteArray) : ByteArray := strL ((btL s).map lwI)
end Go.Proofs.YtodibjpojfipoaaGreatDoor
