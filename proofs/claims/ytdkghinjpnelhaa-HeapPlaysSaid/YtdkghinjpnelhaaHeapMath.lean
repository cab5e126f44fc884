/- Binary heaps in plain mathematics. No program here. -/
import Derived.WalkKit
namespace Go.Proofs.Ytdkghinjpnelhaa

/-- An entry: a number and its key; which comes first. -/
def lt (x y : Int × Int) : Prop := x.2 < y.2 ∨ x.2 = y.2 ∧ x.1 < y.1
theorem lt_not {x y : Int × Int} (h : lt x y) : ¬ lt y x := by
  unfold lt at *
  omega
theorem nlt_trans {x y z : Int × Int} (h : ¬ lt y x) (h2 : ¬ lt z y) : ¬ lt z x := by
  unfold lt at *
  omega
theorem nlt_lt {x y z : Int × Int} (h : lt x y) (h2 : ¬ lt z y) : ¬ lt z x := nlt_trans (lt_not h) h2

abbrev Ents := List (Int × Int)

def Heaped (es : Ents) : Prop := ∀ i x y, 0 < i → es[i]? = some x → es[(i - 1) / 2]? = some y → ¬ lt x y
def Over (es : Ents) (p : Nat) : Prop := ∀ i x y, 0 < i → 0 < p → (i - 1) / 2 = p → es[i]? = some x → es[(p - 1) / 2]? = some y → ¬ lt x y
def Almost (es : Ents) (p : Nat) : Prop := (∀ i x y, 0 < i → i ≠ p → (i - 1) / 2 ≠ p → es[i]? = some x → es[(i - 1) / 2]? = some y → ¬ lt x y) ∧ Over es p
def Up (es : Ents) (p : Nat) : Prop := (∀ i x y, 0 < i → i ≠ p → es[i]? = some x → es[(i - 1) / 2]? = some y → ¬ lt x y) ∧ Over es p
def Down (es : Ents) (p : Nat) : Prop := (∀ i x y, 0 < i → (i - 1) / 2 ≠ p → es[i]? = some x → es[(i - 1) / 2]? = some y → ¬ lt x y) ∧ Over es p

theorem Up.almost {es : Ents} {p : Nat} (h : Up es p) : Almost es p := ⟨fun i x y h0 h1 _ => h.1 i x y h0 h1, h.2⟩

/-- Two entries change places. -/
def swp (es : Ents) (a b : Nat) (x y : Int × Int) : Ents := (es.set a y).set b x
theorem swp_at {es : Ents} {a b : Nat} {x y : Int × Int} (ha : es[a]? = some x) (hb : es[b]? = some y) (i : Nat) :
    (swp es a b x y)[i]? = if i = b then some x else if i = a then some y else es[i]? := by
  have h1 : a < es.length := (List.getElem?_eq_some_iff.1 ha).1
  have h2 : b < es.length := (List.getElem?_eq_some_iff.1 hb).1
  unfold swp
  rw [List.getElem?_set, List.getElem?_set]
  by_cases e1 : b = i
  · subst e1
    simp [h2]
  · by_cases e2 : a = i
    · subst e2
      simp [h1, e1, Ne.symm e1]
    · simp [e1, e2, Ne.symm e1, Ne.symm e2]
theorem swp_len (es : Ents) (a b : Nat) (x y : Int × Int) : (swp es a b x y).length = es.length := by simp [swp]
theorem swp_mem {es : Ents} {a b : Nat} {x y : Int × Int} (ha : es[a]? = some x) (hb : es[b]? = some y) (z : Int × Int) : z ∈ swp es a b x y ↔ z ∈ es := by
  have key := swp_at ha hb
  constructor
  · intro h
    obtain ⟨i, hi⟩ := List.getElem?_of_mem h
    rw [key] at hi
    split at hi
    · cases hi; exact List.mem_of_getElem? ha
    · split at hi
      · cases hi; exact List.mem_of_getElem? hb
      · exact List.mem_of_getElem? hi
  · intro h
    obtain ⟨i, hi⟩ := List.getElem?_of_mem h
    by_cases e1 : i = a
    · subst e1
      rw [ha] at hi
      cases hi
      exact List.mem_of_getElem? (i := b) (by rw [key]; simp)
    · by_cases e2 : i = b
      · subst e2
        rw [hb] at hi
        cases hi
        by_cases e3 : a = i
        · exact absurd e3.symm e1
        · exact List.mem_of_getElem? (i := a) (by rw [key]; simp [e3])
      · exact List.mem_of_getElem? (i := i) (by rw [key]; simp [e1, e2, hi])

theorem rise_step {es : Ents} {p : Nat} {x y : Int × Int} (h : Almost es p) (hp : 0 < p) (hx : es[p]? = some x) (hy : es[(p - 1) / 2]? = some y) (hl : lt x y) :
    Up (swp es p ((p - 1) / 2) x y) ((p - 1) / 2) := by
  have key := swp_at hx hy
  have hq : (p - 1) / 2 < p := by omega
  obtain ⟨h1, h2⟩ := h
  generalize hqd : (p - 1) / 2 = q at *
  refine ⟨fun i u v hi hiq hu hv => ?_, fun i u v hi hq0 hpi hu hv => ?_⟩
  · rw [key] at hu hv
    rw [if_neg hiq] at hu
    by_cases e : i = p
    · subst e
      rw [if_pos rfl] at hu
      rw [hqd, if_pos rfl] at hv
      cases hu
      cases hv
      exact lt_not hl
    · rw [if_neg e] at hu
      by_cases e1 : (i - 1) / 2 = q
      · rw [if_pos e1] at hv
        cases hv
        exact nlt_lt hl (h1 i u y hi e (by omega) hu (by rw [e1]; exact hy))
      · rw [if_neg e1] at hv
        by_cases e2 : (i - 1) / 2 = p
        · rw [if_pos e2] at hv
          cases hv
          exact h2 i u y hi hp e2 hu (by rw [hqd]; exact hy)
        · rw [if_neg e2] at hv
          exact h1 i u v hi e e2 hu hv
  · rw [key] at hu hv
    rw [if_neg (by omega), if_neg (by omega)] at hv
    have hz : ¬ lt y v := h1 q y v hq0 (by omega) (by omega) hy hv
    rw [if_neg (by omega)] at hu
    by_cases e : i = p
    · rw [if_pos e] at hu
      cases hu
      exact hz
    · rw [if_neg e] at hu
      exact nlt_trans hz (h1 i u y hi e (by omega) hu (by rw [hpi]; exact hy))

theorem up_end {es : Ents} {p : Nat} (h : Up es p) (he : p = 0 ∨ ∀ x y, es[p]? = some x → es[(p - 1) / 2]? = some y → ¬ lt x y) : Heaped es := by
  intro i x y hi hx hy
  by_cases e : i = p
  · subst e
    rcases he with he | he
    · omega
    · exact he x y hx hy
  · exact h.1 i x y hi e hx hy
theorem almost_end {es : Ents} {p : Nat} (h : Almost es p) (he : p = 0 ∨ ∀ x y, es[p]? = some x → es[(p - 1) / 2]? = some y → ¬ lt x y) : Down es p := by
  refine ⟨fun i x y hi hj hx hy => ?_, h.2⟩
  by_cases e : i = p
  · subst e
    rcases he with he | he
    · omega
    · exact he x y hx hy
  · exact h.1 i x y hi e hj hx hy

theorem sink_step {es : Ents} {p c : Nat} {x y : Int × Int} (h : Down es p) (hc0 : 0 < c) (hcp : (c - 1) / 2 = p) (hx : es[p]? = some x) (hy : es[c]? = some y) (hl : lt y x)
    (ho : ∀ o u, 0 < o → (o - 1) / 2 = p → es[o]? = some u → ¬ lt u y) : Down (swp es p c x y) c := by
  have key := swp_at hx hy
  obtain ⟨h1, h2⟩ := h
  refine ⟨fun i u v hi hj hu hv => ?_, fun i u v hi _ hpi hu hv => ?_⟩
  · rw [key] at hu hv
    rw [if_neg hj] at hv
    by_cases e : i = c
    · subst e
      rw [if_pos rfl] at hu
      rw [if_pos hcp] at hv
      cases hu
      cases hv
      exact lt_not hl
    · rw [if_neg e] at hu
      by_cases e1 : i = p
      · subst e1
        rw [if_pos rfl] at hu
        rw [if_neg (by omega)] at hv
        cases hu
        exact h2 c y v hc0 hi hcp hy hv
      · rw [if_neg e1] at hu
        by_cases e2 : (i - 1) / 2 = p
        · rw [if_pos e2] at hv
          cases hv
          exact ho i u hi e2 hu
        · rw [if_neg e2] at hv
          exact h1 i u v hi e2 hu hv
  · rw [key] at hu hv
    rw [hcp, if_neg (by omega), if_pos rfl] at hv
    cases hv
    rw [if_neg (by omega), if_neg (by omega)] at hu
    exact h1 i u y hi (by omega) hu (by rw [hpi]; exact hy)
theorem down_end {es : Ents} {p : Nat} (h : Down es p) (he : ∀ i x y, 0 < i → (i - 1) / 2 = p → es[i]? = some x → es[p]? = some y → ¬ lt x y) : Heaped es := by
  intro i x y hi hx hy
  by_cases e : (i - 1) / 2 = p
  · exact he i x y hi e hx (by rw [← e]; exact hy)
  · exact h.1 i x y hi e hx hy

theorem set_almost {es : Ents} (h : Heaped es) (p : Nat) (e : Int × Int) : Almost (es.set p e) p := by
  refine ⟨fun i x y hi h1 h2 hx hy => ?_, fun i x y hi hp hj hx hy => ?_⟩
  · rw [List.getElem?_set, if_neg (Ne.symm h1)] at hx
    rw [List.getElem?_set, if_neg (Ne.symm h2)] at hy
    exact h i x y hi hx hy
  · rw [List.getElem?_set, if_neg (by omega)] at hx
    rw [List.getElem?_set, if_neg (by omega)] at hy
    have hlt : i < es.length := (List.getElem?_eq_some_iff.1 hx).1
    have hz : es[p]? = some es[p] := List.getElem?_eq_getElem (by omega)
    exact nlt_trans (h p _ y hp hz hy) (h i x _ hi hx (by rw [hj]; exact hz))
theorem new_almost {es : Ents} (h : Heaped es) (e : Int × Int) : Almost (es ++ [e]) es.length := by
  have hs : ∀ i (x : Int × Int), (es ++ [e])[i]? = some x → i ≠ es.length → es[i]? = some x := by
    intro i x hx hi
    rw [List.getElem?_append] at hx
    split at hx
    · exact hx
    · have := (List.getElem?_eq_some_iff.1 hx).1
      simp at this
      omega
  refine ⟨fun i x y hi h1 h2 hx hy => h i x y hi (hs _ _ hx h1) (hs _ _ hy h2), fun i x y hi hp hj hx hy => ?_⟩
  have := (List.getElem?_eq_some_iff.1 hx).1
  simp at this
  omega
theorem take_heaped {es : Ents} (h : Heaped es) (n : Nat) : Heaped (es.take n) := by
  intro i x y hi hx hy
  rw [List.getElem?_take] at hx hy
  split at hx
  · split at hy
    · exact h i x y hi hx hy
    · cases hy
  · cases hx
theorem heaped_min {es : Ents} (h : Heaped es) {z : Int × Int} (hz : es[0]? = some z) : ∀ (i : Nat) (x : Int × Int), es[i]? = some x → ¬ lt x z := by
  intro i
  induction i using Nat.strongRecOn with
  | ind i ih =>
    intro x hx
    by_cases e : i = 0
    · subst e
      rw [hz] at hx
      cases hx
      unfold lt
      omega
    · have hlt : i < es.length := (List.getElem?_eq_some_iff.1 hx).1
      have hy : es[(i - 1) / 2]? = some es[(i - 1) / 2] := List.getElem?_eq_getElem (by omega)
      exact nlt_trans (ih _ (by omega) _ hy) (h i x _ (by omega) hx hy)

/-- How many binary digits a number has. -/
def digs (n : Nat) : Nat := if h : n = 0 then 0 else digs (n / 2) + 1
termination_by n
decreasing_by omega
theorem digs_zero : digs 0 = 0 := by rw [digs]; simp
theorem digs_pos {n : Nat} (h : 0 < n) : digs n = digs (n / 2) + 1 := by rw [digs]; simp [Nat.ne_of_gt h]
theorem digs_up {a b : Nat} (h : a / 2 = b) (hb : 0 < b) : digs a = digs b + 1 := by
  rw [digs_pos (by omega), h]
theorem digs_mono : ∀ {b a : Nat}, a ≤ b → digs a ≤ digs b := by
  intro b
  induction b using Nat.strongRecOn with
  | ind b ih =>
    intro a h
    by_cases e : a = 0
    · subst e; rw [digs_zero]; omega
    · rw [digs_pos (n := a) (by omega), digs_pos (n := b) (by omega)]
      have := ih (b / 2) (by omega) (a := a / 2) (by omega)
      omega
theorem digs_one {n : Nat} (h : 0 < n) : 1 ≤ digs n := by rw [digs_pos h]; omega
theorem digs_le (n : Nat) : digs n ≤ n := by
  induction n using Nat.strongRecOn with
  | ind n ih =>
    by_cases e : n = 0
    · subst e; rw [digs_zero]; omega
    · rw [digs_pos (by omega)]
      have := ih (n / 2) (by omega)
      omega

end Go.Proofs.Ytdkghinjpnelhaa
