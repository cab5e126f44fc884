/- Rules of a host that came in. -/
import Derived.Test.YtodlecjbpmggiaaGreatDoorMtRule
import Derived.Test.YtodlecjbpmggiaaGreatDoorDeep
namespace Go.Proofs.YtodlecjbpmggiaaGreatDoor
open Go.RowKit
set_option linter.unusedVariables false
set_option linter.unusedSimpArgs false
set_option maxRecDepth 100000

/-- What a slice of rules is. -/
def IsRls (w : World) (x : Option Addr × Nat × Nat) : Prop := ∃ es : List Rl, es.length = x.2.1 ∧ x.2.2 ≤ maxLen ∧ x.2.1 ≤ x.2.2 ∧ RdR w x.1 es ∧ ∀ e, e ∈ es → e.pat.size ≤ maxLen
section
open Go.Joins Go.Deep Go.WideShapes
variable {H : Type} {enc : TypeId × Value → H} {w : World} {base b0 : Nat} {held : Bool} {rr : Reach}
theorem rules_of {a : Option Addr} {len cap : Nat} (h : Fits enc Tryz.prog w base (fun _ => true) held 24 [.slice a len cap]) : IsRls w (a, len, cap) := by
  obtain ⟨C, ⟨rfl, rfl, rfl⟩ | ⟨x, rfl, hl, hm, hx⟩⟩ := h.elems Tryz.underlying24 (n := 2) (by kernel_rfl)
  · exact ⟨[], rfl, Nat.zero_le _, Nat.le_refl _, RdR.nil _ _, fun e he => by simp at he⟩
  · by_cases h0 : 0 < cap
    · obtain ⟨b, off, rfl, hc⟩ := plain_at (by decide) (fun i hi => ⟨(hx i hi).1, (hx i hi).2.2⟩) h0
      have key : ∀ i, i < cap → ∃ e : Rl, (∀ j v, (rlL e)[j]? = some v → (C i)[j]? = some v) ∧ e.pat.size ≤ maxLen := fun i hi => by
        obtain ⟨x0, h0⟩ := (hx i hi).2.1.bool Tryz.underlying30 0 0 rfl rfl rfl Tryz.underlying4 (by kernel_rfl)
        obtain ⟨x1, h1, w1⟩ := (hx i hi).2.1.string Tryz.underlying30 1 1 rfl rfl rfl Tryz.underlying9 (by kernel_rfl)
        refine ⟨⟨x0, x1⟩, fun j v hv => ?_, w1⟩
        have hj : j < 2 := (List.getElem?_eq_some_iff.1 hv).1
        match j, hj with
        | 0, _ => cases hv; exact h0
        | 1, _ => cases hv; exact h1
      let E : Nat → Rl := fun i => if hi : i < cap then Classical.choose (key i hi) else ⟨false, ByteArray.empty⟩
      have hE : ∀ i, i < cap → (∀ j v, (rlL (E i))[j]? = some v → (C i)[j]? = some v) ∧ (E i).pat.size ≤ maxLen := fun i hi => by
        simp only [E, dif_pos hi]
        exact Classical.choose_spec (key i hi)
      refine ⟨(List.range len).map E, by simp, hm, hl, ⟨b, off, fun _ => rfl, fun i e hi => ?_⟩, fun e he => ?_⟩
      · have hil := (List.getElem?_eq_some_iff.1 hi).1
        simp at hil
        have he : E i = e := by simpa [hil] using hi
        subst he
        have h1 := hc i (by omega) 0 _ ((hE i (by omega)).1 0 _ rfl)
        have h2 := hc i (by omega) 1 _ ((hE i (by omega)).1 1 _ rfl)
        exact ⟨by simpa using h1, by simpa using h2⟩
      · obtain ⟨i, hi, rfl⟩ := List.mem_map.1 he
        exact (hE i (by have := List.mem_range.1 hi; omega)).2
    · obtain rfl : cap = 0 := by omega
      obtain rfl : len = 0 := by omega
      exact ⟨[], rfl, Nat.zero_le _, Nat.le_refl _, RdR.nil _ _, fun e he => by simp at he⟩
theorem arr_of {cs : Array Value} {l : List Value} (hsz : cs.size = l.length) (h : ∀ i, (hi : i < l.length) → cs.toList[i]? = some l[i]) : cs = l.toArray := by
  apply Array.ext'
  simp only
  apply List.ext_getElem?
  intro i
  by_cases hi : i < l.length
  · rw [List.getElem?_eq_getElem hi]; exact h i hi
  · rw [List.getElem?_eq_none (by simp; omega), List.getElem?_eq_none (by simpa using hi)]
structure RbX where
  all : Bool
  no : Bool
  ra : Option Addr
  rl : Nat
  rc : Nat
  d : Int
theorem open_robots {v : Value} {d : DataW H} {p : List MemPlace} (hv : Value.okWide Tryz.prog w rr b0 26 v) (hd : DataW.Trod enc Tryz.prog w base (fun _ => true) held 26 v d p) :
    ∃ r : RbX, v = .agg #[.bool r.all, .bool r.no, .slice r.ra r.rl r.rc, .int .i64 r.d] ∧ IsRls w (r.ra, r.rl, r.rc) := by
  obtain ⟨cs, rfl, hsz⟩ := okWide_struct Tryz.underlying26 hv
  have hr := Fits.of hd
  obtain ⟨x0, h0⟩ := hr.bool Tryz.underlying26 0 0 rfl rfl rfl Tryz.underlying4 (by kernel_rfl)
  obtain ⟨x1, h1⟩ := hr.bool Tryz.underlying26 1 1 rfl rfl rfl Tryz.underlying4 (by kernel_rfl)
  obtain ⟨ra, rl, rc, h2, hs⟩ := hr.slice Tryz.underlying26 2 2 rfl rfl rfl Tryz.underlying24 (by kernel_rfl)
  obtain ⟨x3, h3, _⟩ := hr.int Tryz.underlying26 3 3 rfl rfl rfl Tryz.underlying3 (by kernel_rfl)
  refine ⟨⟨x0, x1, ra, rl, rc, x3⟩, congrArg Value.agg (arr_of (l := [.bool x0, .bool x1, .slice ra rl rc, .int .i64 x3]) (hsz.trans (by kernel_rfl)) fun i hi => ?_), rules_of hs⟩
  match i, hi with
  | 0, _ => exact h0
  | 1, _ => exact h1
  | 2, _ => exact h2
  | 3, _ => exact h3
  | n + 4, hi => simp at hi; omega
end
end Go.Proofs.YtodlecjbpmggiaaGreatDoor
