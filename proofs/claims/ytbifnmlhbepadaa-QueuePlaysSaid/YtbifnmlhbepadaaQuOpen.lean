/- Requests that came in. -/
import Derived.Test.YtbifnmlhbepadaaQuMem
import Derived.Test.YtbifnmlhbepadaaDeep
namespace Go.Proofs.Ytbifnmlhbepadaa
open Go Go.RowKit
open Go.Joins Go.Deep Go.WideShapes
set_option linter.unusedVariables false
set_option maxRecDepth 100000
section
variable {H : Type} {enc : TypeId × Value → H} {w : World} {base b0 : Nat} {held : Bool} {rr : Reach}
theorem qu_arr {cs : Array Value} {l : List Value} (hl : cs.size = l.length) (h : ∀ i, i < l.length → cs.toList[i]? = l[i]?) : cs = l.toArray := by
  apply Array.ext'
  apply List.ext_getElem?
  intro i
  by_cases hi : i < l.length
  · simpa using h i hi
  · rw [List.getElem?_eq_none (by simp; omega), List.getElem?_eq_none (by simpa using hi)]
theorem req_of {cs : List Value} (hr : Fits enc Try.prog w base (fun _ => true) held 27 cs) : ∃ r : Rq, ∀ (j : Nat) (v : Value), (rqL r)[j]? = some v → cs[j]? = some v := by
  obtain ⟨x1, h1, w1⟩ := hr.int Try.underlying27 0 0 rfl rfl rfl Try.underlying3 (by kernel_rfl)
  obtain ⟨x2, h2, w2⟩ := hr.string Try.underlying27 1 1 rfl rfl rfl Try.underlying9 (by kernel_rfl)
  obtain ⟨x3, h3, w3⟩ := hr.string Try.underlying27 2 2 rfl rfl rfl Try.underlying9 (by kernel_rfl)
  obtain ⟨x4, h4, w4⟩ := hr.int Try.underlying27 3 3 rfl rfl rfl Try.underlying3 (by kernel_rfl)
  obtain ⟨x5, h5, w5⟩ := hr.int Try.underlying27 4 4 rfl rfl rfl Try.underlying3 (by kernel_rfl)
  refine ⟨⟨x1, x2, x3, x4, x5⟩, fun j v hv => ?_⟩
  have hj : j < 5 := (List.getElem?_eq_some_iff.1 hv).1
  match j, hj with
  | 0, _ => cases hv; exact h1
  | 1, _ => cases hv; exact h2
  | 2, _ => cases hv; exact h3
  | 3, _ => cases hv; exact h4
  | 4, _ => cases hv; exact h5
theorem open_req {v : Value} {d : DataW H} {p : List MemPlace} (hv : Value.okWide Try.prog w rr b0 27 v) (hd : DataW.Trod enc Try.prog w base (fun _ => true) held 27 v d p) :
    ∃ r : Rq, v = .agg (rqA r) ∧ True := by
  obtain ⟨cs, rfl, hsz⟩ := okWide_struct Try.underlying27 hv
  have h := Fits.of hd
  obtain ⟨r, hr⟩ := req_of h
  refine ⟨r, congrArg Value.agg (qu_arr (l := rqL r) (hsz.trans (by kernel_rfl)) fun i hi => ?_), trivial⟩
  have := hr i _ (List.getElem?_eq_getElem hi)
  rw [List.getElem?_eq_getElem hi]
  exact this
end
end Go.Proofs.Ytbifnmlhbepadaa
