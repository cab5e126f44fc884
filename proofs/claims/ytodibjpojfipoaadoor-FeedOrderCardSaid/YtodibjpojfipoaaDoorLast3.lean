/- Three operations that may come up in a region that draws its order. No program here. -/
import Derived.Test.YtodibjpojfipoaaDoorLast
namespace Go.Proofs.YtodibjpojfipoaaDoor
open Go
section
variable {P : Program} {ops : Array Oper} {Q : Exit → Act → World → Prop} {md : Region.Mode} {S : World → Prop} {k : Nat}
/-- Three may come up. -/
theorem wpAnyL_three {i j l : Nat} {oi oj ol : Oper} {fuel : Nat} {listed : Array Bool} {a : Act} {w : World} (hi : ops[i]? = some oi) (hj : ops[j]? = some oj) (hl : ops[l]? = some ol) (hr : Region.ready md ops listed = [i, j, l]) (hik : (i == k) = false) (hjk : (j == k) = false) (hlk : (l == k) = false) (hc : Closed md ops listed)
    (h : ∀ K' : Act → World → Prop, Shut (∀ a w, S w → (Closed md ops (listed.setIfInBounds i true) → S w → wpAnyL P md ops Q S k fuel (listed.setIfInBounds i true) a w) → K' a w) → if Region.wanted oi (yielded ops a.tmps) = true then Oper.wp P oi a w K' Q else K' (a.put oi.dst undef) w)
    (h2 : ∀ K' : Act → World → Prop, Shut (∀ a w, S w → (Closed md ops (listed.setIfInBounds j true) → S w → wpAnyL P md ops Q S k fuel (listed.setIfInBounds j true) a w) → K' a w) → if Region.wanted oj (yielded ops a.tmps) = true then Oper.wp P oj a w K' Q else K' (a.put oj.dst undef) w)
    (h3 : ∀ K' : Act → World → Prop, Shut (∀ a w, S w → (Closed md ops (listed.setIfInBounds l true) → S w → wpAnyL P md ops Q S k fuel (listed.setIfInBounds l true) a w) → K' a w) → if Region.wanted ol (yielded ops a.tmps) = true then Oper.wp P ol a w K' Q else K' (a.put ol.dst undef) w) :
    wpAnyL P md ops Q S k (fuel + 1) listed a w := by
  refine ⟨fun h0 => (by rw [hr] at h0; cases h0), fun m hm => ?_⟩
  have hcm := hc.step hm
  rw [hr] at hm
  rcases (by simpa using hm : m = i ∨ m = j ∨ m = l) with rfl | rfl | rfl
  · exact wpOp_step hi (fun K' hK => h K' (fun a w hS hW => hK a w ⟨fun _ => hS, hW hcm hS⟩))
  · exact wpOp_step hj (fun K' hK => h2 K' (fun a w hS hW => hK a w ⟨fun _ => hS, hW hcm hS⟩))
  · exact wpOp_step hl (fun K' hK => h3 K' (fun a w hS hW => hK a w ⟨fun _ => hS, hW hcm hS⟩))
end
end Go.Proofs.YtodibjpojfipoaaDoor
