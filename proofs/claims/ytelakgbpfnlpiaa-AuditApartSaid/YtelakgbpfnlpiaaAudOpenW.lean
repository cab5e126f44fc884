/- Events that came in, whose hosts are no longer than what may come in. -/
import Derived.Test.YtelakgbpfnlpiaaAudOpen
import Derived.Test.YtelakgbpfnlpiaaDeepW
namespace Go.Proofs.Ytelakgbpfnlpiaa
open Go.RowKit
set_option linter.unusedVariables false
set_option linter.unusedSimpArgs false

section
open Go.Joins Go.Deep Go.WideShapes
variable {H : Type} {enc : TypeId × Value → H} {w : World} {base b0 : Nat} {held : Bool} {rr : Reach}
def IsEvsW (w : World) (x : Option Addr × Nat × Nat) : Prop := ∃ es : List Ev, es.length = x.2.1 ∧ es.length ≤ maxLen ∧ x.2.1 ≤ x.2.2 ∧ Rd w x.1 es ∧ ∀ e, e ∈ es → EvOk e ∧ e.host.size ≤ reachBytes
theorem open_evsw {v : Value} {d : DataW H} {p : List MemPlace} (hv : Value.okWide Try.prog w rr b0 52 v) (hd : DataW.Trod enc Try.prog w base (fun _ => true) held 52 v d p) (hwt : ∀ k ∈ d.weights Try.prog 52, k ≤ reachBytes) :
    ∃ x : Option Addr × Nat × Nat, v = .slice x.1 x.2.1 x.2.2 ∧ IsEvsW w x := by
  obtain ⟨a, len, cap, rfl⟩ := okWide_slice Try.underlying52 hv
  refine ⟨(a, len, cap), rfl, ?_⟩
  have h : FitsW enc Try.prog w base (fun _ => true) held reachBytes 52 [.slice a len cap] := by
    obtain ⟨fu, hfu⟩ := hd
    exact ⟨fu, _, hfu, hwt⟩
  obtain ⟨C, ⟨rfl, rfl, rfl⟩ | ⟨x, rfl, hl, hm, hx⟩⟩ := h.elems Try.underlying52 (n := 7) (by kernel_rfl)
  · exact ⟨[], rfl, Nat.zero_le _, Nat.le_refl _, ⟨0, 0, fun h => absurd h (by decide), fun i e hi => by simp at hi⟩, fun e he => by simp at he⟩
  · by_cases h0 : 0 < cap
    · obtain ⟨b, off, rfl, hc⟩ := plain_at (by decide) (fun i hi => ⟨(hx i hi).1, (hx i hi).2.2⟩) h0
      have key : ∀ i, i < cap → ∃ e : Ev, (∀ j v, (evL e)[j]? = some v → (C i)[j]? = some v) ∧ EvOk e ∧ (i < len → e.host.size ≤ reachBytes) := fun i hi => by
        have hr := (hx i hi).2.1.1.struct Try.underlying58 2 2 5 rfl rfl rfl (by kernel_rfl)
        obtain ⟨x0, h0, w0⟩ := (hx i hi).2.1.1.int Try.underlying58 0 0 rfl rfl rfl Try.underlying3 (by kernel_rfl)
        obtain ⟨x1, h1, w1⟩ := (hx i hi).2.1.1.int Try.underlying58 1 1 rfl rfl rfl Try.underlying3 (by kernel_rfl)
        obtain ⟨x2, h2, w2⟩ := hr.int Try.underlying56 0 0 rfl rfl rfl Try.underlying3 (by kernel_rfl)
        obtain ⟨x3, h3, w3⟩ := hr.string Try.underlying56 1 1 rfl rfl rfl Try.underlying9 (by kernel_rfl)
        obtain ⟨x4, h4, w4⟩ := hr.string Try.underlying56 2 2 rfl rfl rfl Try.underlying9 (by kernel_rfl)
        obtain ⟨x5, h5, w5⟩ := hr.int Try.underlying56 3 3 rfl rfl rfl Try.underlying3 (by kernel_rfl)
        obtain ⟨x6, h6, w6⟩ := hr.int Try.underlying56 4 4 rfl rfl rfl Try.underlying3 (by kernel_rfl)
        have hwz : i < len → x3.size ≤ reachBytes := fun hil => by
          obtain ⟨z, hz, wz⟩ := (((hx i hi).2.1.2 hil).struct Try.underlying58 2 2 5 rfl rfl rfl (by kernel_rfl)).string Try.underlying56 1 1 rfl rfl rfl Try.underlying9 (by kernel_rfl)
          rw [h3] at hz
          injection hz with hz
          injection hz with hz
          rw [hz]
          exact wz
        have h2 := sub_at h2
        have h3 := sub_at h3
        have h4 := sub_at h4
        have h5 := sub_at h5
        have h6 := sub_at h6
        refine ⟨⟨x0, x1, x2, x3, x4, x5, x6⟩, fun j v hv => ?_, ⟨in64_of w0, in64_of w1, in64_of w2, w3⟩, hwz⟩
        have hj : j < 7 := (List.getElem?_eq_some_iff.1 hv).1
        match j, hj with
        | 0, _ => cases hv; exact h0
        | 1, _ => cases hv; exact h1
        | 2, _ => cases hv; exact h2
        | 3, _ => cases hv; exact h3
        | 4, _ => cases hv; exact h4
        | 5, _ => cases hv; exact h5
        | 6, _ => cases hv; exact h6
      let E : Nat → Ev := fun i => if hi : i < cap then Classical.choose (key i hi) else ⟨0, 0, 0, ByteArray.empty, ByteArray.empty, 0, 0⟩
      have hE : ∀ i, i < cap → (∀ j v, (evL (E i))[j]? = some v → (C i)[j]? = some v) ∧ EvOk (E i) ∧ (i < len → (E i).host.size ≤ reachBytes) := fun i hi => by
        simp only [E, dif_pos hi]
        exact Classical.choose_spec (key i hi)
      refine ⟨(List.range len).map E, by simp, by simp; omega, hl, ⟨b, off, fun _ => rfl, fun i e hi j v hv => ?_⟩, fun e he => ?_⟩
      · have hil := (List.getElem?_eq_some_iff.1 hi).1
        simp at hil
        have he : E i = e := by simpa [hil] using hi
        subst he
        exact hc i (by omega) j v ((hE i (by omega)).1 j v hv)
      · obtain ⟨i, hi, rfl⟩ := List.mem_map.1 he
        exact ⟨(hE i (by have := List.mem_range.1 hi; omega)).2.1, (hE i (by have := List.mem_range.1 hi; omega)).2.2 (List.mem_range.1 hi)⟩
    · obtain rfl : cap = 0 := by omega
      obtain rfl : len = 0 := by omega
      exact ⟨[], rfl, Nat.zero_le _, Nat.le_refl _, ⟨0, 0, fun h => absurd h (by simp), fun i e hi => by simp at hi⟩, fun e he => by simp at he⟩
end
end Go.Proofs.Ytelakgbpfnlpiaa
