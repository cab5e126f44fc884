/- Records that came in. -/
import Derived.Test.YtndgpdpabjaedaaFrSums
import Derived.Test.YtndgpdpabjaedaaDeep
namespace Go.Proofs.Ytndgpdpabjaedaa
open Go.RowKit
open Go.Joins Go.Deep Go.WideShapes
section
variable {H : Type} {enc : TypeId × Value → H} {w : World} {base b0 : Nat} {held : Bool} {rr : Reach}
def In64 (n : Int) : Prop := -9223372036854775808 ≤ n ∧ n ≤ 9223372036854775807
theorem in64_of {z : Int} (h : (Lit.int .i64 z).wf = true) : In64 z := by
  simp [Lit.wf, IntKind.min, IntKind.max, IntKind.signed, IntKind.bits] at h
  unfold In64
  omega
/-- A record whose numbers fit. -/
def RecOk (r : Rc) : Prop := In64 r.kind ∧ In64 r.id ∧ In64 r.prio ∧ In64 r.till ∧ r.host.size ≤ 9223372036854775807 ∧ r.path.size ≤ 9223372036854775807
theorem RecOk.fit {r : Rc} (h : RecOk r) : FitR r := by
  obtain ⟨_, ⟨_, h2⟩, _, ⟨_, h4⟩, _⟩ := h
  exact ⟨by omega, by omega⟩
theorem arr_eq {cs : Array Value} {l : List Value} (hl : cs.size = l.length) (h : ∀ i, i < l.length → cs.toList[i]? = l[i]?) : cs = l.toArray := by
  apply Array.ext'
  apply List.ext_getElem?
  intro i
  by_cases hi : i < l.length
  · simpa using h i hi
  · rw [List.getElem?_eq_none (by simp; omega), List.getElem?_eq_none (by simpa using hi)]
theorem rec_of {cs : List Value} (h : Fits enc Try.prog w base (fun _ => true) held 25 cs) : ∃ r : Rc, (∀ (j : Nat) (v : Value), (recL r)[j]? = some v → cs[j]? = some v) ∧ RecOk r := by
  have hr := h.struct Try.underlying25 1 1 5 rfl rfl rfl (by kernel_rfl)
  obtain ⟨x0, h0, w0⟩ := h.int Try.underlying25 0 0 rfl rfl rfl Try.underlying3 (by kernel_rfl)
  obtain ⟨x1, h1, w1⟩ := hr.int Try.underlying23 0 0 rfl rfl rfl Try.underlying3 (by kernel_rfl)
  obtain ⟨x2, h2, w2⟩ := hr.string Try.underlying23 1 1 rfl rfl rfl Try.underlying9 (by kernel_rfl)
  obtain ⟨x3, h3, w3⟩ := hr.string Try.underlying23 2 2 rfl rfl rfl Try.underlying9 (by kernel_rfl)
  obtain ⟨x4, h4, w4⟩ := hr.int Try.underlying23 3 3 rfl rfl rfl Try.underlying3 (by kernel_rfl)
  obtain ⟨x5, h5, w5⟩ := hr.int Try.underlying23 4 4 rfl rfl rfl Try.underlying3 (by kernel_rfl)
  have h1 := sub_at h1
  have h2 := sub_at h2
  have h3 := sub_at h3
  have h4 := sub_at h4
  have h5 := sub_at h5
  refine ⟨⟨x0, x1, x2, x3, x4, x5⟩, fun j v hv => ?_, in64_of w0, in64_of w1, in64_of w4, in64_of w5, w2, w3⟩
  have hj : j < 6 := (List.getElem?_eq_some_iff.1 hv).1
  match j, hj with
  | 0, _ => cases hv; exact h0
  | 1, _ => cases hv; exact h1
  | 2, _ => cases hv; exact h2
  | 3, _ => cases hv; exact h3
  | 4, _ => cases hv; exact h4
  | 5, _ => cases hv; exact h5
theorem open_rec {v : Value} {d : DataW H} {p : List MemPlace} (hv : Value.okWide Try.prog w rr b0 25 v) (hd : DataW.Trod enc Try.prog w base (fun _ => true) held 25 v d p) :
    ∃ r : Rc, v = .agg #[.int .i64 r.kind, .int .i64 r.id, .string r.host, .string r.path, .int .i64 r.prio, .int .i64 r.till] ∧ RecOk r := by
  obtain ⟨cs, rfl, hsz⟩ := okWide_struct Try.underlying25 hv
  have h := Fits.of hd
  obtain ⟨r, hr, hok⟩ := rec_of h
  refine ⟨r, congrArg Value.agg (arr_eq (l := recL r) (hsz.trans (by kernel_rfl)) fun i hi => ?_), hok⟩
  have := hr i _ (List.getElem?_eq_getElem hi)
  rw [List.getElem?_eq_getElem hi]
  exact this
/-- What a slice of records is. -/
def IsRecs (w : World) (x : Option Addr × Nat × Nat) : Prop := ∃ rs : List Rc, rs.length = x.2.1 ∧ rs.length ≤ 9223372036854775807 ∧ x.2.1 ≤ x.2.2 ∧ RdR w x.1 rs ∧ ∀ r, r ∈ rs → RecOk r
theorem open_recs {v : Value} {d : DataW H} {p : List MemPlace} (hv : Value.okWide Try.prog w rr b0 32 v) (hd : DataW.Trod enc Try.prog w base (fun _ => true) held 32 v d p) :
    ∃ x : Option Addr × Nat × Nat, v = .slice x.1 x.2.1 x.2.2 ∧ IsRecs w x := by
  obtain ⟨a, len, cap, rfl⟩ := okWide_slice Try.underlying32 hv
  refine ⟨(a, len, cap), rfl, ?_⟩
  have h : Fits enc Try.prog w base (fun _ => true) held 32 [.slice a len cap] := Fits.of hd
  obtain ⟨C, ⟨rfl, rfl, rfl⟩ | ⟨x, rfl, hl, hm, hx⟩⟩ := h.elems Try.underlying32 (n := 6) (by kernel_rfl)
  · exact ⟨[], rfl, Nat.zero_le _, Nat.le_refl _, Or.inl rfl, fun e he => by simp at he⟩
  · by_cases h0 : 0 < cap
    · obtain ⟨b, off, rfl, hc⟩ := plain_at (by decide) (fun i hi => ⟨(hx i hi).1, (hx i hi).2.2⟩) h0
      have key : ∀ i, i < cap → ∃ r : Rc, (∀ j v, (recL r)[j]? = some v → (C i)[j]? = some v) ∧ RecOk r := fun i hi => rec_of (hx i hi).2.1
      let E : Nat → Rc := fun i => if hi : i < cap then Classical.choose (key i hi) else zeroR
      have hE : ∀ i, i < cap → (∀ j v, (recL (E i))[j]? = some v → (C i)[j]? = some v) ∧ RecOk (E i) := fun i hi => by
        simp only [E, dif_pos hi]
        exact Classical.choose_spec (key i hi)
      refine ⟨(List.range len).map E, by simp, ?_, hl, Or.inr ⟨b, off, rfl, fun i e hi j v hv => ?_⟩, fun e he => ?_⟩
      · have : maxLen = 9223372036854775807 := rfl
        simp
        omega
      · have hil := (List.getElem?_eq_some_iff.1 hi).1
        simp at hil
        have he : E i = e := by simpa [hil] using hi
        subst he
        exact hc i (by omega) j v ((hE i (by omega)).1 j v hv)
      · obtain ⟨i, hi, rfl⟩ := List.mem_map.1 he
        exact (hE i (by have := List.mem_range.1 hi; omega)).2
    · obtain rfl : cap = 0 := by omega
      obtain rfl : len = 0 := by omega
      exact ⟨[], rfl, Nat.zero_le _, Nat.le_refl _, Or.inl rfl, fun e he => by simp at he⟩
end
end Go.Proofs.Ytndgpdpabjaedaa
