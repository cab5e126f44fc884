/- As Deep, where the weight of what came in is bounded: how long each string is. No program here. -/
import Derived.Test.YtbfdklmljcdonaaDoorDeep
import Derived.SizedLaws
namespace Go.Proofs.YtbfdklmljcdonaaDoor
open Go.RowKit Go.Joins Go.Deep

section
variable {H : Type} {enc : TypeId × Value → H} {P : Program} {w : World} {base : Nat} {spare : Nat → Bool} {held : Bool} {N : Nat}
def FitsW (enc : TypeId × Value → H) (P : Program) (w : World) (base : Nat) (spare : Nat → Bool) (held : Bool) (N : Nat) (t : TypeId) (cs : List Value) : Prop := ∃ n x, DataW.trod enc P w base spare held n t cs = some x ∧ ∀ k ∈ x.1.weights P t, k ≤ N
theorem FitsW.field {t : TypeId} {fs : Array Field} {cs : List Value} (h : FitsW enc P w base spare held N t cs) (ht : P.underlying t = some (.struct fs)) (i : Nat) {f : Field} (hf : fs[i]? = some f) :
    FitsW enc P w base spare held N f.type ((cs.drop f.offset).take (P.cellsOf f.type)) := by
  obtain ⟨n, x, h, hw⟩ := h
  obtain ⟨xs, m, _, rfl, _, hlen, hx⟩ := DataW.trod_struct ht h
  have := hx i f hf
  have hi : i < xs.length := by rw [hlen]; exact (Array.getElem?_eq_some_iff.1 hf).1
  rw [List.getElem?_eq_getElem hi] at this
  refine ⟨m, _, this, fun k hk => hw k ?_⟩
  simp only [DataW.weights, ht]
  refine DataW.weights_mem_each (j := i) (t := f.type) (d := (xs[i]).1) ?_ ?_ k hk
  · rw [List.getElem?_map, Array.getElem?_toList, hf]; rfl
  · rw [List.getElem?_map, List.getElem?_eq_getElem hi]; rfl
theorem FitsW.struct {t u : TypeId} {fs : Array Field} {cs : List Value} (h : FitsW enc P w base spare held N t cs) (ht : P.underlying t = some (.struct fs)) (i o m : Nat) {f : Field} (hf : fs[i]? = some f) (hu : f.type = u) (ho : f.offset = o) (hc : P.cellsOf u = m) :
    FitsW enc P w base spare held N u ((cs.drop o).take m) := by
  have := h.field ht i hf
  subst hu
  subst ho
  rw [hc] at this
  exact this
theorem FitsW.string {t u : TypeId} {fs : Array Field} {cs : List Value} (h : FitsW enc P w base spare held N t cs) (ht : P.underlying t = some (.struct fs)) (i o : Nat) {f : Field} (hf : fs[i]? = some f) (hu : f.type = u) (ho : f.offset = o) (hk : P.underlying u = some .string) (hc : P.cellsOf u = 1) :
    ∃ z : ByteArray, cs[o]? = some (.string z) ∧ z.size ≤ N := by
  obtain ⟨n, x, h, hw⟩ := h.field ht i hf
  subst hu
  subst ho
  rw [hc] at h
  obtain ⟨z, hz, rfl, _⟩ := DataW.trod_string hk h
  refine ⟨z, take_one hz, ?_⟩
  have := hw z.data.toList.length (by simp [DataW.weights])
  rw [Array.length_toList] at this
  exact this
theorem weightsAll_in {e : TypeId} : ∀ {l : List (DataW H)} {d : DataW H}, d ∈ l → ∀ n ∈ d.weights P e, n ∈ DataW.weightsAll P e l
  | d' :: r, d, hd, n, hn => by
    simp only [DataW.weightsAll, List.mem_append]
    rcases List.mem_cons.1 hd with rfl | h
    · exact Or.inl hn
    · exact Or.inr (weightsAll_in h n hn)
theorem FitsW.elems {t e : TypeId} {n : Nat} {a : Option Addr} {len cap : Nat} (h : FitsW enc P w base (fun _ => true) held N t [.slice a len cap]) (ht : P.underlying t = some (.slice e)) (hn : P.cellsOf e = n) :
    ∃ C : Nat → List Value, (a = none ∧ len = 0 ∧ cap = 0 ∨ ∃ x, a = some x ∧ len ≤ cap ∧ cap ≤ maxLen ∧ ∀ i, i < cap → (C i).length = n ∧ (Fits enc P w base (fun _ => true) held e (C i) ∧ (i < len → FitsW enc P w base (fun _ => true) held N e (C i))) ∧ ∀ j v, (C i)[j]? = some v → w.cell? ((x.add (i * n)).add j) = some v) := by
  obtain ⟨m, x, h, hw⟩ := h
  rcases open_slice ht h with ⟨hcs, _⟩ | ⟨a', len', cap', m', n', D, Pl, hcs, _, hl, hm, hmm, hxe, hx⟩
  · simp at hcs
    exact ⟨fun _ => [], Or.inl ⟨hcs.1, hcs.2.1, hcs.2.2⟩⟩
  · simp at hcs
    obtain ⟨rfl, rfl, rfl⟩ := hcs
    simp at hmm
    subst hmm
    rw [hn] at hx
    refine ⟨fun i => if hi : i < m' then Classical.choose (hx i hi) else [], Or.inr ⟨a', rfl, hl, hm, fun i hi => ?_⟩⟩
    simp only [dif_pos hi]
    have hs := Classical.choose_spec (hx i hi)
    obtain ⟨_, hlen, _⟩ := World.cells?_some hs.1
    refine ⟨hlen, ⟨⟨n', _, hs.2⟩, fun hil => ⟨n', _, hs.2, fun k hk => hw k ?_⟩⟩, fun j v hv => cells_at hs.1 j v hv⟩
    rw [hxe]
    simp only [DataW.weights, ht, List.mem_cons, List.mem_append]
    exact Or.inr (Or.inl (weightsAll_in (d := D i) (List.mem_map.2 ⟨i, List.mem_range.2 hil, rfl⟩) k hk))
end
end Go.Proofs.YtbfdklmljcdonaaDoor
