/- Reading structs that came in, and slices of them, field by field: what each cell holds. No program here. -/
import Derived.ProofKit
import Derived.OpenShut
import Derived.Lib.SmallJoins
import Derived.Deep.Slices
namespace Go.Proofs.Ytonfbkffngplcaa
open Go.RowKit Go.Joins Go.Deep

section
variable {H : Type} {enc : TypeId × Value → H} {P : Program} {w : World} {base : Nat} {spare : Nat → Bool} {held : Bool}

/-- These cells read as something of this type. -/
def Fits (enc : TypeId × Value → H) (P : Program) (w : World) (base : Nat) (spare : Nat → Bool) (held : Bool) (t : TypeId) (cs : List Value) : Prop := ∃ n x, DataW.trod enc P w base spare held n t cs = some x
theorem Fits.of {t : TypeId} {v : Value} {d : DataW H} {p : List MemPlace} (h : DataW.Trod enc P w base spare held t v d p) : Fits enc P w base spare held t v.cells.toList := by
  obtain ⟨n, h⟩ := h
  exact ⟨n, _, h⟩
theorem Fits.field {t : TypeId} {fs : Array Field} {cs : List Value} (h : Fits enc P w base spare held t cs) (ht : P.underlying t = some (.struct fs)) (i : Nat) {f : Field} (hf : fs[i]? = some f) :
    Fits enc P w base spare held f.type ((cs.drop f.offset).take (P.cellsOf f.type)) := by
  obtain ⟨n, x, h⟩ := h
  obtain ⟨xs, m, _, _, _, hlen, hx⟩ := DataW.trod_struct ht h
  have := hx i f hf
  have hi : i < xs.length := by rw [hlen]; exact (Array.getElem?_eq_some_iff.1 hf).1
  rw [List.getElem?_eq_getElem hi] at this
  exact ⟨m, _, this⟩
theorem Fits.length {t : TypeId} {fs : Array Field} {cs : List Value} (h : Fits enc P w base spare held t cs) (ht : P.underlying t = some (.struct fs)) : cs.length = P.cellsOf t := by
  obtain ⟨n, x, h⟩ := h
  obtain ⟨xs, m, _, _, hl, _⟩ := DataW.trod_struct ht h
  exact hl
theorem take_one {cs : List Value} {o : Nat} {v : Value} (h : (cs.drop o).take 1 = [v]) : cs[o]? = some v := by
  have : ((cs.drop o).take 1)[0]? = some v := by rw [h]; rfl
  simpa [List.getElem?_take, List.getElem?_drop] using this
theorem Fits.int {t u : TypeId} {fs : Array Field} {cs : List Value} {k : IntKind} (h : Fits enc P w base spare held t cs) (ht : P.underlying t = some (.struct fs)) (i o : Nat) {f : Field} (hf : fs[i]? = some f) (hu : f.type = u) (ho : f.offset = o) (hk : P.underlying u = some (.int k)) (hc : P.cellsOf u = 1) :
    ∃ z, cs[o]? = some (.int k z) ∧ (Lit.int k z).wf = true := by
  obtain ⟨n, x, h⟩ := h.field ht i hf
  subst hu
  subst ho
  rw [hc] at h
  obtain ⟨z, hz, _, wz⟩ := DataW.trod_int hk h
  exact ⟨z, take_one hz, wz⟩
theorem Fits.bool {t u : TypeId} {fs : Array Field} {cs : List Value} (h : Fits enc P w base spare held t cs) (ht : P.underlying t = some (.struct fs)) (i o : Nat) {f : Field} (hf : fs[i]? = some f) (hu : f.type = u) (ho : f.offset = o) (hk : P.underlying u = some .bool) (hc : P.cellsOf u = 1) :
    ∃ z, cs[o]? = some (.bool z) := by
  obtain ⟨n, x, h⟩ := h.field ht i hf
  subst hu
  subst ho
  rw [hc] at h
  obtain ⟨z, hz, _⟩ := DataW.trod_bool hk h
  exact ⟨z, take_one hz⟩
theorem Fits.string {t u : TypeId} {fs : Array Field} {cs : List Value} (h : Fits enc P w base spare held t cs) (ht : P.underlying t = some (.struct fs)) (i o : Nat) {f : Field} (hf : fs[i]? = some f) (hu : f.type = u) (ho : f.offset = o) (hk : P.underlying u = some .string) (hc : P.cellsOf u = 1) :
    ∃ z : ByteArray, cs[o]? = some (.string z) ∧ z.size ≤ maxLen := by
  obtain ⟨n, x, h⟩ := h.field ht i hf
  subst hu
  subst ho
  rw [hc] at h
  obtain ⟨z, hz, _, wz⟩ := DataW.trod_string hk h
  exact ⟨z, take_one hz, wz⟩
theorem Fits.slice {t u e : TypeId} {fs : Array Field} {cs : List Value} (h : Fits enc P w base spare held t cs) (ht : P.underlying t = some (.struct fs)) (i o : Nat) {f : Field} (hf : fs[i]? = some f) (hu : f.type = u) (ho : f.offset = o) (hk : P.underlying u = some (.slice e)) (hc : P.cellsOf u = 1) :
    ∃ a l c, cs[o]? = some (.slice a l c) ∧ Fits enc P w base spare held u [.slice a l c] := by
  obtain ⟨n, x, h⟩ := h.field ht i hf
  subst hu
  subst ho
  rw [hc] at h
  obtain ⟨a, l, c, hz⟩ := slice_form hk h
  exact ⟨a, l, c, take_one hz, n, x, by rw [← hz]; exact h⟩
/-- The cells of a field that is a struct itself. -/
theorem Fits.struct {t u : TypeId} {fs : Array Field} {cs : List Value} (h : Fits enc P w base spare held t cs) (ht : P.underlying t = some (.struct fs)) (i o m : Nat) {f : Field} (hf : fs[i]? = some f) (hu : f.type = u) (ho : f.offset = o) (hc : P.cellsOf u = m) :
    Fits enc P w base spare held u ((cs.drop o).take m) := by
  have := h.field ht i hf
  subst hu
  subst ho
  rw [hc] at this
  exact this
theorem sub_at {cs : List Value} {o m i : Nat} {v : Value} (h : ((cs.drop o).take m)[i]? = some v) : cs[o + i]? = some v := by
  have hi : i < m := by
    have := (List.getElem?_eq_some_iff.1 h).1
    simp at this
    omega
  simpa [List.getElem?_take, hi, List.getElem?_drop] using h

/-- A slice that came in, of elements of n cells each: cell j of element i is 'C i j'. -/
def IsSl (w : World) (n : Nat) (a : Option Addr) (len cap : Nat) (C : Nat → List Value) : Prop :=
  (a = none ∧ len = 0 ∧ cap = 0) ∨ ∃ b off, a = some ⟨b, off, none⟩ ∧ len ≤ cap ∧ cap ≤ maxLen ∧ ∀ i, i < cap → ∀ j v, (C i)[j]? = some v → w.cell? ⟨b, off + i * n + j, none⟩ = some v
theorem cells_at {a : Addr} {n : Nat} {cs : List Value} (h : w.cells? base a n = some cs) (j : Nat) (v : Value) (hv : cs[j]? = some v) : w.cell? (a.add j) = some v := by
  obtain ⟨_, hlen, hc⟩ := World.cells?_some h
  have hj : j < n := by rw [← hlen]; exact (List.getElem?_eq_some_iff.1 hv).1
  rw [hc j hj]
  exact hv
theorem Fits.elems {t e : TypeId} {n : Nat} {a : Option Addr} {len cap : Nat} (h : Fits enc P w base (fun _ => true) held t [.slice a len cap]) (ht : P.underlying t = some (.slice e)) (hn : P.cellsOf e = n) :
    ∃ C : Nat → List Value, (a = none ∧ len = 0 ∧ cap = 0 ∨ ∃ x, a = some x ∧ len ≤ cap ∧ cap ≤ maxLen ∧ ∀ i, i < cap → (C i).length = n ∧ Fits enc P w base (fun _ => true) held e (C i) ∧ ∀ j v, (C i)[j]? = some v → w.cell? ((x.add (i * n)).add j) = some v) := by
  obtain ⟨m, x, h⟩ := h
  rcases open_slice ht h with ⟨hcs, _⟩ | ⟨a', len', cap', m', n', D, Pl, hcs, _, hl, hm, hmm, _, hx⟩
  · simp at hcs
    exact ⟨fun _ => [], Or.inl ⟨hcs.1, hcs.2.1, hcs.2.2⟩⟩
  · simp at hcs
    obtain ⟨rfl, rfl, rfl⟩ := hcs
    simp at hmm
    subst hmm
    rw [hn] at hx
    refine ⟨fun i => if hi : i < m' then Classical.choose (hx i hi) else [], Or.inr ⟨a', rfl, hl, hm, fun i hi => ?_⟩⟩
    simp only [dif_pos hi]
    have hs := Classical.choose_spec (hx i hi)
    obtain ⟨_, hlen, _⟩ := World.cells?_some hs.1
    exact ⟨hlen, ⟨n', _, hs.2⟩, fun j v hv => cells_at hs.1 j v hv⟩
/-- The address of a slice that has cells is a plain one. -/
theorem plain_at {x : Addr} {n cap : Nat} {C : Nat → List Value} (hn0 : 0 < n) (h : ∀ i, i < cap → (C i).length = n ∧ ∀ j v, (C i)[j]? = some v → w.cell? ((x.add (i * n)).add j) = some v) (h0 : 0 < cap) :
    ∃ b off, x = ⟨b, off, none⟩ ∧ ∀ i, i < cap → ∀ j v, (C i)[j]? = some v → w.cell? ⟨b, off + i * n + j, none⟩ = some v := by
  obtain ⟨b, off, spot⟩ := x
  obtain ⟨hl, hc⟩ := h 0 h0
  have h1 := hc 0 ((C 0)[0]'(by omega)) (List.getElem?_eq_getElem (by omega))
  have hspot : spot = none := by simpa [Addr.add] using World.cell?_spot h1
  subst hspot
  refine ⟨b, off, rfl, fun i hi j v hv => ?_⟩
  have := (h i hi).2 j v hv
  rw [Go.WideShapes.add_plain, Go.WideShapes.add_plain] at this
  exact this
end
end Go.Proofs.Ytonfbkffngplcaa
