/- InternPlays: the list beside the table. -/
import Derived.Test.YthoakigbjhlababInternFull
namespace Go.Proofs.Ythoakigbjhlabab
open Go.RowKit Go.Maps Go.WideMaps

/-- A list of the same names, in a row of its own. -/
structure Lst (w : World) (B p bm : Nat) (a al : Option Addr) (capl : Nat) (ns : List ByteArray) : Prop where
  row : w.ownsRow B 9 1 (.slice al ns.length capl) ns.length (ns.map Value.string)
  sep : ∀ x, al = some x → x.block ≠ p ∧ x.block ≠ bm ∧ ∀ y, a = some y → y.block ≠ x.block

theorem Lst.lt {w : World} {B p bm : Nat} {a al : Option Addr} {capl : Nat} {ns : List ByteArray} (h : Lst w B p bm a al capl ns) {x : Addr} (hx : al = some x) : x.block < w.heap.size := (h.row.lt x.block (by subst hx; rfl)).2
theorem Tab.lt {w : World} {B p bm : Nat} {a : Option Addr} {cap : Nat} {most : Int} {ns : List ByteArray} (h : Tab w B p bm a cap most ns) {x : Addr} (hx : a = some x) : x.block < w.heap.size := (h.row.lt x.block (by subst hx; rfl)).2
theorem Tab.blt {w : World} {B p bm : Nat} {a : Option Addr} {cap : Nat} {most : Int} {ns : List ByteArray} (h : Tab w B p bm a cap most ns) : bm < w.heap.size := by
  obtain ⟨_, hD, _⟩ := h.map
  exact hD.lt
theorem Lst.grown {w w' : World} {B p bm : Nat} {a al : Option Addr} {capl : Nat} {ns : List ByteArray} (h : Lst w B p bm a al capl ns) {row : Option Nat} (hg : w.grownBy w' row) (h3 : ∀ x, al = some x → some x.block ≠ row) : Lst w' B p bm a al capl ns := by
  refine ⟨row_kept h.row hg ?_, h.sep⟩
  intro k hk
  cases al with
  | none => simp [Value.ownBlock] at hk
  | some x => simp [Value.ownBlock] at hk; subst hk; exact h3 x rfl
theorem Lst.later {w w' : World} {B p bm : Nat} {a al : Option Addr} {capl : Nat} {ns : List ByteArray} (h : Lst w B p bm a al capl ns) (hb : Below w.heap.size w w') : Lst w' B p bm a al capl ns :=
  h.grown (grown_of_below hb) (fun _ _ e => by cases e)
theorem Lst.at {w : World} {B p bm : Nat} {a al : Option Addr} {capl : Nat} {ns : List ByteArray} (h : Lst w B p bm a al capl ns) {j : Nat} {y : ByteArray} (hj : ns[j]? = some y) : ∃ g, al = some ⟨g, 0, none⟩ ∧ w.cell? ⟨g, j, none⟩ = some (.string y) := by
  have hn : j < ns.length := (List.getElem?_eq_some_iff.1 hj).1
  rcases h.row.2 with ⟨_, h0⟩ | ⟨g, cap', cur, hv, _, _, _⟩
  · omega
  · injection hv with ha
    refine ⟨g, ha, ?_⟩
    have := h.row.cells (g := g) (by rw [ha]; rfl) j (.string y) (by simp [hj])
    by_cases h0 : j = 0
    · subst h0
      simpa [Addr.add] using this
    · simpa [Addr.add, h0] using this
/-- A name was added to the table. -/
theorem Lst.added {w w' : World} {B p bm : Nat} {a a1 al : Option Addr} {capl : Nat} {ns : List ByteArray} (h : Lst w B p bm a al capl ns)
    (hk : ∀ k, (Value.slice a1 0 0).ownBlock = some k → (Value.slice a 0 0).ownBlock = some k ∨ w.heap.size ≤ k)
    (hs : ∀ k, k < w.heap.size → k ≠ p → k ≠ bm → (Value.slice a 0 0).ownBlock ≠ some k → w'.heap[k]? = w.heap[k]?) : Lst w' B p bm a1 al capl ns := by
  refine ⟨⟨h.row.1, ?_⟩, ?_⟩
  · rcases h.row.2 with hv | ⟨g, cap, cur, hv, hg, hh, r⟩
    · exact Or.inl hv
    · refine Or.inr ⟨g, cap, cur, hv, hg, ?_, r⟩
      injection hv with hv
      obtain ⟨h1, h2, h3⟩ := h.sep _ hv
      refine (hs g (lt_of_block hh) h1 h2 (fun e => ?_)).trans hh
      cases a with
      | none => simp [Value.ownBlock] at e
      | some y => exact h3 y rfl (by simpa [Value.ownBlock] using e)
  · intro x hx
    obtain ⟨h1, h2, h3⟩ := h.sep x hx
    refine ⟨h1, h2, fun y hy e => ?_⟩
    subst hy
    rcases hk y.block rfl with e2 | e2
    · cases a with
      | none => simp [Value.ownBlock] at e2
      | some z => exact h3 z rfl (by simp [Value.ownBlock] at e2; omega)
    · have := h.lt hx
      omega
/-- A name was appended to the list. -/
theorem Lst.appended {w w' : World} {B p bm : Nat} {a al al' : Option Addr} {cap capl capl' : Nat} {most : Int} {ns : List ByteArray} {s : ByteArray} (h : Lst w B p bm a al capl ns) {ms : List ByteArray} (ht : Tab w B p bm a cap most ms) {o : Obj}
    (hown : w'.ownsRow B 9 1 (.slice al' (ns.length + 1) capl') (ns.length + 1) (ns.map Value.string ++ [.string s]))
    (hloc : (Value.slice al' (ns.length + 1) capl').ownBlock = (Value.slice al ns.length capl).ownBlock ∨ (Value.slice al' (ns.length + 1) capl').ownBlock = some (w.alloc o).heap.size) : Lst w' B p bm a al' capl' (ns ++ [s]) := by
  refine ⟨by simpa using hown, ?_⟩
  intro x hx
  subst hx
  rcases hloc with e | e
  · cases al with
    | none => simp [Value.ownBlock] at e
    | some y =>
      have e2 : x.block = y.block := by simpa [Value.ownBlock] using e
      rw [e2]
      exact h.sep y rfl
  · have e2 : x.block = w.heap.size + 1 := by simpa [Value.ownBlock] using e
    have h1 := ht.box.lt
    have h2 := ht.blt
    refine ⟨by omega, by omega, fun y hy => ?_⟩
    have := ht.lt hy
    omega
/-- .. and the table is as it was. -/
theorem Tab.beside {w w' : World} {B p bm : Nat} {a al : Option Addr} {cap capl : Nat} {most : Int} {ns ms : List ByteArray} (ht : Tab w B p bm a cap most ms) (h : Lst w B p bm a al capl ns) {o : Obj}
    (hg : (w.alloc o).grownBy w' (Value.slice al ns.length capl).ownBlock) : Tab w' B p bm a cap most ms := by
  refine (ht.alloc o).grown hg ?_ ?_ ?_
  · cases al with
    | none => simp [Value.ownBlock]
    | some x => have := (h.sep x rfl).1; simp [Value.ownBlock]; omega
  · cases al with
    | none => simp [Value.ownBlock]
    | some x => have := (h.sep x rfl).2.1; simp [Value.ownBlock]; omega
  · intro y hy
    cases al with
    | none => simp [Value.ownBlock]
    | some x => have := (h.sep x rfl).2.2 y hy; simp [Value.ownBlock]; omega

theorem pos_of : ∀ {ns : List ByteArray} {s : ByteArray} {j : Nat}, ns.Nodup → ns[j]? = some s → pos ns s = j
  | [], s, j, _, h => by simp at h
  | x :: xs, s, 0, _, h => by
    simp at h
    simp [pos, h]
  | x :: xs, s, j + 1, hd, h => by
    simp at h
    have hm : s ∈ xs := List.mem_of_getElem? h
    have hne : x.data ≠ s.data := fun e => (List.nodup_cons.1 hd).1 (by rw [ByteArray.ext e]; exact hm)
    simp [pos, hne, pos_of (List.nodup_cons.1 hd).2 h]

/-- What the law has found among the first j names. -/
def Fnd (ns : List ByteArray) (s : ByteArray) (j : Nat) (x : Int) : Prop := (x = -1 ∧ s ∉ ns.take j) ∨ (s ∈ ns.take j ∧ x = pos ns s)
theorem Fnd.hit {ns : List ByteArray} {s : ByteArray} {j : Nat} (hd : ns.Nodup) (hj : ns[j]? = some s) : Fnd ns s (j + 1) j := by
  refine Or.inr ⟨?_, by rw [pos_of hd hj]⟩
  rw [List.take_add_one, hj]
  simp
theorem Fnd.miss {ns : List ByteArray} {s y : ByteArray} {j : Nat} {x : Int} (h : Fnd ns s j x) (hj : ns[j]? = some y) (hne : y ≠ s) : Fnd ns s (j + 1) x := by
  rcases h with ⟨h1, h2⟩ | ⟨h1, h2⟩
  · refine Or.inl ⟨h1, ?_⟩
    rw [List.take_add_one, hj]
    simp [h2, Ne.symm hne]
  · refine Or.inr ⟨?_, h2⟩
    rw [List.take_add_one]
    simp [h1]
theorem Fnd.all {ns : List ByteArray} {s : ByteArray} {x : Int} (h : Fnd ns s ns.length x) : (x = -1 ∧ s ∉ ns) ∨ (s ∈ ns ∧ x = pos ns s) := by
  unfold Fnd at h
  rwa [List.take_length] at h
end Go.Proofs.Ythoakigbjhlabab
