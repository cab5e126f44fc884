/- Part of a chain: Own. -/
import Derived.Test.YtimkgaokcldgkaaGreatDoorFq00
import Derived.Laws.OwnMore
import Derived.Maps.AppendAt
import Derived.WalkSmall
/- Slices that a call has made itself, of elements of any type: what they hold, parts of them, stores, appends. No program here. -/
namespace Go.Proofs.YtimkgaokcldgkaaGreatDoor
open Go.RowKit

/-- What the walk asks of a slice's type. -/
structure RowTy (P : Program) (T E : TypeId) (size bytes : Nat) : Prop where
  und : P.underlying T = some (.slice E)
  info : ∃ z, (P.info? E).map (fun i => (i.zero, i.size, i.bytes)) = some (some z, size, bytes) ∧ z.cells.size = size
  pos : 0 < size
theorem RowTy.parts {P : Program} {T E : TypeId} {size bytes : Nat} (h : RowTy P T E size bytes) : ∃ i z, P.info? E = some i ∧ i.zero = some z ∧ i.size = size ∧ i.bytes = bytes ∧ z.cells.size = size := by
  obtain ⟨z, hi, hz⟩ := h.info
  obtain ⟨i, h1, h2, h3, h4⟩ := info_parts hi
  exact ⟨i, z, h1, h2, h3, h4, hz⟩
def Own (w : World) (B : Nat) (E : TypeId) (size : Nat) (a : Option Addr) (n cap : Nat) (xs : List Value) : Prop := w.ownsRow B E size (.slice a n cap) n xs
section
variable {w w' : World} {B B' size n cap : Nat} {E : TypeId} {a : Option Addr} {xs : List Value}
theorem own_parts {v : Value} (h : w.ownsRow B E size v n xs) : ∃ a cap, v = .slice a n cap := by
  rcases h.2 with ⟨rfl, rfl⟩ | ⟨g, cap, _, rfl, _⟩
  · exact ⟨_, _, rfl⟩
  · exact ⟨_, _, rfl⟩
theorem Own.nil (w : World) (B : Nat) (E : TypeId) (size : Nat) : Own w B E size none 0 0 [] := World.ownsRow_nil _ _ _ _
theorem Own.lit {cs : Array Value} (hB : B ≤ w.heap.size) (hn : n ≤ 100000000) (hs : cs.size = n * size) : Own (w.alloc (.cells cs E)) B E size (some ⟨w.heap.size, 0, none⟩) n n cs.toList := World.ownsRow_lit w cs n hB (by unfold maxLen; omega) hs
theorem Own.len (h : Own w B E size a n cap xs) : xs.length = n * size := h.1
theorem Own.cap_le (h : Own w B E size a n cap xs) : n ≤ cap := by
  rcases h.2 with ⟨e, h0⟩ | ⟨g, c, cur, e, _, _, hnc, _⟩
  · omega
  · injection e with _ _ e3
    rw [e3]
    exact hnc
theorem Own.max (h : Own w B E size a n cap xs) : cap ≤ 9223372036854775807 := by
  rcases h.2 with ⟨e, h0⟩ | ⟨g, c, cur, e, _, _, _, hm, _⟩
  · injection e with _ _ e3
    rw [e3]
    decide
  · injection e with _ _ e3
    rw [e3]
    exact hm
theorem Own.form (h : Own w B E size a n cap xs) : (a = none ∧ n = 0 ∧ cap = 0) ∨ ∃ g, a = some ⟨g, 0, none⟩ ∧ B ≤ g ∧ g < w.heap.size := by
  rcases h.2 with ⟨e, h0⟩ | ⟨g, c, cur, e, hb, hg, _, hm, _⟩
  · injection e with e1 e2 e3
    exact Or.inl ⟨e1, e2, e3⟩
  · injection e with e1 e2 e3
    refine Or.inr ⟨g, e1, hb, ?_⟩
    exact (Array.getElem?_eq_some_iff.1 hg).1
theorem Own.some_ (h : Own w B E size a n cap xs) (h0 : 0 < n) : ∃ g, a = some ⟨g, 0, none⟩ ∧ B ≤ g ∧ g < w.heap.size := by
  rcases h.form with ⟨_, h1, _⟩ | h1
  · omega
  · exact h1
theorem Own.cell {g : Nat} (h : Own w B E size (some ⟨g, 0, none⟩) n cap xs) {j : Nat} {u : Value} (hj : xs[j]? = some u) : w.cell? ⟨g, j, none⟩ = some u := by
  have hl := (List.getElem?_eq_some_iff.1 hj).1
  rw [World.ownsRow.cellAt h j (by rw [← h.1]; exact hl), hj]
theorem Own.free {g : Nat} (h : Own w B E size (some ⟨g, 0, none⟩) n cap xs) (j : Nat) : w.frozen? ⟨g, j, none⟩ = false := World.ownsRow.frozenAt h j
theorem Own.lt {g : Nat} (h : Own w B E size (some ⟨g, 0, none⟩) n cap xs) : B ≤ g ∧ g < w.heap.size := World.ownsRow.lt h g rfl
theorem Own.alloc (h : Own w B E size a n cap xs) (o : Obj) : Own (w.alloc o) B E size a n cap xs := World.ownsRow.alloc h o
theorem Own.drew (h : Own w B E size a n cap xs) : Own w.drew B E size a n cap xs := h
theorem Own.drewN (h : Own w B E size a n cap xs) (k : Nat) : Own (w.drewN k) B E size a n cap xs := h
theorem Own.mono (h : Own w B E size a n cap xs) (hB : B' ≤ B) : Own w B' E size a n cap xs := by
  refine ⟨h.1, ?_⟩
  rcases h.2 with h | ⟨g, c, cur, e, hb, hr⟩
  · exact Or.inl h
  · exact Or.inr ⟨g, c, cur, e, Nat.le_trans hB hb, hr⟩
theorem Own.blocks (h : Own w B E size a n cap xs) (hb : ∀ g, a = some ⟨g, 0, none⟩ → w'.heap[g]? = w.heap[g]?) : Own w' B E size a n cap xs := by
  refine ⟨h.1, ?_⟩
  rcases h.2 with h | ⟨g, c, cur, e, hB, hg, hr⟩
  · exact Or.inl h
  · refine Or.inr ⟨g, c, cur, e, hB, ?_, hr⟩
    injection e with e1
    exact (hb g e1).trans hg
theorem Own.later (h : Own w B E size a n cap xs) (hb : Below w.heap.size w w') : Own w' B E size a n cap xs :=
  h.blocks fun g e => by subst e; exact hb.block g h.lt.2
theorem Own.other (h : Own w B E size a n cap xs) {p : Addr} (hp : ∀ g, a = some ⟨g, 0, none⟩ → g ≠ p.block) (u : Value) : Own (w.setCell p u) B E size a n cap xs :=
  h.blocks fun g e => Below.heap_setCell w p u g (hp g e)
theorem Own.set {g : Nat} (h : Own w B E size (some ⟨g, 0, none⟩) n cap xs) (j : Nat) (u : Value) : Own (w.setCell ⟨g, j, none⟩ u) B E size (some ⟨g, 0, none⟩) n cap (xs.set j u) := (World.ownsRow.stored h j u).1
/-- The first k of them. -/
theorem Own.take (h : Own w B E size a n cap xs) {k : Nat} (hk : k ≤ n) : Own w B E size a k cap (xs.take (k * size)) := by
  have hks : k * size ≤ n * size := Nat.mul_le_mul_right _ hk
  refine ⟨by rw [List.length_take, h.1]; omega, ?_⟩
  rcases h.2 with ⟨e, h0⟩ | ⟨g, c, cur, e, hB, hg, hnc, hm, hsz, htake⟩
  · injection e with e1 e2 e3
    subst e1
    subst e3
    obtain rfl : k = 0 := by omega
    exact Or.inl ⟨rfl, rfl⟩
  · injection e with e1 e2 e3
    subst e1
    subst e3
    refine Or.inr ⟨g, cap, cur, rfl, hB, hg, by omega, hm, hsz, ?_⟩
    rw [← htake, List.take_take, Nat.min_eq_left hks]
end
/-- A part of a slice of one's own: what comes of the expression. -/
theorem sliceTo_run {P : Program} {T E : TypeId} {size bytes : Nat} (hT : RowTy P T E size bytes) (a : Option Addr) (len cap k : Nat) (hk : k ≤ cap) (w : World) (ha : a = none → cap = 0) :
    (Instr.sliceAt T (.slice a len cap) none (some (.int .i64 k)) none).run P w = .ok (.slice a k cap) w := by
  obtain ⟨i, z, hi, hz, hs, hb, hzs⟩ := hT.parts
  cases a with
  | none =>
    have := ha rfl
    subst this
    obtain rfl : k = 0 := by omega
    simp [Instr.sliceAt, Instr.slice, run_underlying hT.und, Instr.sliceBounds, Instr.sliceBound, asIntOf, sizeOf, typeInfo, hi, go_sem]
  | some p =>
    by_cases h0 : cap = 0
    · subst h0
      obtain rfl : k = 0 := by omega
      simp [Instr.sliceAt, Instr.slice, run_underlying hT.und, Instr.sliceBounds, Instr.sliceBound, asIntOf, sizeOf, typeInfo, hi, go_sem]
    · simp [Instr.sliceAt, Instr.slice, run_underlying hT.und, Instr.sliceBounds, Instr.sliceBound, asIntOf, sizeOf, typeInfo, hi, hk, go_sem]
section
variable {P : Program} {ops : Array Oper} {rest : List Oper} {o : Oper} {act : Act} {Q : Exit → Act → World → Prop} {w : World}
theorem run_appR {T E : TypeId} {size bytes : Nat} (hT : RowTy P T E size bytes) (ty : TypeId)
    (B : Nat) (a : Option Addr) (n cap : Nat) (xs : List Value) (hown : Own w B E size a n cap xs)
    (b2 off2 m c2 : Nat) (ys : List Value) (hm : 0 < m) (hl : ys.length = m * size) (hr : ∀ j u, ys[j]? = some u → w.cell? ⟨b2, off2 + j, none⟩ = some u) (h1 : ∀ u ∈ ys, u.oneCell' = true)
    (h63 : n + m ≤ 100000000) (hby : bytes ≤ 100000) (hB : B ≤ w.heap.size) :
    ∃ g cap' w', (Builtin.append_ #[T, T] ty #[.slice a n cap, .slice (some ⟨b2, off2, none⟩) m c2]).run P w = .ok (.slice (some ⟨g, 0, none⟩) (n + m) cap') w' ∧ Own w' B E size (some ⟨g, 0, none⟩) (n + m) cap' (xs ++ ys) ∧ w.grownBy w' (a.map (·.block)) ∧ Below B w w' ∧ (a.map (·.block) = some g ∨ g = w.heap.size) := by
  obtain ⟨i, z, hi, hz, hs, hb, hzs⟩ := hT.parts
  have hmul : (n + m) * bytes ≤ 140737488355328 := Nat.le_trans (Nat.mul_le_mul h63 hby) (by decide)
  obtain ⟨v', w', hrun, hown', hg, _, hv⟩ := run_append_own_at (P := P) w B T ty E i z size bytes hT.und hi hz hs hb hzs hT.pos (.slice a n cap) _ _ hown ⟨b2, off2, none⟩ m c2 ys hl (fun j u hj => by rw [Go.WideShapes.add_plain]; exact hr j u hj) h1 (by unfold maxLen; omega) hmul hB
  obtain ⟨a', cap', rfl⟩ := own_parts hown'
  obtain ⟨g, rfl, _, _⟩ := Own.some_ (a := a') (cap := cap') hown' (by omega)
  have he : (Value.slice a n cap).ownBlock = a.map (·.block) := by cases a <;> rfl
  rw [he] at hg
  have hlt : ∀ k, a.map (·.block) = some k → B ≤ k := fun k hk => (World.ownsRow.lt hown k (he.trans hk)).1
  refine ⟨g, cap', w', hrun, hown', hg, (Below.refl _ _).grown hg hB hlt, ?_⟩
  rcases hv with h | h
  · exact Or.inl (he ▸ h).symm
  · exact Or.inr (by simpa [Value.ownBlock] using h)
theorem wpList_appR {T E : TypeId} {size bytes : Nat} (hT : RowTy P T E size bytes) (hgd : o.guard = none) (s x : Operand) (ho : o.op = .call { callee := .builtin .append, args := #[s, x], argTypes := #[T, T] })
    (B : Nat) (a : Option Addr) (n cap : Nat) (xs : List Value) (hs : act.eval s = .slice a n cap) (hown : Own w B E size a n cap xs)
    (b2 off2 m c2 : Nat) (ys : List Value) (hx : act.eval x = .slice (some ⟨b2, off2, none⟩) m c2) (hm : 0 < m) (hl : ys.length = m * size) (hr : ∀ j u, ys[j]? = some u → w.cell? ⟨b2, off2 + j, none⟩ = some u) (h1 : ∀ u ∈ ys, u.oneCell' = true)
    (h63 : n + m ≤ 100000000) (hby : bytes ≤ 100000) (hB : B ≤ w.heap.size) (N : Nat) (hN : n + m = N) (zs : List Value) (hz : xs ++ ys = zs)
    (h : ∀ g cap' w', Own w' B E size (some ⟨g, 0, none⟩) N cap' zs → w.grownBy w' (a.map (·.block)) → Below B w w' → (a.map (·.block) = some g ∨ g = w.heap.size) → wpList P ops Q rest (act.put o.dst (.slice (some ⟨g, 0, none⟩) N cap')) w') : wpList P ops Q (o :: rest) act w := by
  subst hN
  subst hz
  refine wpList_plain hgd fun K hK => ?_
  obtain ⟨g, cap', w', hrun, h2, h3, h4, h5⟩ := run_appR (P := P) hT o.type B a n cap xs hown b2 off2 m c2 ys hm hl hr h1 h63 hby hB
  unfold Oper.wp execOp
  simp only [ho, resolve, invoke, builtin, Sem.run_bind, Sem.run_pure, Result.andThen_ok, List.map_toArray, List.map_cons, List.map_nil, hs, hx, hrun]
  exact hK _ _ (h g cap' w' h2 h3 h4 h5)
/-- One element is appended, laid just before in a block of its own. -/
theorem grown_of_alloc {w w' : World} {o : Obj} {row : Option Nat} (h : (w.alloc o).grownBy w' row) : w.grownBy w' row :=
  ⟨h.os, h.tape, h.output, by have := h.size; simp at this; omega, fun k hk hne => (h.block k (by simp; omega) hne).trans (Below.heap_alloc w o k hk)⟩
theorem wpList_app1 {T E : TypeId} {size bytes : Nat} (hT : RowTy P T E size bytes) (hgd : o.guard = none) (s x : Operand) (ho : o.op = .call { callee := .builtin .append, args := #[s, x], argTypes := #[T, T] })
    (B : Nat) (a : Option Addr) (n cap : Nat) (xs : List Value) (hs : act.eval s = .slice a n cap) (hown : Own w B E size a n cap xs) (cs : Array Value) (hx : act.eval x = .slice (some ⟨w.heap.size, 0, none⟩) 1 1) (hcs : cs.size = size) (h1 : cs.all (·.oneCell') = true)
    (h63 : n + 1 ≤ 100000000) (hby : bytes ≤ 100000) (hB : B ≤ w.heap.size) (N : Nat) (hN : n + 1 = N) (zs : List Value) (hz : xs ++ cs.toList = zs)
    (h : ∀ g cap' w', Own w' B E size (some ⟨g, 0, none⟩) N cap' zs → w.grownBy w' (a.map (·.block)) → Below B w w' → (a.map (·.block) = some g ∨ g = w.heap.size + 1) → wpList P ops Q rest (act.put o.dst (.slice (some ⟨g, 0, none⟩) N cap')) w') : wpList P ops Q (o :: rest) act (w.alloc (.cells cs E)) := by
  refine wpList_appR hT hgd s x ho B a n cap xs hs (hown.alloc _) w.heap.size 0 1 1 cs.toList hx (by decide) (by simpa using hcs) ?_ ?_ h63 hby (by simp; omega) N hN zs hz ?_
  · intro j u hj
    rw [Nat.zero_add]
    have hb := heap_alloc_new w (.cells cs E)
    unfold World.cell?
    rw [hb]
    simpa using hj
  · intro u hu
    exact Array.all_eq_true'.1 h1 u (by simpa using hu)
  · intro g cap' w' h2 h3 h4 h5
    refine h g cap' w' h2 (grown_of_alloc h3) (((Below.refl _ _).alloc hB _).trans h4) ?_
    rcases h5 with h5 | h5
    · exact Or.inl h5
    · exact Or.inr (by simpa using h5)
end
end Go.Proofs.YtimkgaokcldgkaaGreatDoor
