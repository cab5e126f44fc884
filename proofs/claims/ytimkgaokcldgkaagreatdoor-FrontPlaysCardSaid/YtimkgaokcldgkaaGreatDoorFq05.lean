/- Part of a chain: InsR, Only. -/
import Derived.Test.YtimkgaokcldgkaaGreatDoorFq01
import Derived.Lib.Overlaps
import Derived.Lib.AppendZerosOnto
import Derived.Laws.CopyRow
import Derived.Deep.WholeRow
import Derived.Test.YtimkgaokcldgkaaGreatDoorFq00
/- Slices of one's own, of elements of any size: copy, and an element laid in between. No program here. -/
namespace Go.Proofs.YtimkgaokcldgkaaGreatDoor
open Go Go.RowKit
set_option linter.unusedVariables false

theorem Own.block {w : World} {B g size n cap : Nat} {E : TypeId} {xs : List Value} (h : Own w B E size (some ⟨g, 0, none⟩) n cap xs) :
    ∃ cur, w.heap[g]? = some (.cells cur E (0, 0)) ∧ cur.size = cap * size ∧ cur.toList.take (n * size) = xs ∧ n ≤ cap ∧ cap ≤ maxLen ∧ B ≤ g := by
  rcases h.2 with ⟨e, _⟩ | ⟨g', c, cur, e, hb, hg, hnc, hm, hsz, htake⟩
  · cases e
  · injection e with e1 e2 e3
    injection e1 with e1
    injection e1 with e1
    subst e1
    subst e3
    exact ⟨cur, hg, hsz, htake, hnc, hm, hb⟩
theorem Own.of_block {w : World} {B g size n cap : Nat} {E : TypeId} {xs : List Value} {cur : Array Value} (hg : w.heap[g]? = some (.cells cur E (0, 0))) (hs : cur.size = cap * size) (ht : cur.toList.take (n * size) = xs) (hnc : n ≤ cap) (hm : cap ≤ maxLen) (hB : B ≤ g) :
    Own w B E size (some ⟨g, 0, none⟩) n cap xs := by
  refine ⟨?_, Or.inr ⟨g, cap, cur, rfl, hB, hg, hnc, hm, hs, ht⟩⟩
  rw [← ht, List.length_take, Array.length_toList, hs]
  exact Nat.min_eq_left (Nat.mul_le_mul_right _ hnc)
theorem run_copy_rowN {P : Program} (w : World) (dT sT ty elem : TypeId) (size g o dLen dCap : Nat) (a : Addr) (sLen sCap : Nat) (cur : Array Value) (t : TypeId) (cs : List Value) (m : Nat)
    (hu : P.underlying dT = some (.slice elem)) (hs : (P.info? elem).map (·.size) = some size)
    (hg : w.heap[g]? = some (.cells cur t (0, 0))) (hm : Nat.min sLen dLen = m) (hn : cs.length = m * size)
    (hsrc : ∀ j v, cs[j]? = some v → w.cell? (a.add j) = some v) (hfit : o + cs.length ≤ cur.size) (h1 : ∀ v ∈ cs, v.oneCell' = true) :
    (Builtin.copy_ #[dT, sT] ty #[.slice (some ⟨g, o, none⟩) dLen dCap, .slice (some a) sLen sCap]).run P w =
      .ok (goInt m) (w.setRow g (cur.toList.take o ++ cs ++ cur.toList.drop (o + cs.length)).toArray) := by
  have hl := run_loadCells_list (P := P) w a cs hsrc
  have hst := run_storeCells_at P g o t cs 0 cur w hg (by simpa using hfit) h1
  cases hq : P.info? elem with
  | none => simp [hq] at hs
  | some i =>
    have hi : i.size = size := by simpa [hq] using hs
    rw [hn] at hl
    simp [Builtin.copy_, run_underlying hu, Builtin.lenOf, Builtin.firstCells, sizeOf, typeInfo, hq, hi, hm, hl, hst]
theorem RowTy.sz {P : Program} {T E : TypeId} {size bytes : Nat} (h : RowTy P T E size bytes) : (P.info? E).map (·.size) = some size := by
  obtain ⟨i, z, h1, h2, h3, h4, h5⟩ := h.parts
  rw [h1]
  exact congrArg some h3
/-- The two copies by which an element is laid in between, where there is room: the cells. -/
theorem ins_cells {cur xs v : List Value} {size n i cap : Nat} (hs : cur.length = cap * size) (ht : cur.take (n * size) = xs) (hi : i ≤ n) (hc : n + 1 ≤ cap) (hv : v.length = size)
    (c1 c2 : List Value) (h1 : c1 = cur.take ((i + 1) * size) ++ xs.drop (i * size) ++ cur.drop ((i + 1) * size + (xs.drop (i * size)).length)) (h2 : c2 = c1.take (i * size) ++ v ++ c1.drop (i * size + v.length)) :
    c1.length = cap * size ∧ c2.length = cap * size ∧ c2.take ((n + 1) * size) = xs.take (i * size) ++ v ++ xs.drop (i * size) := by
  have e1 : (i + 1) * size = i * size + size := Nat.succ_mul _ _
  have e2 : (n + 1) * size = n * size + size := Nat.succ_mul _ _
  have e3 : i * size ≤ n * size := Nat.mul_le_mul_right _ hi
  have e4 : (n + 1) * size ≤ cap * size := Nat.mul_le_mul_right _ hc
  have lx : xs.length = n * size := by rw [← ht, List.length_take, hs]; omega
  have ld : (xs.drop (i * size)).length = n * size - i * size := by rw [List.length_drop, lx]
  have l1 : c1.length = cap * size := by
    simp only [h1, List.length_append, List.length_take, List.length_drop, hs, lx]
    omega
  have l2 : c2.length = cap * size := by
    rw [h2, List.length_append, List.length_append, List.length_take, List.length_drop, l1, hv]
    omega
  refine ⟨l1, l2, ?_⟩
  have k1 : c1.take (i * size) = xs.take (i * size) := by
    rw [h1, List.append_assoc, List.take_append_of_le_length (by rw [List.length_take, hs]; omega), List.take_take, ← ht, List.take_take]
    congr 1
    omega
  have k2 : c1.drop (i * size + v.length) = xs.drop (i * size) ++ cur.drop ((i + 1) * size + (xs.drop (i * size)).length) := by
    rw [h1, List.append_assoc, List.drop_append_of_le_length (by rw [List.length_take, hs]; omega), hv, List.drop_of_length_le (by rw [List.length_take]; omega), List.nil_append]
  rw [h2, k1, k2, ← List.append_assoc, List.take_append_of_le_length]
  · rw [List.take_of_length_le]
    rw [List.length_append, List.length_append, List.length_take, ld, lx, hv]
    omega
  · rw [List.length_append, List.length_append, List.length_take, ld, lx, hv]
    omega
/-- .. and where a new row is made. -/
theorem ins_grow {zs xs v : List Value} {size n i cap : Nat} (hz : zs.length = cap * size) (lx : xs.length = n * size) (ht : zs.take (i * size) = xs.take (i * size)) (hi : i ≤ n) (hc : n + 1 ≤ cap) (hv : v.length = size)
    (c1 c2 : List Value) (h1 : c1 = zs.take (i * size) ++ v ++ zs.drop (i * size + v.length)) (h2 : c2 = c1.take ((i + 1) * size) ++ xs.drop (i * size) ++ c1.drop ((i + 1) * size + (xs.drop (i * size)).length)) :
    c1.length = cap * size ∧ c2.length = cap * size ∧ c2.take ((n + 1) * size) = xs.take (i * size) ++ v ++ xs.drop (i * size) := by
  have e1 : (i + 1) * size = i * size + size := Nat.succ_mul _ _
  have e2 : (n + 1) * size = n * size + size := Nat.succ_mul _ _
  have e3 : i * size ≤ n * size := Nat.mul_le_mul_right _ hi
  have e4 : (n + 1) * size ≤ cap * size := Nat.mul_le_mul_right _ hc
  have ld : (xs.drop (i * size)).length = n * size - i * size := by rw [List.length_drop, lx]
  have l1 : c1.length = cap * size := by
    rw [h1, List.length_append, List.length_append, List.length_take, List.length_drop, hz, hv]
    omega
  have l2 : c2.length = cap * size := by
    simp only [h2, List.length_append, List.length_take, List.length_drop, l1, lx]
    omega
  refine ⟨l1, l2, ?_⟩
  have k1 : c1.take ((i + 1) * size) = xs.take (i * size) ++ v := by
    rw [h1, ht, List.take_append_of_le_length (by rw [List.length_append, List.length_take, lx, hv]; omega), List.take_of_length_le (by rw [List.length_append, List.length_take, lx, hv]; omega)]
  rw [h2, k1, List.take_append_of_le_length]
  · rw [List.take_of_length_le]
    rw [List.length_append, List.length_append, List.length_take, ld, lx, hv]
    omega
  · rw [List.length_append, List.length_append, List.length_take, ld, lx, hv]
    omega
/-- The operation 'copy' for the walk. -/
theorem wpList_copyN {P : Program} {ops : Array Oper} {rest : List Oper} {o : Oper} {act : Act} {Q : Exit → Act → World → Prop} (w : World) (hgd : o.guard = none) (d s : Operand) (t t' : TypeId)
    (ho : o.op = .call { callee := .builtin .copy, args := #[d, s], argTypes := #[t, t'] }) (v u : Value) (hd : act.eval d = v) (hs : act.eval s = u) {v' : Value} {w' : World}
    (hr : (Builtin.copy_ #[t, t'] o.type #[v, u]).run P w = .ok v' w') (h : wpList P ops Q rest (act.put o.dst v') w') : wpList P ops Q (o :: rest) act w := by
  refine wpList_plain hgd fun K hK => ?_
  unfold Oper.wp execOp
  simp only [ho, resolve, invoke, builtin, Sem.run_bind, Sem.run_pure, Result.andThen_ok, List.map_toArray, List.map_cons, List.map_nil, hd, hs, hr]
  exact hK _ _ h
theorem step_copyN {P : Program} {ops : Array Oper} {o : Oper} {act : Act} {K : Act → World → Prop} {Q : Exit → Act → World → Prop} {F : Prop} (w : World) (hgd : o.guard = none) (d s : Operand) (t t' : TypeId)
    (ho : o.op = .call { callee := .builtin .copy, args := #[d, s], argTypes := #[t, t'] }) (v u : Value) (hd : act.eval d = v) (hs : act.eval s = u) {v' : Value} {w' : World}
    (hr : (Builtin.copy_ #[t, t'] o.type #[v, u]).run P w = .ok v' w') (h : K (act.put o.dst v') w') : if Region.wanted o (yielded ops act.tmps) = true then Oper.wp P o act w K Q else F := by
  have hw : Region.wanted o (yielded ops act.tmps) = true := by simp [Region.wanted, hgd]
  rw [if_pos hw]
  unfold Oper.wp execOp
  simp only [ho, resolve, invoke, builtin, Sem.run_bind, Sem.run_pure, Result.andThen_ok, List.map_toArray, List.map_cons, List.map_nil, hd, hs, hr]
  exact h
end Go.Proofs.YtimkgaokcldgkaaGreatDoor
/- A world that is another but for some blocks. No program here. -/
namespace Go.Proofs.YtimkgaokcldgkaaGreatDoor
open Go Go.RowKit

/-- w' is w but for these blocks, and new ones. -/
structure Only (R : Nat → Prop) (w w' : World) : Prop where
  os : w'.os = w.os
  tape : w'.tape = w.tape
  output : w'.output = w.output
  size : w.heap.size ≤ w'.heap.size
  block : ∀ k, k < w.heap.size → ¬ R k → w'.heap[k]? = w.heap[k]?
theorem Only.refl (R : Nat → Prop) (w : World) : Only R w w := ⟨rfl, rfl, rfl, Nat.le_refl _, fun _ _ _ => rfl⟩
theorem Only.trans {R R' : Nat → Prop} {a b c : World} (h : Only R a b) (k : Only R' b c) (hr : ∀ x, R' x → R x ∨ a.heap.size ≤ x) : Only R a c :=
  ⟨k.os.trans h.os, k.tape.trans h.tape, k.output.trans h.output, Nat.le_trans h.size k.size, fun i hi hne => (k.block i (Nat.lt_of_lt_of_le hi h.size) (fun e => by rcases hr i e with e | e; exact hne e; omega)).trans (h.block i hi hne)⟩
theorem Only.of_below {w w' : World} (R : Nat → Prop) (h : Below w.heap.size w w') : Only R w w' := ⟨h.os, h.tape, h.output, h.size, fun k hk _ => h.block k hk⟩
theorem Only.of_grown {R : Nat → Prop} {w w' : World} {row : Option Nat} (h : w.grownBy w' row) (hr : ∀ k, row = some k → R k) : Only R w w' := ⟨h.os, h.tape, h.output, h.size, fun k hk hne => h.block k hk (fun e => hne (hr k e.symm))⟩
theorem Only.drewN {R : Nat → Prop} {a w : World} (h : Only R a w) (n : Nat) : Only R a (w.drewN n) := ⟨h.os, h.tape, h.output, h.size, h.block⟩
theorem Only.alloc {R : Nat → Prop} {a w : World} (h : Only R a w) (o : Obj) : Only R a (w.alloc o) :=
  h.trans (Only.of_below R ((Below.refl _ _).alloc (Nat.le_refl _) o)) (fun _ h => Or.inl h)
theorem Only.later {R : Nat → Prop} {a w w' : World} (h : Only R a w) (hb : Below w.heap.size w w') : Only R a w' :=
  h.trans (Only.of_below R hb) (fun _ h => Or.inl h)
theorem Only.setCell {R : Nat → Prop} {a w : World} (h : Only R a w) {p : Addr} (hp : R p.block ∨ a.heap.size ≤ p.block) (u : Value) : Only R a (w.setCell p u) :=
  h.trans (Only.of_grown (R := fun k => k = p.block) ⟨rfl, rfl, rfl, by simp [World.setCell], fun k _ hk => Below.heap_setCell w p u k (fun e => hk (by rw [e]))⟩ (fun k e => by cases e; rfl)) (fun x hx => by subst hx; exact hp)
theorem Only.setRow {R : Nat → Prop} {a w : World} (h : Only R a w) {g : Nat} (hp : R g ∨ a.heap.size ≤ g) (cs : Array Value) : Only R a (w.setRow g cs) :=
  h.trans (Only.of_grown (R := fun k => k = g) ⟨rfl, rfl, rfl, by simp, fun k _ hk => setRow_other w g k cs (fun e => hk (by rw [e]))⟩ (fun k e => by cases e; rfl)) (fun x hx => by subst hx; exact hp)
theorem Only.below {R : Nat → Prop} {a w : World} (h : Only R a w) {B : Nat} (hB : B ≤ a.heap.size) (hR : ∀ k, R k → B ≤ k) : Below B a w :=
  ⟨h.os, h.tape, h.output, h.size, fun k hk => h.block k (by omega) (fun e => by have := hR k e; omega)⟩
theorem Box.only {R : Nat → Prop} {w w' : World} {b : Nat} {cs : Array Value} {t : TypeId} (h : Box w b cs t) (ho : Only R w w') (hne : ¬ R b) : Box w' b cs t := (ho.block b h.lt hne).trans h
theorem Own.only {R : Nat → Prop} {w w' : World} {B size n cap : Nat} {E : TypeId} {a : Option Addr} {xs : List Value} (h : Own w B E size a n cap xs) (ho : Only R w w') (hne : ∀ g, a = some ⟨g, 0, none⟩ → ¬ R g) : Own w' B E size a n cap xs :=
  h.blocks fun g e => ho.block g (by subst e; exact h.lt.2) (hne g e)
theorem own_not_box {w : World} {B size n cap H : Nat} {E t : TypeId} {xs : List Value} {g : Nat} {cs : Array Value} (h : Own w B E size (some ⟨g, 0, none⟩) n cap xs) (hb : Box w H cs t) (hne : t ≠ E) : g ≠ H := fun e => by
  subst e
  obtain ⟨cur, hg, _⟩ := h.block
  have : w.heap[g]? = some (.cells cs t (0, 0)) := hb
  rw [hg] at this
  injection this with this
  injection this with _ h2 _
  exact hne h2.symm
theorem own_lt {w : World} {B size n cap k : Nat} {E : TypeId} {a : Option Addr} {xs : List Value} (h : Own w B E size a n cap xs) (hk : a = some ⟨k, 0, none⟩) : k < w.heap.size ∧ B ≤ k := by
  subst hk
  exact ⟨h.lt.2, h.lt.1⟩
theorem box_other {w : World} {b g : Nat} {cs ds : Array Value} {t u : TypeId} (h : Box w b cs t) (k : Box w g ds u) (hne : t ≠ u) : b ≠ g := fun e => by
  subst e
  have h1 : w.heap[b]? = some (.cells cs t (0, 0)) := h
  have h2 : w.heap[b]? = some (.cells ds u (0, 0)) := k
  rw [h1] at h2
  injection h2 with h2
  injection h2 with _ h2 _
  exact hne h2
end Go.Proofs.YtimkgaokcldgkaaGreatDoor
