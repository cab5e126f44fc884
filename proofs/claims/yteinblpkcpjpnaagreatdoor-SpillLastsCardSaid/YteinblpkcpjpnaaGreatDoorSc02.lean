/- Part of a chain: InsR. -/
import Derived.Test.YteinblpkcpjpnaaGreatDoorSc01
import Derived.Lib.Overlaps
import Derived.Lib.AppendZerosOnto
import Derived.Laws.CopyRow
import Derived.Deep.WholeRow
/- Slices of one's own, of elements of any size: copy, and an element laid in between. No program here. -/
namespace Go.Proofs.YteinblpkcpjpnaaGreatDoor
open Go Go.RowKit
set_option linter.unusedVariables false
set_option linter.unusedSimpArgs false

theorem Own.block {w : World} {B g size n cap : Nat} {E : TypeId} {xs : List Value} (h : Own w B E size (some ⟨g, 0, none⟩) n cap xs) :
    ∃ cur, w.heap[g]? = some (.cells cur E (0, 0)) ∧ cur.size = cap * size ∧ cur.toList.take (n * size) = xs ∧ n ≤ cap ∧ cap ≤ maxLen ∧ B ≤ g := by
  rcases h.2 with ⟨e, _⟩ | ⟨g', c, cur, e, hb, hg, hnc, hm, hsz, htake⟩
  · cases e
  · injection e with e1 e2 e3
    injection e1 with e1
    injection e1 with e1
    subst e1
    subst e3
    exact ⟨cur, hg, hsz, htake, hnc, hm, hb⟩
theorem Own.of_block {w : World} {B g size n cap : Nat} {E : TypeId} {xs : List Value} {cur : Array Value} (hg : w.heap[g]? = some (.cells cur E (0, 0))) (hs : cur.size = cap * size) (ht : cur.toList.take (n * size) = xs) (hnc : n ≤ cap) (hm : cap ≤ maxLen) (hB : B ≤ g) :
    Own w B E size (some ⟨g, 0, none⟩) n cap xs := by
  refine ⟨?_, Or.inr ⟨g, cap, cur, rfl, hB, hg, hnc, hm, hs, ht⟩⟩
  rw [← ht, List.length_take, Array.length_toList, hs]
  exact Nat.min_eq_left (Nat.mul_le_mul_right _ hnc)
theorem run_copy_rowN {P : Program} (w : World) (dT sT ty elem : TypeId) (size g o dLen dCap : Nat) (a : Addr) (sLen sCap : Nat) (cur : Array Value) (t : TypeId) (cs : List Value) (m : Nat)
    (hu : P.underlying dT = some (.slice elem)) (hs : (P.info? elem).map (·.size) = some size)
    (hg : w.heap[g]? = some (.cells cur t (0, 0))) (hm : Nat.min sLen dLen = m) (hn : cs.length = m * size)
    (hsrc : ∀ j v, cs[j]? = some v → w.cell? (a.add j) = some v) (hfit : o + cs.length ≤ cur.size) (h1 : ∀ v ∈ cs, v.oneCell' = true) :
    (Builtin.copy_ #[dT, sT] ty #[.slice (some ⟨g, o, none⟩) dLen dCap, .slice (some a) sLen sCap]).run P w =
      .ok (goInt m) (w.setRow g (cur.toList.take o ++ cs ++ cur.toList.drop (o + cs.length)).toArray) := by
  have hl := run_loadCells_list (P := P) w a cs hsrc
  have hst := run_storeCells_at P g o t cs 0 cur w hg (by simpa using hfit) h1
  cases hq : P.info? elem with
  | none => simp [hq] at hs
  | some i =>
    have hi : i.size = size := by simpa [hq] using hs
    rw [hn] at hl
    simp [Builtin.copy_, run_underlying hu, Builtin.lenOf, Builtin.firstCells, sizeOf, typeInfo, hq, hi, hm, hl, hst]
theorem RowTy.sz {P : Program} {T E : TypeId} {size bytes : Nat} (h : RowTy P T E size bytes) : (P.info? E).map (·.size) = some size := by
  obtain ⟨i, z, h1, h2, h3, h4, h5⟩ := h.parts
  rw [h1]
  exact congrArg some h3
/-- The two copies by which an element is laid in between, where there is room: the cells. -/
theorem ins_cells {cur xs v : List Value} {size n i cap : Nat} (hs : cur.length = cap * size) (ht : cur.take (n * size) = xs) (hi : i ≤ n) (hc : n + 1 ≤ cap) (hv : v.length = size)
    (c1 c2 : List Value) (h1 : c1 = cur.take ((i + 1) * size) ++ xs.drop (i * size) ++ cur.drop ((i + 1) * size + (xs.drop (i * size)).length)) (h2 : c2 = c1.take (i * size) ++ v ++ c1.drop (i * size + v.length)) :
    c1.length = cap * size ∧ c2.length = cap * size ∧ c2.take ((n + 1) * size) = xs.take (i * size) ++ v ++ xs.drop (i * size) := by
  have e1 : (i + 1) * size = i * size + size := Nat.succ_mul _ _
  have e2 : (n + 1) * size = n * size + size := Nat.succ_mul _ _
  have e3 : i * size ≤ n * size := Nat.mul_le_mul_right _ hi
  have e4 : (n + 1) * size ≤ cap * size := Nat.mul_le_mul_right _ hc
  have lx : xs.length = n * size := by rw [← ht, List.length_take, hs]; omega
  have ld : (xs.drop (i * size)).length = n * size - i * size := by rw [List.length_drop, lx]
  have l1 : c1.length = cap * size := by
    simp only [h1, List.length_append, List.length_take, List.length_drop, hs, lx]
    omega
  have l2 : c2.length = cap * size := by
    rw [h2, List.length_append, List.length_append, List.length_take, List.length_drop, l1, hv]
    omega
  refine ⟨l1, l2, ?_⟩
  have k1 : c1.take (i * size) = xs.take (i * size) := by
    rw [h1, List.append_assoc, List.take_append_of_le_length (by rw [List.length_take, hs]; omega), List.take_take, ← ht, List.take_take]
    congr 1
    omega
  have k2 : c1.drop (i * size + v.length) = xs.drop (i * size) ++ cur.drop ((i + 1) * size + (xs.drop (i * size)).length) := by
    rw [h1, List.append_assoc, List.drop_append_of_le_length (by rw [List.length_take, hs]; omega), hv, List.drop_of_length_le (by rw [List.length_take]; omega), List.nil_append]
  rw [h2, k1, k2, ← List.append_assoc, List.take_append_of_le_length]
  · rw [List.take_of_length_le]
    rw [List.length_append, List.length_append, List.length_take, ld, lx, hv]
    omega
  · rw [List.length_append, List.length_append, List.length_take, ld, lx, hv]
    omega
/-- .. and where a new row is made. -/
theorem ins_grow {zs xs v : List Value} {size n i cap : Nat} (hz : zs.length = cap * size) (lx : xs.length = n * size) (ht : zs.take (i * size) = xs.take (i * size)) (hi : i ≤ n) (hc : n + 1 ≤ cap) (hv : v.length = size)
    (c1 c2 : List Value) (h1 : c1 = zs.take (i * size) ++ v ++ zs.drop (i * size + v.length)) (h2 : c2 = c1.take ((i + 1) * size) ++ xs.drop (i * size) ++ c1.drop ((i + 1) * size + (xs.drop (i * size)).length)) :
    c1.length = cap * size ∧ c2.length = cap * size ∧ c2.take ((n + 1) * size) = xs.take (i * size) ++ v ++ xs.drop (i * size) := by
  have e1 : (i + 1) * size = i * size + size := Nat.succ_mul _ _
  have e2 : (n + 1) * size = n * size + size := Nat.succ_mul _ _
  have e3 : i * size ≤ n * size := Nat.mul_le_mul_right _ hi
  have e4 : (n + 1) * size ≤ cap * size := Nat.mul_le_mul_right _ hc
  have ld : (xs.drop (i * size)).length = n * size - i * size := by rw [List.length_drop, lx]
  have l1 : c1.length = cap * size := by
    rw [h1, List.length_append, List.length_append, List.length_take, List.length_drop, hz, hv]
    omega
  have l2 : c2.length = cap * size := by
    simp only [h2, List.length_append, List.length_take, List.length_drop, l1, lx]
    omega
  refine ⟨l1, l2, ?_⟩
  have k1 : c1.take ((i + 1) * size) = xs.take (i * size) ++ v := by
    rw [h1, ht, List.take_append_of_le_length (by rw [List.length_append, List.length_take, lx, hv]; omega), List.take_of_length_le (by rw [List.length_append, List.length_take, lx, hv]; omega)]
  rw [h2, k1, List.take_append_of_le_length]
  · rw [List.take_of_length_le]
    rw [List.length_append, List.length_append, List.length_take, ld, lx, hv]
    omega
  · rw [List.length_append, List.length_append, List.length_take, ld, lx, hv]
    omega
/-- The operation 'copy' for the walk. -/
theorem wpList_copyN {P : Program} {ops : Array Oper} {rest : List Oper} {o : Oper} {act : Act} {Q : Exit → Act → World → Prop} (w : World) (hgd : o.guard = none) (d s : Operand) (t t' : TypeId)
    (ho : o.op = .call { callee := .builtin .copy, args := #[d, s], argTypes := #[t, t'] }) (v u : Value) (hd : act.eval d = v) (hs : act.eval s = u) {v' : Value} {w' : World}
    (hr : (Builtin.copy_ #[t, t'] o.type #[v, u]).run P w = .ok v' w') (h : wpList P ops Q rest (act.put o.dst v') w') : wpList P ops Q (o :: rest) act w := by
  refine wpList_plain hgd fun K hK => ?_
  unfold Oper.wp execOp
  simp only [ho, resolve, invoke, builtin, Sem.run_bind, Sem.run_pure, Result.andThen_ok, List.map_toArray, List.map_cons, List.map_nil, hd, hs, hr]
  exact hK _ _ h
theorem step_copyN {P : Program} {ops : Array Oper} {o : Oper} {act : Act} {K : Act → World → Prop} {Q : Exit → Act → World → Prop} {F : Prop} (w : World) (hgd : o.guard = none) (d s : Operand) (t t' : TypeId)
    (ho : o.op = .call { callee := .builtin .copy, args := #[d, s], argTypes := #[t, t'] }) (v u : Value) (hd : act.eval d = v) (hs : act.eval s = u) {v' : Value} {w' : World}
    (hr : (Builtin.copy_ #[t, t'] o.type #[v, u]).run P w = .ok v' w') (h : K (act.put o.dst v') w') : if Region.wanted o (yielded ops act.tmps) = true then Oper.wp P o act w K Q else F := by
  have hw : Region.wanted o (yielded ops act.tmps) = true := by simp [Region.wanted, hgd]
  rw [if_pos hw]
  unfold Oper.wp execOp
  simp only [ho, resolve, invoke, builtin, Sem.run_bind, Sem.run_pure, Result.andThen_ok, List.map_toArray, List.map_cons, List.map_nil, hd, hs, hr]
  exact h
end Go.Proofs.YteinblpkcpjpnaaGreatDoor
