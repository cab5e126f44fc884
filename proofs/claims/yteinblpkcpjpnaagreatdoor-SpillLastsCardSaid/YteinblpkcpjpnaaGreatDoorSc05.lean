/- Part of a chain: Elm. -/
import Derived.Test.YteinblpkcpjpnaaGreatDoorSc02
import Derived.Test.YteinblpkcpjpnaaGreatDoorSc03
import Derived.Test.YteinblpkcpjpnaaGreatDoorSc04
import Derived.Test.YteinblpkcpjpnaaGreatDoorSc01
import Derived.Sort.Lot0
import Derived.Laws.CopyRow
/- Elements of k cells in a row of one's own: loads and stores of whole elements. No program here. -/
namespace Go.Proofs.YteinblpkcpjpnaaGreatDoor
open Go Go.RowKit Go.Sort
set_option linter.unusedVariables false
set_option linter.unusedSimpArgs false

theorem run_loadVar_at {P : Program} {w : World} {g o : Nat} {ty : TypeId} {cs : Array Value} {d : TypeDesc} (hc : ∀ j v, cs[j]? = some v → w.cell? ⟨g, o + j, none⟩ = some v)
    (hu : P.underlying ty = some d) (hd : (match d with | .struct _ | .array _ _ => true | _ => false) = true) (hi : (P.info? ty).map (·.size) = some cs.size) :
    (loadVar ty ⟨g, o, none⟩).run P w = .ok (.agg cs) w := by
  have hl : (loadCells ⟨g, o, none⟩ cs.toList.length).run P w = .ok cs.toList.toArray w :=
    run_loadCells_list (P := P) w ⟨g, o, none⟩ cs.toList (fun j v hv => by
      have hadd : (⟨g, o, none⟩ : Addr).add j = ⟨g, o + j, none⟩ := by unfold Addr.add; split <;> simp_all
      rw [hadd]
      exact hc j v (by simpa using hv))
  cases hq : P.info? ty with
  | none => simp [hq] at hi
  | some i =>
    have hs : i.size = cs.size := by simpa [hq] using hi
    have hagg : (isAgg ty).run P w = .ok true w := by
      unfold isAgg
      rw [Sem.run_bind, run_underlying hu w]
      cases d <;> simp_all
    simp only [Array.length_toList, Array.toArray_toList] at hl
    simp [loadVar, Sem.run_bind, hagg, sizeOf, typeInfo, hq, hs, hl]
theorem exec_load_at {P : Program} {w : World} {ev : Operand → Value} {o : Oper} {ty : TypeId} {x : Operand} {g off : Nat} {cs : Array Value} {d : TypeDesc} (ho : o.op = .load ty x) (hx : ev x = .pointer (some ⟨g, off, none⟩)) (hc : ∀ j v, cs[j]? = some v → w.cell? ⟨g, off + j, none⟩ = some v)
    (hu : P.underlying ty = some d) (hd : (match d with | .struct _ | .array _ _ => true | _ => false) = true) (hi : (P.info? ty).map (·.size) = some cs.size) :
    (execOp ev o).run P w = .ok (.value (.agg cs)) w := by
  unfold execOp
  simp only [ho, hx, Instr.loadAt, Instr.sureAddr, Sem.run_bind, Sem.run_pure, Result.andThen_ok, run_loadVar_at hc hu hd hi]
section
variable {α : Type} [Inhabited α] {enc : α → List Value} {k : Nat}
def flE (enc : α → List Value) (l : List α) : List Value := l.flatMap enc
omit [Inhabited α] in
theorem flE_len (hk : ∀ x, (enc x).length = k) : ∀ l : List α, (flE enc l).length = l.length * k
  | [] => by simp [flE]
  | x :: t => by
    have e : flE enc (x :: t) = enc x ++ flE enc t := by simp [flE]
    rw [e, List.length_append, hk, flE_len hk t, List.length_cons, Nat.succ_mul]
    omega
omit [Inhabited α] in
theorem flE_at (hk : ∀ x, (enc x).length = k) {j : Nat} (hj : j < k) : ∀ {l : List α} {i : Nat} {x : α}, l[i]? = some x → (flE enc l)[i * k + j]? = (enc x)[j]?
  | [], i, x, h => by simp at h
  | q :: t, i, x, h => by
    have e : flE enc (q :: t) = enc q ++ flE enc t := by simp [flE]
    rw [e]
    cases i with
    | zero =>
      have := Option.some.inj (by simpa using h)
      subst this
      rw [Nat.zero_mul, Nat.zero_add, List.getElem?_append_left (by rw [hk]; exact hj)]
    | succ i =>
      rw [List.getElem?_append_right (by rw [hk, Nat.succ_mul]; omega), show (i + 1) * k + j - (enc q).length = i * k + j by rw [hk, Nat.succ_mul]; omega]
      exact flE_at hk hj (by simpa using h)
omit [Inhabited α] in
theorem flE_set (hk : ∀ x, (enc x).length = k) (y : α) : ∀ (l : List α) (i : Nat), i < l.length → flE enc (l.set i y) = (flE enc l).take (i * k) ++ enc y ++ (flE enc l).drop (i * k + k)
  | [], i, h => by simp at h
  | q :: t, i, h => by
    have e : ∀ (z : α) (u : List α), flE enc (z :: u) = enc z ++ flE enc u := fun z u => by simp [flE]
    cases i with
    | zero =>
      rw [List.set_cons_zero, e, e, Nat.zero_mul, List.take_zero, List.nil_append, Nat.zero_add, List.drop_append_of_le_length (by rw [hk]; exact Nat.le_refl _)]
      rw [show (enc q).drop k = [] from List.drop_of_length_le (by rw [hk]; exact Nat.le_refl _), List.nil_append]
    | succ i =>
      have h1 : (i + 1) * k = (enc q).length + i * k := by rw [hk, Nat.succ_mul]; omega
      have t1 : (enc q ++ flE enc t).take ((enc q).length + i * k) = enc q ++ (flE enc t).take (i * k) := by
        rw [List.take_append, List.take_of_length_le (Nat.le_add_right _ _)]
        congr 2
        omega
      have t2 : (enc q ++ flE enc t).drop ((enc q).length + i * k + k) = (flE enc t).drop (i * k + k) := by
        rw [List.drop_append, List.drop_of_length_le (by omega), List.nil_append]
        congr 1
        omega
      rw [List.set_cons_succ, e, e, flE_set hk y t i (by simpa using h), h1, t1, t2]
      simp
omit [Inhabited α] in
/-- What lies at an element's cells. -/
theorem own_elem {w : World} {B g n c : Nat} {E : TypeId} {l : List α} (hk : ∀ x, (enc x).length = k) (h : Own w B E k (some ⟨g, 0, none⟩) n c (flE enc l)) {i : Nat} {x : α} (hx : l[i]? = some x) (j : Nat) (v : Value) (hv : (enc x).toArray[j]? = some v) : w.cell? ⟨g, i * k + j, none⟩ = some v := by
  have hv : (enc x)[j]? = some v := by simpa using hv
  have hj : j < k := by rw [← hk x]; exact (List.getElem?_eq_some_iff.1 hv).1
  exact h.cell (by rw [flE_at hk hj hx]; exact hv)
omit [Inhabited α] in
/-- A whole element is stored. -/
theorem own_store {P : Program} {w : World} {B g n c : Nat} {E : TypeId} {l : List α} (hk : ∀ x, (enc x).length = k) (h1 : ∀ x, ∀ v ∈ enc x, v.oneCell' = true) (hsz : (P.info? E).map (·.size) = some k) (h : Own w B E k (some ⟨g, 0, none⟩) n c (flE enc l)) (hl : l.length = n) {i : Nat} (hi : i < n) (y : α) :
    ∃ w', (Instr.storeAt E (.pointer (some ⟨g, i * k, none⟩)) (.agg (enc y).toArray)).run P w = .ok () w' ∧ Own w' B E k (some ⟨g, 0, none⟩) n c (flE enc (l.set i y)) ∧ w.grownBy w' (some g) ∧ w'.heap.size = w.heap.size ∧ w'.drawn = w.drawn := by
  obtain ⟨cur, hg, hs, ht, hnc, hm, hB⟩ := h.block
  have hin : i * k + k ≤ n * k := by
    have := Nat.mul_le_mul_right k (show i + 1 ≤ n from hi)
    rwa [Nat.succ_mul] at this
  have hnu : n * k ≤ c * k := Nat.mul_le_mul_right _ hnc
  have hst := run_storeCells_at P g (i * k) E (enc y) 0 cur w hg (by rw [hs, hk]; omega) (h1 y)
  obtain ⟨inf, hq, hi2⟩ := Option.map_eq_some_iff.1 hsz
  refine ⟨w.setRow g (cur.toList.take (i * k + 0) ++ enc y ++ cur.toList.drop (i * k + 0 + (enc y).length)).toArray, ?_, ?_, ?_, by simp, rfl⟩
  · simp only [Instr.storeAt, Instr.sureAddr, Sem.run_bind, Sem.run_pure, Result.andThen]
    simp [storeVar, sizeOf, typeInfo, hq, Value.cells, hi2, hk]
    simpa [hk] using hst
  · refine Own.of_block (setRow_heap _ _ _ _ _ _ hg) ?_ ?_ hnc hm hB
    · have hcl : cur.toList.length = c * k := by rw [Array.length_toList, hs]
      simp only [List.size_toArray, List.length_append, List.length_take, List.length_drop, hcl, hk, Nat.add_zero]
      omega
    · rw [flE_set hk y l i (by omega)]
      have htk : (flE enc l).take (i * k) = cur.toList.take (i * k) := by rw [← ht, List.take_take, Nat.min_eq_left (by omega)]
      have hdr : (flE enc l).drop (i * k + k) = (cur.toList.drop (i * k + k)).take (n * k - (i * k + k)) := by rw [← ht, List.drop_take]
      have hcl : cur.toList.length = c * k := by rw [Array.length_toList, hs]
      rw [htk, hdr]
      simp only [Nat.add_zero, hk]
      have hl1 : (cur.toList.take (i * k)).length = i * k := by rw [List.length_take, hcl]; omega
      rw [List.take_append, List.take_of_length_le (by rw [List.length_append, hl1, hk]; omega), List.length_append, hl1, hk]
  · exact ⟨rfl, rfl, rfl, by simp, fun j _ hj => setRow_other w g j _ (fun e => hj (by rw [e]))⟩
omit [Inhabited α] in
theorem step_storeE {P : Program} {ops : Array Oper} {o : Oper} {act : Act} {K : Act → World → Prop} {Q : Exit → Act → World → Prop} {F : Prop} {w : World} (hgd : o.guard = none) {E : TypeId} {x y : Operand} (ho : o.op = .store E x y) {B g n c i : Nat} {l : List α} {e : α}
    (hx : act.eval x = .pointer (some ⟨g, i * k, none⟩)) (hy : act.eval y = .agg (enc e).toArray) (hk : ∀ x, (enc x).length = k) (h1 : ∀ x, ∀ v ∈ enc x, v.oneCell' = true) (hsz : (P.info? E).map (·.size) = some k) (hown : Own w B E k (some ⟨g, 0, none⟩) n c (flE enc l)) (hl : l.length = n) (hi : i < n)
    (h : ∀ w', Own w' B E k (some ⟨g, 0, none⟩) n c (flE enc (l.set i e)) → w.grownBy w' (some g) → w'.drawn = w.drawn → K (act.put o.dst undef) w') : if Region.wanted o (yielded ops act.tmps) = true then Oper.wp P o act w K Q else F := by
  have hw : Region.wanted o (yielded ops act.tmps) = true := by simp [Region.wanted, hgd]
  rw [if_pos hw]
  obtain ⟨w', hs, q1, q2, _, q3⟩ := own_store (P := P) hk h1 hsz hown hl hi e
  unfold Oper.wp execOp
  simp only [ho, hx, hy, Sem.run_bind, Sem.run_pure, hs, Result.andThen_ok]
  exact h w' q1 q2 q3
theorem swp_list (d : Array α) {i j : Nat} (hi : i < d.size) (hj : j < d.size) {x y : α} (hx : d.toList[i]? = some x) (hy : d.toList[j]? = some y) : (swp d i j).toList = (d.toList.set i y).set j x := by
  have e1 : d[i]! = x := by rw [getElem!_pos d i hi]; simpa [hi] using hx
  have e2 : d[j]! = y := by rw [getElem!_pos d j hj]; simpa [hj] using hy
  unfold swp
  rw [e1, e2]
  simp
end
end Go.Proofs.YteinblpkcpjpnaaGreatDoor
