/- The library's DeleteFunc over pieces: the loop. -/
import Derived.Test.YtomeipjglnpciaaDkDel
namespace Go.Proofs.Ytomeipjglnpciaa
open Go Go.RowKit Go.Maps
set_option linter.unusedVariables false
set_option linter.unusedSimpArgs false
set_option maxRecDepth 10000

theorem pcC_take (u : Pcs) (k : Nat) : pcC (u.take k) = (pcC u).take (k * 2) := by
  induction u generalizing k with
  | nil => simp [pcC]
  | cons q t ih =>
    cases k with
    | zero => simp [pcC]
    | succ j =>
      rw [List.take_succ_cons, show (j + 1) * 2 = j * 2 + 1 + 1 by omega]
      show pcL q ++ pcC (t.take j) = (pcL q ++ pcC t).take _
      rw [ih]
      rfl
theorem pcC_drop (u : Pcs) (k : Nat) : pcC (u.drop k) = (pcC u).drop (k * 2) := by
  induction u generalizing k with
  | nil => simp [pcC]
  | cons q t ih =>
    cases k with
    | zero => simp
    | succ j =>
      rw [List.drop_succ_cons, show (j + 1) * 2 = j * 2 + 1 + 1 by omega]
      show pcC (t.drop j) = (pcL q ++ pcC t).drop _
      rw [ih]
      rfl
def keepP (id : Int) (u : Pcs) : Pcs := u.filter fun q => !pcB id q
theorem keepP_le (id : Int) (u : Pcs) : (keepP id u).length ≤ u.length := List.length_filter_le _ _
theorem keepP_snoc (id : Int) {u : Pcs} {j : Nat} {q : Int × Nat} (h : u[j]? = some q) : keepP id (u.take (j + 1)) = keepP id (u.take j) ++ if pcB id q then [] else [q] := by
  unfold keepP
  rw [List.take_add_one, h, List.filter_append]
  cases hb : pcB id q <;> simp [hb]
/-- The row while elements are moved up. -/
structure DelS (w wr : World) (B g n uc : Nat) (u : Pcs) (id : Int) (i j : Nat) (xs : List Value) : Prop where
  own : Own wr B 54 2 (some ⟨g, 0, none⟩) n uc xs
  only : Only (fun k => k = g) w wr
  head : xs.take (i * 2) = pcC (keepP id (u.take j))
  tail : xs.drop (j * 2) = pcC (u.drop j)
  len : (keepP id (u.take j)).length = i
theorem DelS.later {w wr w' : World} {B g n uc i j : Nat} {u : Pcs} {id : Int} {xs : List Value} (h : DelS w wr B g n uc u id i j xs) (hb : Below wr.heap.size wr w') : DelS w w' B g n uc u id i j xs :=
  ⟨h.own.later hb, h.only.later hb, h.head, h.tail, h.len⟩
theorem DelS.skip {w wr : World} {B g n uc i j : Nat} {u : Pcs} {id : Int} {xs : List Value} (h : DelS w wr B g n uc u id i j xs) {q : Int × Nat} (hq : u[j]? = some q) (hp : pcB id q = true) : DelS w wr B g n uc u id i (j + 1) xs := by
  have hk := keepP_snoc id hq
  rw [hp, if_pos rfl, List.append_nil] at hk
  refine ⟨h.own, h.only, by rw [hk]; exact h.head, ?_, by rw [hk]; exact h.len⟩
  have := h.tail
  rw [show (j + 1) * 2 = j * 2 + 2 by omega, ← List.drop_drop, this]
  obtain ⟨h1, h2⟩ := List.getElem?_eq_some_iff.1 hq
  rw [List.drop_eq_getElem_cons h1]
  rfl
theorem DelS.move {w wr w' : World} {B g n uc i j : Nat} {u : Pcs} {id : Int} {xs : List Value} (h : DelS w wr B g n uc u id i j xs) {q : Int × Nat} (hq : u[j]? = some q) (hp : pcB id q = false) (hij : i < j) (hjn : j < n)
    (ho : Own w' B 54 2 (some ⟨g, 0, none⟩) n uc ((xs.set (i * 2) (.int .i64 q.1)).set (i * 2 + 1) (.int .i64 (q.2 : Int)))) (hg : wr.grownBy w' (some g)) :
    DelS w w' B g n uc u id (i + 1) (j + 1) ((xs.set (i * 2) (.int .i64 q.1)).set (i * 2 + 1) (.int .i64 (q.2 : Int))) := by
  have hk := keepP_snoc id hq
  rw [hp, if_neg (by decide)] at hk
  have hl := h.own.len
  refine ⟨ho, h.only.trans (Only.of_grown (R := fun k => k = g) hg fun k hk => (Option.some.inj hk).symm) (fun x hx => Or.inl hx), ?_, ?_, by rw [hk, List.length_append, h.len]; rfl⟩
  · rw [hk, pcC_app, ← h.head]
    apply List.ext_getElem?
    intro m
    rw [List.getElem?_take]
    by_cases hm : m < i * 2
    · rw [if_pos (by omega), List.getElem?_set_ne (by omega), List.getElem?_set_ne (by omega), List.getElem?_append_left (by rw [List.length_take]; omega), List.getElem?_take, if_pos hm]
    · have hlt : (xs.take (i * 2)).length = i * 2 := by rw [List.length_take]; omega
      rw [List.getElem?_append_right (by omega), hlt]
      by_cases h0 : m = i * 2
      · subst h0
        rw [if_pos (by omega), List.getElem?_set_ne (by omega), List.getElem?_set_self (by omega), Nat.sub_self]
        rfl
      · by_cases h1 : m = i * 2 + 1
        · subst h1
          rw [if_pos (by omega), List.getElem?_set_self (by rw [List.length_set]; omega), show i * 2 + 1 - i * 2 = 1 by omega]
          rfl
        · rw [if_neg (by omega), List.getElem?_eq_none]
          show (pcL q ++ pcC []).length ≤ m - i * 2
          show 2 ≤ m - i * 2
          omega
  · have ht := h.tail
    obtain ⟨h1, h2⟩ := List.getElem?_eq_some_iff.1 hq
    have e : u.drop j = q :: u.drop (j + 1) := by rw [List.drop_eq_getElem_cons h1, h2]
    rw [e] at ht
    have e2 : (xs.drop (j * 2)).drop 2 = pcC (u.drop (j + 1)) := by rw [ht]; rfl
    rw [List.drop_drop, show j * 2 + 2 = (j + 1) * 2 by omega] at e2
    rw [← e2]
    apply List.ext_getElem?
    intro m
    rw [List.getElem?_drop, List.getElem?_drop, List.getElem?_set_ne (by omega), List.getElem?_set_ne (by omega)]
theorem put2 {cur : List Value} {a b : Value} {o m : Nat} (h : o + 2 ≤ m) (hm : m ≤ cur.length) : (cur.take o ++ [a, b] ++ cur.drop (o + 2)).take m = ((cur.take m).set o a).set (o + 1) b := by
  apply List.ext_getElem?
  intro k
  have l1 : (cur.take o).length = o := by rw [List.length_take]; omega
  have l2 : (cur.take o ++ [a, b]).length = o + 2 := by rw [List.length_append, l1]; rfl
  rw [List.getElem?_take]
  by_cases hk : k < m
  · rw [if_pos hk]
    by_cases h1 : k = o + 1
    · subst h1
      rw [List.getElem?_set_self (by rw [List.length_set, List.length_take]; omega), List.getElem?_append_left (by omega), List.getElem?_append_right (by omega), l1, show o + 1 - o = 1 by omega]
      rfl
    · rw [List.getElem?_set_ne (by omega)]
      by_cases h0 : k = o
      · subst h0
        rw [List.getElem?_set_self (by rw [List.length_take]; omega), List.getElem?_append_left (by omega), List.getElem?_append_right (by omega), l1, Nat.sub_self]
        rfl
      · rw [List.getElem?_set_ne (by omega), List.getElem?_take, if_pos hk]
        by_cases h2 : k < o
        · rw [List.getElem?_append_left (by omega), List.getElem?_append_left (by omega), List.getElem?_take, if_pos h2]
        · rw [List.getElem?_append_right (by omega), l2, List.getElem?_drop, show o + 2 + (k - (o + 2)) = k by omega]
  · rw [if_neg hk, List.getElem?_eq_none]
    rw [List.length_set, List.length_set, List.length_take]
    omega
theorem storeP {wr : World} {B g n uc i : Nat} {xs : List Value} (h : Own wr B 54 2 (some ⟨g, 0, none⟩) n uc xs) (hi : i < n) (x : Int) (z : Int) :
    ∃ w', (Instr.storeAt 54 (.pointer (some ⟨g, i * 2, none⟩)) (.agg #[.int .i64 x, .int .i64 z])).run Try.prog wr = .ok () w' ∧ Own w' B 54 2 (some ⟨g, 0, none⟩) n uc ((xs.set (i * 2) (.int .i64 x)).set (i * 2 + 1) (.int .i64 z)) ∧ wr.grownBy w' (some g) := by
  obtain ⟨cur, hg, hs, ht, hnc, hm, hB⟩ := h.block
  have hin : i * 2 + 2 ≤ n * 2 := by omega
  have hnu : n * 2 ≤ uc * 2 := Nat.mul_le_mul_right _ hnc
  have hst := run_storeCells_at Try.prog g (i * 2) 54 [.int .i64 x, .int .i64 z] 0 cur wr hg (by rw [hs]; show i * 2 + 0 + 2 ≤ _; omega) (fun v hv => by
    rcases List.mem_cons.1 hv with rfl | hv
    · rfl
    · rcases List.mem_cons.1 hv with rfl | hv
      · rfl
      · cases hv)
  have hsz : (Try.prog.info? 54).map (·.size) = some 2 := by kernel_rfl
  obtain ⟨inf, hq, hi2⟩ := Option.map_eq_some_iff.1 hsz
  refine ⟨wr.setRow g (cur.toList.take (i * 2 + 0) ++ [Value.int .i64 x, Value.int .i64 z] ++ cur.toList.drop (i * 2 + 0 + 2)).toArray, ?_, ?_, ?_⟩
  · simp only [Instr.storeAt, Instr.sureAddr, Sem.run_bind, Sem.run_pure, Result.andThen]
    simp [storeVar, sizeOf, typeInfo, hq, Value.cells, hi2]
    simpa using hst
  · refine Own.of_block (setRow_heap _ _ _ _ _ _ hg) ?_ ?_ hnc hm hB
    · simp [hs]
      omega
    · rw [← ht]
      show (List.take (n * 2) _) = _
      simp only [Nat.add_zero]
      exact put2 hin (by rw [Array.length_toList, hs]; exact hnu)
  · exact ⟨rfl, rfl, rfl, by simp, fun k _ hk => setRow_other wr g k _ (fun e => hk (by rw [e]))⟩
theorem DelS.at {w wr : World} {B g n uc i j : Nat} {u : Pcs} {id : Int} {xs : List Value} (h : DelS w wr B g n uc u id i j xs) {q : Int × Nat} (hq : u[j]? = some q) : wr.cell? ⟨g, j * 2, none⟩ = some (.int .i64 q.1) ∧ wr.cell? ⟨g, j * 2 + 1, none⟩ = some (.int .i64 (q.2 : Int)) := by
  obtain ⟨h1, h2⟩ := List.getElem?_eq_some_iff.1 hq
  have e : u.drop j = q :: u.drop (j + 1) := by rw [List.drop_eq_getElem_cons h1, h2]
  have ht := h.tail
  rw [e] at ht
  have h0 : (xs.drop (j * 2))[0]? = some (.int .i64 q.1) := by rw [ht]; rfl
  have h3 : (xs.drop (j * 2))[1]? = some (.int .i64 (q.2 : Int)) := by rw [ht]; rfl
  rw [List.getElem?_drop] at h0 h3
  exact ⟨h.own.cell h0, h.own.cell h3⟩
theorem clearP {wr : World} {B g n uc i : Nat} {xs : List Value} (h : Own wr B 54 2 (some ⟨g, 0, none⟩) n uc xs) (hi : i < n) (ty : TypeId) :
    ∃ w', (Builtin.clear_ #[49] ty #[.slice (some ⟨g, i * 2, none⟩) (n - i) (uc - i)]).run Try.prog wr = .ok (.tuple #[]) w' ∧ Own w' B 54 2 (some ⟨g, 0, none⟩) i uc (xs.take (i * 2)) ∧ wr.grownBy w' (some g) := by
  obtain ⟨cur, hg, hs, ht, hnc, hm, hB⟩ := h.block
  have hv : ∀ w, (zeroValue 54).run Try.prog w = .ok (.agg #[.int .i64 0, .int .i64 0]) w := fun w => by kernel_rfl
  obtain ⟨cs, hcs⟩ : ∃ cs, (Builtin.zeroCells (Value.agg #[.int .i64 0, .int .i64 0]).cells (n - i)).toList = cs := ⟨_, rfl⟩
  have hcl : cs.length = (n - i) * 2 := by rw [← hcs]; simp [Builtin.zeroCells, Value.cells]
  have hc1 : ∀ v ∈ cs, v.oneCell' = true := fun v hv' => by
    rw [← hcs] at hv'
    simp [Builtin.zeroCells, Value.cells] at hv'
    obtain ⟨x, hx, rfl⟩ := hv'
    have h2 : x % 2 = 0 ∨ x % 2 = 1 := by omega
    rcases h2 with e | e <;> (rw [e]; rfl)
  have hfit : i * 2 + 0 + cs.length ≤ cur.size := by
    rw [hcl, hs]
    have : (i + (n - i)) * 2 ≤ uc * 2 := Nat.mul_le_mul_right _ (by omega)
    rw [Nat.add_mul] at this
    omega
  have hst := run_storeCells_at Try.prog g (i * 2) 54 cs 0 cur wr hg hfit hc1
  obtain ⟨m, hm2⟩ : ∃ m, n - i = m + 1 := ⟨n - i - 1, by omega⟩
  refine ⟨wr.setRow g (cur.toList.take (i * 2 + 0) ++ cs ++ cur.toList.drop (i * 2 + 0 + cs.length)).toArray, ?_, ?_, ?_⟩
  · rw [hm2] at hcs ⊢
    simp [Builtin.clear_, run_underlying Try.underlying49, hv, hcs, hst]
  · refine Own.of_block (setRow_heap _ _ _ _ _ _ hg) ?_ ?_ (by omega) hm hB
    · simp [hs] at hfit ⊢
      omega
    · have hlt : (cur.toList.take (i * 2 + 0)).length = i * 2 := by
        rw [List.length_take, Array.length_toList]
        omega
      simp only [List.append_assoc]
      rw [List.take_append_of_le_length (by rw [hlt]; exact Nat.le_refl _), ← ht, List.take_take, List.take_take, Nat.add_zero, Nat.min_self, Nat.min_eq_left (by omega)]
  · exact ⟨rfl, rfl, rfl, by simp, fun k _ hk => setRow_other wr g k _ (fun e => hk (by rw [e]))⟩
end Go.Proofs.Ytomeipjglnpciaa
