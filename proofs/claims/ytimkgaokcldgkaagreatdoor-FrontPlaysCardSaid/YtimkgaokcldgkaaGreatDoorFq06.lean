/- Part of a chain: ApE. -/
import Derived.Test.YtimkgaokcldgkaaGreatDoorFq05
import Derived.Deep.Upon
/- Elements of any number appended to a row of one's own; parts of a slice. No program here. -/
namespace Go.Proofs.YtimkgaokcldgkaaGreatDoor
open Go Go.RowKit
set_option linter.unusedVariables false

theorem run_app0R {P : Program} {T E : TypeId} {size bytes : Nat} (hT : RowTy P T E size bytes) (ty : TypeId) (a : Option Addr) (n cap : Nat) (hle : n ≤ cap) (a2 : Option Addr) (c2 : Nat) (w : World) :
    (Builtin.append_ #[T, T] ty #[.slice a n cap, .slice a2 0 c2]).run P w = .ok (.slice a n cap) w := by
  obtain ⟨i, z, hi, hz, hs, hb, hzs⟩ := hT.parts
  refine run_append_nothing w T T ty E i hT.und hi a n cap hle _ ?_
  cases a2 with
  | none => exact Src.ofNil w hT.und c2
  | some p => exact Src.ofSlice w hT.und p 0 c2 [] (by simp) (fun j u hj => by simp at hj) (fun u hu => by cases hu)
/-- What can be read behind a slice's address. -/
def RdC (w : World) (a2 : Option Addr) (ys : List Value) : Prop := ∀ j u, ys[j]? = some u → ∃ b2 off2, a2 = some ⟨b2, off2, none⟩ ∧ w.cell? ⟨b2, off2 + j, none⟩ = some u
theorem RdC.later {w w' : World} {a2 : Option Addr} {ys : List Value} (h : RdC w a2 ys) (hb : Below w.heap.size w w') : RdC w' a2 ys := fun j u hj => by
  obtain ⟨b, o, e, hc⟩ := h j u hj
  exact ⟨b, o, e, (hb.cell (World.block_lt_of_cell? _ _ hc)).trans hc⟩
/-- The rest of a slice: what comes of the expression. -/
theorem sliceFrom_off {P : Program} {T E : TypeId} {size bytes : Nat} (hT : RowTy P T E size bytes) (g len cap k : Nat) (hk : k ≤ len) (hc : len ≤ cap) :
    ∃ off, (∀ w : World, (Instr.sliceAt T (.slice (some ⟨g, 0, none⟩) len cap) (some (.int .i64 k)) none none).run P w = .ok (.slice (some ⟨g, off, none⟩) (len - k) (cap - k)) w) ∧ (k < len → off = k * size) := by
  obtain ⟨i, z, hi, hz, hs, hb, hzs⟩ := hT.parts
  by_cases h : cap = k
  · refine ⟨0, fun w => ?_, fun h' => by omega⟩
    have h2 : len = k := by omega
    subst h2
    subst h
    simp [Instr.sliceAt, Instr.slice, run_underlying hT.und, Instr.sliceBounds, Instr.sliceBound, asIntOf, sizeOf, typeInfo, hi, go_sem]
  · refine ⟨k * size, fun w => ?_, fun _ => rfl⟩
    simp [Instr.sliceAt, Instr.slice, run_underlying hT.und, Instr.sliceBounds, Instr.sliceBound, asIntOf, sizeOf, typeInfo, hi, hs, hk, h, go_sem, Go.WideShapes.add_plain]
theorem exec_slice {P : Program} {w : World} {ev : Operand → Value} {o : Oper} {T : TypeId} {x : Operand} {lo hi : Option Operand} {xv v : Value} (ho : o.op = .slice T x lo hi none) (hx : ev x = xv)
    (h : ∀ w : World, (Instr.sliceAt T xv (lo.map ev) (hi.map ev) none).run P w = .ok v w) : (execOp ev o).run P w = .ok (.value v) w := by
  unfold execOp
  simp only [ho, hx, Option.map_none, Sem.run_bind, h, Result.andThen_ok, Sem.run_pure]
section
variable {P : Program} {ops : Array Oper} {o : Oper} {act : Act} {Q : Exit → Act → World → Prop} {w : World}
/-- Elements of any number are appended to a row of one's own. -/
theorem run_appE {T E : TypeId} {size bytes : Nat} (hT : RowTy P T E size bytes) (ty : TypeId)
    (B : Nat) (a : Option Addr) (n cap : Nat) (xs : List Value) (hown : Own w B E size a n cap xs)
    (a2 : Option Addr) (m c2 : Nat) (ys : List Value) (hl : ys.length = m * size) (hr : RdC w a2 ys) (h1 : ∀ u ∈ ys, u.oneCell' = true)
    (h63 : n + m ≤ 100000000) (hby : bytes ≤ 100000) (hB : B ≤ w.heap.size) :
    ∃ a' cap' w', (Builtin.append_ #[T, T] ty #[.slice a n cap, .slice a2 m c2]).run P w = .ok (.slice a' (n + m) cap') w' ∧ Own w' B E size a' (n + m) cap' (xs ++ ys) ∧ w.grownBy w' (a.map (·.block)) ∧ Below B w w' ∧ (∀ g, a' = some ⟨g, 0, none⟩ → a.map (·.block) = some g ∨ w.heap.size ≤ g) := by
  by_cases hm : m = 0
  · subst hm
    obtain rfl : ys = [] := List.eq_nil_of_length_eq_zero (by omega)
    refine ⟨a, cap, w, run_app0R hT ty a n cap hown.cap_le a2 c2 w, by simpa using hown, World.grownBy.refl _ _, Below.refl _ _, fun g hg => Or.inl (by rw [hg]; rfl)⟩
  · have h0 : 0 < ys.length := by rw [hl]; exact Nat.mul_pos (by omega) hT.pos
    obtain ⟨b2, off2, rfl, _⟩ := hr 0 _ (List.getElem?_eq_getElem h0)
    obtain ⟨g, cap', w', q1, q2, q3, q4, q5⟩ := run_appR hT ty B a n cap xs hown b2 off2 m c2 ys (by omega) hl (fun j u hj => by
      obtain ⟨b3, o3, e, hc⟩ := hr j u hj
      injection e with e
      injection e with e1 e2 _
      rw [e1, e2]
      exact hc) h1 h63 hby hB
    refine ⟨_, cap', w', q1, q2, q3, q4, fun g' hg => ?_⟩
    injection hg with hg
    injection hg with hg
    subst hg
    rcases q5 with q5 | q5
    · exact Or.inl q5
    · exact Or.inr (by omega)
theorem step_appE {T E : TypeId} {size bytes : Nat} {K : Act → World → Prop} {F : Prop} (hT : RowTy P T E size bytes) (hgd : o.guard = none) (s x : Operand) (ho : o.op = .call { callee := .builtin .append, args := #[s, x], argTypes := #[T, T] })
    (B : Nat) (a : Option Addr) (n cap : Nat) (xs : List Value) (hs : act.eval s = .slice a n cap) (hown : Own w B E size a n cap xs)
    (a2 : Option Addr) (m c2 : Nat) (ys : List Value) (hx : act.eval x = .slice a2 m c2) (hl : ys.length = m * size) (hr : RdC w a2 ys) (h1 : ∀ u ∈ ys, u.oneCell' = true)
    (h63 : n + m ≤ 100000000) (hby : bytes ≤ 100000) (hB : B ≤ w.heap.size) (N : Nat) (hN : n + m = N) (zs : List Value) (hz : xs ++ ys = zs)
    (h : ∀ a' cap' w', Own w' B E size a' N cap' zs → w.grownBy w' (a.map (·.block)) → Below B w w' → (∀ g, a' = some ⟨g, 0, none⟩ → a.map (·.block) = some g ∨ w.heap.size ≤ g) → K (act.put o.dst (.slice a' N cap')) w') : if Region.wanted o (yielded ops act.tmps) = true then Oper.wp P o act w K Q else F := by
  subst hN
  subst hz
  have hw : Region.wanted o (yielded ops act.tmps) = true := by simp [Region.wanted, hgd]
  rw [if_pos hw]
  obtain ⟨a', cap', w', hrun, h2, h3, h4, h5⟩ := run_appE (P := P) hT o.type B a n cap xs hown a2 m c2 ys hl hr h1 h63 hby hB
  unfold Oper.wp execOp
  simp only [ho, resolve, invoke, builtin, Sem.run_bind, Sem.run_pure, Result.andThen_ok, List.map_toArray, List.map_cons, List.map_nil, hs, hx, hrun]
  exact h a' cap' w' h2 h3 h4 h5
end
section
variable {P : Program} {ops : Array Oper} {rest : List Oper} {o : Oper} {act : Act} {Q : Exit → Act → World → Prop} {w : World}
theorem wpList_appE {T E : TypeId} {size bytes : Nat} (hT : RowTy P T E size bytes) (hgd : o.guard = none) (s x : Operand) (ho : o.op = .call { callee := .builtin .append, args := #[s, x], argTypes := #[T, T] })
    (B : Nat) (a : Option Addr) (n cap : Nat) (xs : List Value) (hs : act.eval s = .slice a n cap) (hown : Own w B E size a n cap xs)
    (a2 : Option Addr) (m c2 : Nat) (ys : List Value) (hx : act.eval x = .slice a2 m c2) (hl : ys.length = m * size) (hr : RdC w a2 ys) (h1 : ∀ u ∈ ys, u.oneCell' = true)
    (h63 : n + m ≤ 100000000) (hby : bytes ≤ 100000) (hB : B ≤ w.heap.size) (N : Nat) (hN : n + m = N) (zs : List Value) (hz : xs ++ ys = zs)
    (h : ∀ a' cap' w', Own w' B E size a' N cap' zs → w.grownBy w' (a.map (·.block)) → Below B w w' → (∀ g, a' = some ⟨g, 0, none⟩ → a.map (·.block) = some g ∨ w.heap.size ≤ g) → wpList P ops Q rest (act.put o.dst (.slice a' N cap')) w') : wpList P ops Q (o :: rest) act w := by
  subst hN
  subst hz
  refine wpList_plain hgd fun K hK => ?_
  obtain ⟨a', cap', w', hrun, h2, h3, h4, h5⟩ := run_appE (P := P) hT o.type B a n cap xs hown a2 m c2 ys hl hr h1 h63 hby hB
  unfold Oper.wp execOp
  simp only [ho, resolve, invoke, builtin, Sem.run_bind, Sem.run_pure, Result.andThen_ok, List.map_toArray, List.map_cons, List.map_nil, hs, hx, hrun]
  exact hK _ _ (h a' cap' w' h2 h3 h4 h5)
end
end Go.Proofs.YtimkgaokcldgkaaGreatDoor
