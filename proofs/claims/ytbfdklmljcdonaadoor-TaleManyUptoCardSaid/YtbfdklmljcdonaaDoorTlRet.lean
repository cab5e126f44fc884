/- Package tale: whole steps copied, and handed back. No program's numbers here but the tables'. -/
import Derived.Test.YtbfdklmljcdonaaDoorTlLin
namespace Go.Proofs.YtbfdklmljcdonaaDoor
open Go Go.RowKit
set_option linter.unusedVariables false
set_option linter.unusedSimpArgs false
set_option maxRecDepth 10000

section
variable {P : Program} {ops : Array Oper} {rest : List Oper} {o : Oper} {act : Act} {Q : Exit → Act → World → Prop} {w : World}
/-- A store of a whole struct into a box. -/
theorem wpList_storeRow (hgd : o.guard = none) {ty : TypeId} {x y : Operand} (ho : o.op = .store ty x y) {g : Nat} {cells cs : Array Value} {t : TypeId} (hx : act.eval x = .pointer (some ⟨g, 0, none⟩)) (hy : act.eval y = .agg cells)
    (hb : Box w g cs t) (hn : cs.size = cells.size) (hi : cellsFor P ty = some cells.size) (h1 : cells.all (·.oneCell') = true)
    (h : wpList P ops Q rest (act.put o.dst undef) (w.setRow g cells)) : wpList P ops Q (o :: rest) act w := by
  refine wpList_plain hgd fun K hK => ?_
  have hs := storeAt_row (P := P) (w := w) (g := g) (ty := ty) (cells := cells) (hn ▸ hb.room) hi h1
  unfold Oper.wp execOp
  simp only [ho, hx, hy, Sem.run_bind, Sem.run_pure, hs, Result.andThen_ok]
  exact hK _ _ h
end
theorem results_cell_tmp {P : Program} {fn : Func} {a u : Tmp} {ty : TypeId} {p : Addr} {v : Value} {tmps : Array Value} {w : World} (h : fn.results = #[.cell a ty, .tmp u]) (ha : tmps.getD a undef = .pointer (some p)) (hl : (loadVar ty p).run P w = .ok v w) :
    (results fn tmps).run P w = .ok (.tuple #[v, tmps.getD u undef]) w := by
  have ha2 : tmps[a]?.getD undef = .pointer (some p) := by simpa using ha
  simp [results, h, ha2, asAddr, hl]
theorem step_row {w : World} {g : Nat} {cs : Array Value} (h : Box w g cs 26) (hs : cs.size = 6) : (loadVar 26 ⟨g, 0, none⟩).run Tryd.prog w = .ok (.agg cs) w :=
  run_loadVar_row w g 26 26 cs (0, 0) _ h Tryd.underlying26 rfl (by rw [hs]; kernel_rfl)
def xC (kd : Int) (ns : List Int) (t : ByteArray) (hv : Value) : Array Value := #[.int .i64 kd, .int .i64 (ns[0]?.getD 0), .int .i64 (ns[1]?.getD 0), .int .i64 (ns[2]?.getD 0), .string t, hv]
theorem xC_set (kd : Int) (ns : List Int) (t : ByteArray) (hv : Value) (k : Nat) (hk : ns.length = k) (h3 : k < 3) (v : Int) : (xC kd ns t hv).setIfInBounds (1 + k) (.int .i64 v) = xC kd (ns ++ [v]) t hv := by
  subst hk
  match ns with
  | [] => simp [xC]
  | [a] => simp [xC]
  | [a, b] => simp [xC]
  | a :: b :: c :: r => simp at h3; omega
/-- The rest of a slice of texts that came from anywhere. -/
theorem sliceSt_off (b off len cap k : Nat) (hk : k ≤ len) (hc : len ≤ cap) :
    ∃ off', (∀ w : World, (Instr.sliceAt 42 (.slice (some ⟨b, off, none⟩) len cap) (some (.int .i64 (k : Int))) none none).run Tryd.prog w = .ok (.slice (some ⟨b, off', none⟩) (len - k) (cap - k)) w) ∧ (k < len → off' = off + k) := by
  obtain ⟨i, z, hi, hz, hs, hb, hzs⟩ := rowSt.parts
  by_cases h : cap = k
  · refine ⟨off, fun w => ?_, fun h' => by omega⟩
    have h2 : len = k := by omega
    subst h2
    subst h
    simp [Instr.sliceAt, Instr.slice, run_underlying Tryd.underlying42, Instr.sliceBounds, Instr.sliceBound, asIntOf, sizeOf, typeInfo, hi, go_sem]
  · refine ⟨off + k, fun w => ?_, fun _ => rfl⟩
    simp [Instr.sliceAt, Instr.slice, run_underlying Tryd.underlying42, Instr.sliceBounds, Instr.sliceBound, asIntOf, sizeOf, typeInfo, hi, hs, hk, h, go_sem, Go.WideShapes.add_plain]
/-- What is left of the words. -/
structure Wrd (w : World) (a : Option Addr) (n cap : Nat) (ws : List ByteArray) : Prop where
  rd : RdC w a (strV ws)
  len : ws.length = n
  cap : n ≤ cap
theorem Wrd.later {w w' : World} {a : Option Addr} {n cap : Nat} {ws : List ByteArray} (h : Wrd w a n cap ws) (hb : Below w.heap.size w w') : Wrd w' a n cap ws := ⟨h.rd.later hb, h.len, h.cap⟩
theorem Wrd.next {w : World} {a : Option Addr} {n cap : Nat} {x : ByteArray} {ws : List ByteArray} (h : Wrd w a n cap (x :: ws)) :
    ∃ b off a', a = some ⟨b, off, none⟩ ∧ w.cell? ⟨b, off, none⟩ = some (.string x) ∧ (∀ w : World, (Instr.sliceAt 42 (.slice (some ⟨b, off, none⟩) n cap) (some (.int .i64 1)) none none).run Tryd.prog w = .ok (.slice a' (n - 1) (cap - 1)) w) ∧ Wrd w a' (n - 1) (cap - 1) ws ∧ 1 ≤ n ∧ (∀ b2 o2, a' = some ⟨b2, o2, none⟩ → b2 = b) := by
  obtain ⟨b, off, rfl, hc⟩ := h.rd 0 (.string x) rfl
  have hl := h.len
  have hcap := h.cap
  rw [List.length_cons] at hl
  obtain ⟨off', h1, h2⟩ := sliceSt_off b off n cap 1 (by omega) hcap
  refine ⟨b, off, _, rfl, hc, h1, ⟨fun j u hj => ?_, by omega, by omega⟩, by omega, fun b2 o2 e => by injection e with e; injection e with e _ _; exact e.symm⟩
  have hjl : j < ws.length := by have := (List.getElem?_eq_some_iff.1 hj).1; rw [strV_len] at this; exact this
  rw [h2 (by omega)]
  refine ⟨b, _, rfl, ?_⟩
  obtain ⟨b2, o2, e, hc2⟩ := h.rd (j + 1) u (by unfold strV at hj ⊢; rw [List.map_cons, List.getElem?_cons_succ]; exact hj)
  injection e with e
  injection e with e1 e2 _
  subst e1 e2
  rw [show off + 1 + j = off + (j + 1) by omega]
  exact hc2
/-- Two steps on. -/
theorem Wrd.next2 {w : World} {a : Option Addr} {n cap : Nat} {x y : ByteArray} {ws : List ByteArray} (h : Wrd w a n cap (x :: y :: ws)) :
    ∃ b off a', a = some ⟨b, off, none⟩ ∧ w.cell? ⟨b, off, none⟩ = some (.string x) ∧ w.cell? ⟨b, off + 1, none⟩ = some (.string y) ∧ (∀ w : World, (Instr.sliceAt 42 (.slice (some ⟨b, off, none⟩) n cap) (some (.int .i64 2)) none none).run Tryd.prog w = .ok (.slice a' (n - 2) (cap - 2)) w) ∧ Wrd w a' (n - 2) (cap - 2) ws ∧ 2 ≤ n ∧ (∀ b2 o2, a' = some ⟨b2, o2, none⟩ → b2 = b) := by
  obtain ⟨b, off, rfl, hc⟩ := h.rd 0 (.string x) rfl
  obtain ⟨b1, o1, e1, hc1⟩ := h.rd 1 (.string y) rfl
  injection e1 with e1
  injection e1 with e1 e2 _
  subst e1 e2
  have hl := h.len
  have hcap := h.cap
  rw [List.length_cons, List.length_cons] at hl
  obtain ⟨off', h1, h2⟩ := sliceSt_off b off n cap 2 (by omega) hcap
  refine ⟨b, off, _, rfl, hc, hc1, h1, ⟨fun j u hj => ?_, by omega, by omega⟩, by omega, fun b2 o2 e => by injection e with e; injection e with e _ _; exact e.symm⟩
  have hjl : j < ws.length := by have := (List.getElem?_eq_some_iff.1 hj).1; rw [strV_len] at this; exact this
  rw [h2 (by omega)]
  refine ⟨b, _, rfl, ?_⟩
  obtain ⟨b2, o2, e, hc2⟩ := h.rd (j + 2) u (by unfold strV at hj ⊢; rw [List.map_cons, List.map_cons, List.getElem?_cons_succ, List.getElem?_cons_succ]; exact hj)
  injection e with e
  injection e with e1 e2 _
  subst e1 e2
  rw [show off + 2 + j = off + (j + 2) by omega]
  exact hc2
end Go.Proofs.YtbfdklmljcdonaaDoor
