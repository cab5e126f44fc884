/- Slices of bytes: what they read as, those that a call has made itself, what is appended to them. -/
import Derived.Test.YtodibjpojfipoaaGreatDoorProg
import Derived.Test.YtodibjpojfipoaaGreatDoorFrMath
import Derived.WalkSpells
import Derived.WalkLawsBesides
import Derived.Laws.BitsAllLaws
import Derived.Laws.BytesArg
import Derived.Laws.OwnMore
import Derived.Maps.AppendAt
import Derived.Lib.AppendStr
import Derived.Lib.SlBytesConst
import Derived.Below
import Derived.Outline
import Derived.Lib.Hide
namespace Go.Proofs.YtodibjpojfipoaaGreatDoor
open Go.RowKit
set_option maxRecDepth 10000

/-- A slice that reads as these bytes. -/
def RdB (w : World) (a : Option Addr) (l : List Int) : Prop := l = [] ∨ ∃ b off, a = some ⟨b, off, none⟩ ∧ ∀ i c, l[i]? = some c → w.cell? ⟨b, off + i, none⟩ = some (.int .u8 c)
theorem RdB.later {w w' : World} {a : Option Addr} {l : List Int} (h : RdB w a l) (hb : Below w.heap.size w w') : RdB w' a l := by
  rcases h with h | ⟨b, off, ha, hc⟩
  · exact Or.inl h
  · exact Or.inr ⟨b, off, ha, fun i c hi => (hb.cell (World.block_lt_of_cell? _ _ (hc i c hi))).trans (hc i c hi)⟩
theorem RdB.alloc {w : World} {a : Option Addr} {l : List Int} (h : RdB w a l) (o : Obj) : RdB (w.alloc o) a l := h.later ((Below.refl _ _).alloc (Nat.le_refl _) _)
theorem RdB.drew {w : World} {a : Option Addr} {l : List Int} (h : RdB w a l) : RdB w.drew a l := h
theorem RdB.take {w : World} {a : Option Addr} {l : List Int} (h : RdB w a l) (n : Nat) : RdB w a (l.take n) := by
  rcases h with rfl | ⟨b, off, ha, hc⟩
  · exact Or.inl (by simp)
  · refine Or.inr ⟨b, off, ha, fun i c hi => hc i c ?_⟩
    rw [List.getElem?_take] at hi
    split at hi
    · exact hi
    · cases hi
theorem RdB.drop {w : World} {b off : Nat} {l : List Int} (h : RdB w (some ⟨b, off, none⟩) l) (n : Nat) : RdB w (some ⟨b, off + n, none⟩) (l.drop n) := by
  rcases h with rfl | ⟨b, off, ha, hc⟩
  · exact Or.inl (by simp)
  · injection ha with ha
    injection ha with h1 h2
    subst h1
    subst h2
    refine Or.inr ⟨_, _, rfl, fun i c hi => ?_⟩
    rw [Nat.add_assoc]
    exact hc _ c (by rwa [List.getElem?_drop] at hi)
theorem RdB.plain {w : World} {a : Option Addr} {l : List Int} (h : RdB w a l) (h0 : 0 < l.length) : ∃ b off, a = some ⟨b, off, none⟩ := by
  rcases h with rfl | ⟨b, off, ha, _⟩
  · simp at h0
  · exact ⟨b, off, ha⟩
theorem RdB.cells {w : World} {b off : Nat} {l : List Int} (h : RdB w (some ⟨b, off, none⟩) l) : ∀ i c, l[i]? = some c → w.cell? ⟨b, off + i, none⟩ = some (.int .u8 c) := by
  rcases h with rfl | ⟨b', off', ha, hc⟩
  · intro i c hi
    simp at hi
  · injection ha with ha
    injection ha with h1 h2
    subst h1
    subst h2
    exact hc

/-- A part of a slice: where it lies, and what it reads as. -/
theorem slice_part {P : Program} (T e : TypeId) (hT : P.underlying T = some (.slice e)) {i0 : TypeInfo} (hif : P.info? e = some i0) (h1 : i0.size = 1) (b off len cap lo hi : Nat) (hlo : lo ≤ hi) (hhi : hi ≤ cap) :
    ∃ off', (∀ w : World, (Instr.sliceAt T (.slice (some ⟨b, off, none⟩) len cap) (some (.int .i64 lo)) (some (.int .i64 hi)) none).run P w = .ok (.slice (some ⟨b, off', none⟩) (hi - lo) (cap - lo)) w) ∧ (lo < cap → off' = off + lo) ∧ (lo = cap → off' = off) := by
  by_cases h : cap = lo
  · refine ⟨off, fun w => ?_, fun h' => by omega, fun _ => rfl⟩
    have h2 : hi = lo := by omega
    subst h2
    subst h
    simp [Instr.sliceAt, Instr.slice, run_underlying hT, Instr.sliceBounds, Instr.sliceBound, asIntOf, sizeOf, typeInfo, hif, go_sem]
  · refine ⟨off + lo, fun w => ?_, fun _ => rfl, fun h' => by omega⟩
    simp [Instr.sliceAt, Instr.slice, run_underlying hT, Instr.sliceBounds, Instr.sliceBound, asIntOf, sizeOf, typeInfo, hif, h1, hlo, hhi, h, go_sem, Go.WideShapes.add_plain]
theorem slice_from {P : Program} (T e : TypeId) (hT : P.underlying T = some (.slice e)) {i0 : TypeInfo} (hif : P.info? e = some i0) (h1 : i0.size = 1) (b off len cap lo : Nat) (hlo : lo ≤ len) (hhi : len ≤ cap) :
    ∃ off', (∀ w : World, (Instr.sliceAt T (.slice (some ⟨b, off, none⟩) len cap) (some (.int .i64 lo)) none none).run P w = .ok (.slice (some ⟨b, off', none⟩) (len - lo) (cap - lo)) w) ∧ (lo < cap → off' = off + lo) ∧ (lo = cap → off' = off) := by
  by_cases h : cap = lo
  · refine ⟨off, fun w => ?_, fun h' => by omega, fun _ => rfl⟩
    have h2 : len = lo := by omega
    subst h2
    subst h
    simp [Instr.sliceAt, Instr.slice, run_underlying hT, Instr.sliceBounds, Instr.sliceBound, asIntOf, sizeOf, typeInfo, hif, go_sem]
  · refine ⟨off + lo, fun w => ?_, fun _ => rfl, fun h' => by omega⟩
    simp [Instr.sliceAt, Instr.slice, run_underlying hT, Instr.sliceBounds, Instr.sliceBound, asIntOf, sizeOf, typeInfo, hif, h1, hlo, h, go_sem, Go.WideShapes.add_plain]
theorem RdB.new (w : World) (l : List Int) (t : TypeId) (fz : Nat × Nat) : RdB (w.alloc (.cells (l.map (Value.int .u8)).toArray t fz)) (some ⟨w.heap.size, 0, none⟩) l := by
  refine Or.inr ⟨_, _, rfl, fun i c hi => ?_⟩
  have h := heap_alloc_new w (.cells (l.map (Value.int .u8)).toArray t fz)
  unfold World.cell?
  rw [h]
  simp [hi]
theorem exec_slice_from {P : Program} {w : World} {ev : Operand → Value} {o : Oper} {T : TypeId} {x y : Operand} {xv yv v : Value} (ho : o.op = .slice T x (some y) none none) (hx : ev x = xv) (hy : ev y = yv)
    (h : ∀ w : World, (Instr.sliceAt T xv (some yv) none none).run P w = .ok v w) : (execOp ev o).run P w = .ok (.value v) w := by
  unfold execOp
  simp only [ho, hx, hy, Option.map_some, Option.map_none, Sem.run_bind, h, Result.andThen_ok, Sem.run_pure]
theorem wpList_slice {P : Program} {ops : Array Oper} {rest : List Oper} {o : Oper} {a : Act} {Q : Exit → Act → World → Prop} {w : World} (hgd : o.guard = none) (T : TypeId) (x : Operand) (lo hi : Option Operand) (xv v : Value) (ho : o.op = .slice T x lo hi none) (hx : a.eval x = xv)
    (h : ∀ w : World, (Instr.sliceAt T xv (lo.map a.eval) (hi.map a.eval) none).run P w = .ok v w) (k : wpList P ops Q rest (a.put o.dst v) w) : wpList P ops Q (o :: rest) a w := by
  refine wpList_plain hgd fun K hK => ?_
  unfold Oper.wp execOp
  simp only [ho, hx, Option.map_none, Sem.run_bind, h, Result.andThen_ok, Sem.run_pure]
  exact hK _ _ k
theorem RdB.part {w : World} {b off off' cap lo : Nat} {l : List Int} (h : RdB w (some ⟨b, off, none⟩) l) (hl : l.length ≤ cap) (h1 : lo < cap → off' = off + lo) (n : Nat) : RdB w (some ⟨b, off', none⟩) ((l.drop lo).take n) := by
  by_cases hc : lo < cap
  · rw [h1 hc]
    exact (h.drop lo).take n
  · exact Or.inl (by rw [List.drop_eq_nil_of_le (by omega)]; simp)
theorem RdB.rest {w : World} {b off off' cap lo : Nat} {l : List Int} (h : RdB w (some ⟨b, off, none⟩) l) (hl : l.length ≤ cap) (h1 : lo < cap → off' = off + lo) : RdB w (some ⟨b, off', none⟩) (l.drop lo) := by
  by_cases hc : lo < cap
  · rw [h1 hc]
    exact h.drop lo
  · exact Or.inl (List.drop_eq_nil_of_le (by omega))

theorem strL_nums (l : List Int) : strL l = strOfNums l := rfl
theorem RdB.text {P : Program} {w : World} {a : Option Addr} {l : List Int} (h : RdB w a l) (src e dst : TypeId) (hs : P.underlying src = some (.slice e)) (he : P.underlying e = some (.int .u8)) (hd : P.underlying dst = some .string) (hn : l = [] → a = none ∨ ∃ b off, a = some ⟨b, off, none⟩) (cap : Nat) :
    (convert src dst (.slice a l.length cap)).run P w = .ok (.string (strL l)) w := by
  rcases h with rfl | ⟨b, off, rfl, hc⟩
  · rcases hn rfl with rfl | ⟨b, off, rfl⟩
    · exact run_convert_bytes_nil w src e hs he _ _ dst hd
    · exact run_convert_bytes_arg w src e hs he b off 0 cap [] rfl (fun i hi => by omega) dst hd
  · refine run_convert_bytes_arg w src e hs he b off l.length cap l rfl (fun i hi => ?_) dst hd
    rw [hc i _ (List.getElem?_eq_getElem hi), List.getD_eq_getElem?_getD, List.getElem?_eq_getElem hi]
    rfl

/-- A slice of bytes in a block from B on. -/
def OwnB (w : World) (B : Nat) (a : Option Addr) (cap : Nat) (l : List Int) : Prop := w.ownsRow B 5 1 (.slice a l.length cap) l.length (l.map (Value.int .u8))
theorem own_slice {w : World} {base : Nat} {e : TypeId} {size : Nat} {v : Value} {n : Nat} {xs : List Value} (h : w.ownsRow base e size v n xs) : ∃ a cap, v = .slice a n cap := by
  rcases h.2 with ⟨rfl, rfl⟩ | ⟨g, cap, _, rfl, _⟩
  · exact ⟨_, _, rfl⟩
  · exact ⟨_, _, rfl⟩
theorem OwnB.nil (w : World) (B : Nat) : OwnB w B none 0 [] := World.ownsRow_nil _ _ _ _
theorem OwnB.lit {w : World} {B : Nat} (l : List Int) (hB : B ≤ w.heap.size) (hl : l.length ≤ 1000000) : OwnB (w.alloc (.cells (l.map (Value.int .u8)).toArray 5)) B (some ⟨w.heap.size, 0, none⟩) l.length l := by
  have := World.ownsRow_lit (base := B) (e := 5) (size := 1) w (l.map (Value.int .u8)).toArray l.length hB (by unfold maxLen; omega) (by simp)
  simpa [OwnB] using this
theorem OwnB.cap_le {w : World} {B : Nat} {a : Option Addr} {cap : Nat} {l : List Int} (h : OwnB w B a cap l) : l.length ≤ cap := by
  rcases h.2 with ⟨e, h0⟩ | ⟨g, c, cur, e, _, _, hnc, _⟩
  · omega
  · injection e with _ _ e3
    rw [e3]
    exact hnc
theorem OwnB.max {w : World} {B : Nat} {a : Option Addr} {cap : Nat} {l : List Int} (h : OwnB w B a cap l) : cap ≤ 9223372036854775807 := by
  rcases h.2 with ⟨e, h0⟩ | ⟨g, c, cur, e, _, _, _, hm, _⟩
  · injection e with _ _ e3
    rw [e3]
    decide
  · injection e with _ _ e3
    rw [e3]
    exact hm
theorem OwnB.form {w : World} {B : Nat} {a : Option Addr} {cap : Nat} {l : List Int} (h : OwnB w B a cap l) : (a = none ∧ l = [] ∧ cap = 0) ∨ ∃ g, a = some ⟨g, 0, none⟩ ∧ B ≤ g ∧ g < w.heap.size := by
  rcases h.2 with ⟨e, h0⟩ | ⟨g, c, cur, e, hb, hg, _, hm, _⟩
  · injection e with e1 e2 e3
    exact Or.inl ⟨e1, List.eq_nil_of_length_eq_zero e2, e3⟩
  · injection e with e1 e2 e3
    refine Or.inr ⟨g, e1, hb, ?_⟩
    exact (Array.getElem?_eq_some_iff.1 hg).1
theorem OwnB.rd {w : World} {B : Nat} {a : Option Addr} {cap : Nat} {l : List Int} (h : OwnB w B a cap l) : RdB w a l := by
  rcases h.form with ⟨_, hl, _⟩ | ⟨g, rfl, _⟩
  · exact Or.inl hl
  · refine Or.inr ⟨g, 0, rfl, fun i c hi => ?_⟩
    have hlt := (List.getElem?_eq_some_iff.1 hi).1
    rw [Nat.zero_add, World.ownsRow.cellAt h i (by omega), List.getElem?_map, hi]
    rfl
theorem OwnB.alloc {w : World} {B : Nat} {a : Option Addr} {cap : Nat} {l : List Int} (h : OwnB w B a cap l) (o : Obj) : OwnB (w.alloc o) B a cap l := World.ownsRow.alloc h o
theorem OwnB.drew {w : World} {B : Nat} {a : Option Addr} {cap : Nat} {l : List Int} (h : OwnB w B a cap l) : OwnB w.drew B a cap l := h
theorem OwnB.mono {w : World} {B B' : Nat} {a : Option Addr} {cap : Nat} {l : List Int} (h : OwnB w B a cap l) (hB : B' ≤ B) : OwnB w B' a cap l := by
  refine ⟨h.1, ?_⟩
  rcases h.2 with h | ⟨g, c, cur, e, hb, hr⟩
  · exact Or.inl h
  · exact Or.inr ⟨g, c, cur, e, Nat.le_trans hB hb, hr⟩
theorem OwnB.later {w w' : World} {B : Nat} {a : Option Addr} {cap : Nat} {l : List Int} (h : OwnB w B a cap l) (hb : Below w.heap.size w w') : OwnB w' B a cap l := by
  refine ⟨h.1, ?_⟩
  rcases h.2 with h | ⟨g, c, cur, e, hB, hg, hr⟩
  · exact Or.inl h
  · exact Or.inr ⟨g, c, cur, e, hB, (hb.block g (Array.getElem?_eq_some_iff.1 hg).1).trans hg, hr⟩

theorem info5 : (Tryz.prog.info? 5).map (fun i => (i.zero, i.size, i.bytes)) = some (some (.int .u8 0), 1, 1) := by kernel_rfl

section
variable {ops : Array Oper} {rest : List Oper} {o : Oper} {act : Act} {Q : Exit → Act → World → Prop} {w : World}
/-- Bytes are appended. -/
theorem wpList_app (hgd : o.guard = none) (s x : Operand) (ho : o.op = .call { callee := .builtin .append, args := #[s, x], argTypes := #[78, 78] })
    (B : Nat) (a : Option Addr) (cap : Nat) (l : List Int) (hs : act.eval s = .slice a l.length cap) (hown : OwnB w B a cap l)
    (b2 off2 c2 : Nat) (l2 : List Int) (hx : act.eval x = .slice (some ⟨b2, off2, none⟩) l2.length c2) (hr : RdB w (some ⟨b2, off2, none⟩) l2) (hl : l.length + l2.length ≤ 10000000) (hB : B ≤ w.heap.size)
    (h : ∀ a' cap' w', OwnB w' B a' cap' (l ++ l2) → Below B w w' → wpList Tryz.prog ops Q rest (act.put o.dst (.slice a' (l ++ l2).length cap')) w') : wpList Tryz.prog ops Q (o :: rest) act w := by
  obtain ⟨i0, hi0, hz0, hz1, hz2⟩ := info_parts info5
  refine wpList_append_own_at _ hgd s x _ ho B 5 i0 (.int .u8 0) 1 1 Tryz.underlying78 hi0 hz0 hz1 hz2 rfl (by decide) (.slice a l.length cap) _ _ hs hown ⟨b2, off2, none⟩ l2.length c2 (l2.map (Value.int .u8)) hx (by simp) ?_ ?_ (by unfold maxLen; omega) (by omega) hB ?_
  · intro j u hj
    rw [Go.WideShapes.add_plain]
    rw [List.getElem?_map] at hj
    cases hc : l2[j]? with
    | none => rw [hc] at hj; cases hj
    | some c =>
      rw [hc] at hj
      injection hj with hj
      rw [← hj]
      exact hr.cells j c hc
  · intro u hu
    obtain ⟨c, _, rfl⟩ := List.mem_map.1 hu
    rfl
  · intro v' w' hown' hg _ _
    obtain ⟨a', cap', rfl⟩ := own_slice hown'
    have := h a' cap' w' (by unfold OwnB; rw [List.length_append, List.map_append]; exact hown') ((Below.refl _ _).grown hg hB (fun k hk => (hown.lt k hk).1))
    rwa [List.length_append] at this
/-- A string's bytes are appended. -/
theorem wpList_apps (hgd : o.guard = none) (s x : Operand) (ho : o.op = .call { callee := .builtin .append, args := #[s, x], argTypes := #[78, 9] })
    (B : Nat) (a : Option Addr) (cap : Nat) (l : List Int) (hs : act.eval s = .slice a l.length cap) (hown : OwnB w B a cap l)
    (z : ByteArray) (hx : act.eval x = .string z) (hl : l.length + z.size ≤ 10000000) (hB : B ≤ w.heap.size)
    (h : ∀ a' cap' w', OwnB w' B a' cap' (l ++ btL z) → Below B w w' → wpList Tryz.prog ops Q rest (act.put o.dst (.slice a' (l ++ btL z).length cap')) w') : wpList Tryz.prog ops Q (o :: rest) act w := by
  obtain ⟨i0, hi0, hz0, hz1, hz2⟩ := info_parts info5
  refine Lib.wpList_append_own_string _ hgd s x _ _ ho B 5 i0 Tryz.underlying78 Tryz.underlying9 hi0 hz0 hz1 hz2 (.slice a l.length cap) _ _ hs hown z hx (by unfold maxLen; omega) (by omega) hB ?_
  intro v' w' hown' hg _
  obtain ⟨a', cap', rfl⟩ := own_slice hown'
  have e : Lib.strCells z = (btL z).map (Value.int .u8) := by
    unfold Lib.strCells btL
    rw [List.map_map]
    rfl
  rw [e] at hown'
  have := h a' cap' w' (by unfold OwnB; rw [List.length_append, List.map_append, btL_length]; exact hown') ((Below.refl _ _).grown hg hB (fun k hk => (hown.lt k hk).1))
  rwa [List.length_append, btL_length] at this
/-- The same at a step of a region that draws its order. -/
theorem step_app {K : Act → World → Prop} {E : Prop} (hgd : o.guard = none) (s x : Operand) (ho : o.op = .call { callee := .builtin .append, args := #[s, x], argTypes := #[78, 78] })
    (B : Nat) (a : Option Addr) (cap : Nat) (l : List Int) (hs : act.eval s = .slice a l.length cap) (hown : OwnB w B a cap l)
    (b2 off2 c2 : Nat) (l2 : List Int) (hx : act.eval x = .slice (some ⟨b2, off2, none⟩) l2.length c2) (hr : RdB w (some ⟨b2, off2, none⟩) l2) (hl : l.length + l2.length ≤ 10000000) (hB : B ≤ w.heap.size)
    (h : ∀ a' cap' w', OwnB w' B a' cap' (l ++ l2) → Below B w w' → K (act.put o.dst (.slice a' (l ++ l2).length cap')) w') : if Region.wanted o (yielded ops act.tmps) = true then Oper.wp Tryz.prog o act w K Q else E := by
  have hw : Region.wanted o (yielded ops act.tmps) = true := by simp [Region.wanted, hgd]
  rw [if_pos hw]
  obtain ⟨i0, hi0, hz0, hz1, hz2⟩ := info_parts info5
  obtain ⟨v', w', hrun, hown', hg, _, _⟩ := run_append_own_at (P := Tryz.prog) w B 78 o.type 5 i0 (.int .u8 0) 1 1 Tryz.underlying78 hi0 hz0 hz1 hz2 rfl (by decide) (.slice a l.length cap) _ _ hown ⟨b2, off2, none⟩ l2.length c2 (l2.map (Value.int .u8)) (by simp) (fun j u hj => by
    rw [Go.WideShapes.add_plain]
    rw [List.getElem?_map] at hj
    cases hc : l2[j]? with
    | none => rw [hc] at hj; cases hj
    | some c =>
      rw [hc] at hj
      injection hj with hj
      rw [← hj]
      exact hr.cells j c hc) (fun u hu => by
    obtain ⟨c, _, rfl⟩ := List.mem_map.1 hu
    rfl) (by unfold maxLen; omega) (by omega) hB
  obtain ⟨a', cap', rfl⟩ := own_slice hown'
  unfold Oper.wp execOp
  simp only [ho, resolve, invoke, builtin, Sem.run_bind, Sem.run_pure, Result.andThen_ok, List.map_toArray, List.map_cons, List.map_nil, hs, hx, hrun]
  have := h a' cap' w' (by unfold OwnB; rw [List.length_append, List.map_append]; exact hown') ((Below.refl _ _).grown hg hB (fun k hk => (hown.lt k hk).1))
  rwa [List.length_append] at this
theorem step_apps {K : Act → World → Prop} {E : Prop} (hgd : o.guard = none) (s x : Operand) (ho : o.op = .call { callee := .builtin .append, args := #[s, x], argTypes := #[78, 9] })
    (B : Nat) (a : Option Addr) (cap : Nat) (l : List Int) (hs : act.eval s = .slice a l.length cap) (hown : OwnB w B a cap l)
    (z : ByteArray) (hx : act.eval x = .string z) (hl : l.length + z.size ≤ 10000000) (hB : B ≤ w.heap.size)
    (h : ∀ a' cap' w', OwnB w' B a' cap' (l ++ btL z) → Below B w w' → K (act.put o.dst (.slice a' (l ++ btL z).length cap')) w') : if Region.wanted o (yielded ops act.tmps) = true then Oper.wp Tryz.prog o act w K Q else E := by
  have hw : Region.wanted o (yielded ops act.tmps) = true := by simp [Region.wanted, hgd]
  rw [if_pos hw]
  obtain ⟨i0, hi0, hz0, hz1, hz2⟩ := info_parts info5
  obtain ⟨v', w', hrun, hown', hg, _⟩ := Lib.run_append_own_string (P := Tryz.prog) w B 78 9 o.type 5 i0 Tryz.underlying78 Tryz.underlying9 hi0 hz0 hz1 hz2 (.slice a l.length cap) _ _ hown z (by unfold maxLen; omega) (by omega) hB
  obtain ⟨a', cap', rfl⟩ := own_slice hown'
  have e : Lib.strCells z = (btL z).map (Value.int .u8) := by
    unfold Lib.strCells btL
    rw [List.map_map]
    rfl
  rw [e] at hown'
  unfold Oper.wp execOp
  simp only [ho, resolve, invoke, builtin, Sem.run_bind, Sem.run_pure, Result.andThen_ok, List.map_toArray, List.map_cons, List.map_nil, hs, hx, hrun]
  have := h a' cap' w' (by unfold OwnB; rw [List.length_append, List.map_append, btL_length]; exact hown') ((Below.refl _ _).grown hg hB (fun k hk => (hown.lt k hk).1))
  rwa [List.length_append, btL_length] at this
theorem plain_of {w : World} {B : Nat} {a : Option Addr} {cap : Nat} {l : List Int} (h : OwnB w B a cap l) (h0 : 0 < l.length) : ∃ g, a = some ⟨g, 0, none⟩ := by
  obtain ⟨_, h1, _⟩ | ⟨g, rfl, _⟩ := h.form
  · rw [h1] at h0
    simp at h0
  · exact ⟨g, rfl⟩
/-- The same, lengths and what comes of it named. -/
theorem step_app3 {K : Act → World → Prop} {E : Prop} (hgd : o.guard = none) (s x : Operand) (ho : o.op = .call { callee := .builtin .append, args := #[s, x], argTypes := #[78, 78] })
    (B : Nat) (a : Option Addr) (n1 cap : Nat) (l l2 l3 : List Int) (n2 n3 : Nat) (h3 : l ++ l2 = l3) (hn1 : l.length = n1) (hn2 : l2.length = n2) (hn3 : l3.length = n3) (hp : 0 < n3) (hs : act.eval s = .slice a n1 cap) (hown : OwnB w B a cap l)
    (b2 off2 c2 : Nat) (hx : act.eval x = .slice (some ⟨b2, off2, none⟩) n2 c2) (hr : RdB w (some ⟨b2, off2, none⟩) l2) (hl : n3 ≤ 10000000) (hB : B ≤ w.heap.size)
    (h : ∀ g cap' w', OwnB w' B (some ⟨g, 0, none⟩) cap' l3 → Below B w w' → K (act.put o.dst (.slice (some ⟨g, 0, none⟩) n3 cap')) w') : if Region.wanted o (yielded ops act.tmps) = true then Oper.wp Tryz.prog o act w K Q else E := by
  subst h3
  subst hn1
  subst hn2
  subst hn3
  refine step_app hgd s x ho B a cap l hs hown b2 off2 c2 l2 hx hr (by rwa [List.length_append] at hl) hB ?_
  intro a' cap' w' ho' hb'
  obtain ⟨g, rfl⟩ := plain_of ho' hp
  exact h g cap' w' ho' hb'
theorem wpList_app3 (hgd : o.guard = none) (s x : Operand) (ho : o.op = .call { callee := .builtin .append, args := #[s, x], argTypes := #[78, 78] })
    (B : Nat) (a : Option Addr) (n1 cap : Nat) (l l2 l3 : List Int) (n2 n3 : Nat) (h3 : l ++ l2 = l3) (hn1 : l.length = n1) (hn2 : l2.length = n2) (hn3 : l3.length = n3) (hp : 0 < n3) (hs : act.eval s = .slice a n1 cap) (hown : OwnB w B a cap l)
    (b2 off2 c2 : Nat) (hx : act.eval x = .slice (some ⟨b2, off2, none⟩) n2 c2) (hr : RdB w (some ⟨b2, off2, none⟩) l2) (hl : n3 ≤ 10000000) (hB : B ≤ w.heap.size)
    (h : ∀ g cap' w', OwnB w' B (some ⟨g, 0, none⟩) cap' l3 → Below B w w' → wpList Tryz.prog ops Q rest (act.put o.dst (.slice (some ⟨g, 0, none⟩) n3 cap')) w') : wpList Tryz.prog ops Q (o :: rest) act w := by
  subst h3
  subst hn1
  subst hn2
  subst hn3
  refine wpList_app hgd s x ho B a cap l hs hown b2 off2 c2 l2 hx hr (by rwa [List.length_append] at hl) hB ?_
  intro a' cap' w' ho' hb'
  obtain ⟨g, rfl⟩ := plain_of ho' hp
  exact h g cap' w' ho' hb'
end
end Go.Proofs.YtodibjpojfipoaaGreatDoor
