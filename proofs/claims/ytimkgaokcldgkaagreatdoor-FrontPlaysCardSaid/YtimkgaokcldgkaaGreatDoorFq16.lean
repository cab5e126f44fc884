/- Part of a chain: RowB, FrSum, FrNum, FrRec. -/
import Derived.Test.YtimkgaokcldgkaaGreatDoorFq15
import Derived.Test.YtimkgaokcldgkaaGreatDoorProg
import Derived.WalkSpells
import Derived.WalkLawsBesides
import Derived.Laws.BitsAllLaws
import Derived.Laws.BytesArg
import Derived.Laws.OwnMore
import Derived.Maps.AppendAt
import Derived.Lib.AppendStr
import Derived.Lib.SlBytesConst
import Derived.Below
import Derived.Outline
import Derived.Lib.Hide
/- Slices of bytes: what they read as, those that a call has made itself, what is appended to them. -/
namespace Go.Proofs.YtimkgaokcldgkaaGreatDoor
open Go.RowKit
set_option maxRecDepth 10000

/-- A slice that reads as these bytes. -/
def RdB (w : World) (a : Option Addr) (l : List Int) : Prop := l = [] ∨ ∃ b off, a = some ⟨b, off, none⟩ ∧ ∀ i c, l[i]? = some c → w.cell? ⟨b, off + i, none⟩ = some (.int .u8 c)
theorem RdB.later {w w' : World} {a : Option Addr} {l : List Int} (h : RdB w a l) (hb : Below w.heap.size w w') : RdB w' a l := by
  rcases h with h | ⟨b, off, ha, hc⟩
  · exact Or.inl h
  · exact Or.inr ⟨b, off, ha, fun i c hi => (hb.cell (World.block_lt_of_cell? _ _ (hc i c hi))).trans (hc i c hi)⟩
theorem RdB.alloc {w : World} {a : Option Addr} {l : List Int} (h : RdB w a l) (o : Obj) : RdB (w.alloc o) a l := h.later ((Below.refl _ _).alloc (Nat.le_refl _) _)
theorem RdB.drew {w : World} {a : Option Addr} {l : List Int} (h : RdB w a l) : RdB w.drew a l := h
theorem RdB.take {w : World} {a : Option Addr} {l : List Int} (h : RdB w a l) (n : Nat) : RdB w a (l.take n) := by
  rcases h with rfl | ⟨b, off, ha, hc⟩
  · exact Or.inl (by simp)
  · refine Or.inr ⟨b, off, ha, fun i c hi => hc i c ?_⟩
    rw [List.getElem?_take] at hi
    split at hi
    · exact hi
    · cases hi
theorem RdB.drop {w : World} {b off : Nat} {l : List Int} (h : RdB w (some ⟨b, off, none⟩) l) (n : Nat) : RdB w (some ⟨b, off + n, none⟩) (l.drop n) := by
  rcases h with rfl | ⟨b, off, ha, hc⟩
  · exact Or.inl (by simp)
  · injection ha with ha
    injection ha with h1 h2
    subst h1
    subst h2
    refine Or.inr ⟨_, _, rfl, fun i c hi => ?_⟩
    rw [Nat.add_assoc]
    exact hc _ c (by rwa [List.getElem?_drop] at hi)
theorem RdB.plain {w : World} {a : Option Addr} {l : List Int} (h : RdB w a l) (h0 : 0 < l.length) : ∃ b off, a = some ⟨b, off, none⟩ := by
  rcases h with rfl | ⟨b, off, ha, _⟩
  · simp at h0
  · exact ⟨b, off, ha⟩
theorem RdB.cells {w : World} {b off : Nat} {l : List Int} (h : RdB w (some ⟨b, off, none⟩) l) : ∀ i c, l[i]? = some c → w.cell? ⟨b, off + i, none⟩ = some (.int .u8 c) := by
  rcases h with rfl | ⟨b', off', ha, hc⟩
  · intro i c hi
    simp at hi
  · injection ha with ha
    injection ha with h1 h2
    subst h1
    subst h2
    exact hc

/-- A part of a slice: where it lies, and what it reads as. -/
theorem slice_part {P : Program} (T e : TypeId) (hT : P.underlying T = some (.slice e)) {i0 : TypeInfo} (hif : P.info? e = some i0) (h1 : i0.size = 1) (b off len cap lo hi : Nat) (hlo : lo ≤ hi) (hhi : hi ≤ cap) :
    ∃ off', (∀ w : World, (Instr.sliceAt T (.slice (some ⟨b, off, none⟩) len cap) (some (.int .i64 lo)) (some (.int .i64 hi)) none).run P w = .ok (.slice (some ⟨b, off', none⟩) (hi - lo) (cap - lo)) w) ∧ (lo < cap → off' = off + lo) ∧ (lo = cap → off' = off) := by
  by_cases h : cap = lo
  · refine ⟨off, fun w => ?_, fun h' => by omega, fun _ => rfl⟩
    have h2 : hi = lo := by omega
    subst h2
    subst h
    simp [Instr.sliceAt, Instr.slice, run_underlying hT, Instr.sliceBounds, Instr.sliceBound, asIntOf, sizeOf, typeInfo, hif, go_sem]
  · refine ⟨off + lo, fun w => ?_, fun _ => rfl, fun h' => by omega⟩
    simp [Instr.sliceAt, Instr.slice, run_underlying hT, Instr.sliceBounds, Instr.sliceBound, asIntOf, sizeOf, typeInfo, hif, h1, hlo, hhi, h, go_sem, Go.WideShapes.add_plain]
theorem slice_from {P : Program} (T e : TypeId) (hT : P.underlying T = some (.slice e)) {i0 : TypeInfo} (hif : P.info? e = some i0) (h1 : i0.size = 1) (b off len cap lo : Nat) (hlo : lo ≤ len) (hhi : len ≤ cap) :
    ∃ off', (∀ w : World, (Instr.sliceAt T (.slice (some ⟨b, off, none⟩) len cap) (some (.int .i64 lo)) none none).run P w = .ok (.slice (some ⟨b, off', none⟩) (len - lo) (cap - lo)) w) ∧ (lo < cap → off' = off + lo) ∧ (lo = cap → off' = off) := by
  by_cases h : cap = lo
  · refine ⟨off, fun w => ?_, fun h' => by omega, fun _ => rfl⟩
    have h2 : len = lo := by omega
    subst h2
    subst h
    simp [Instr.sliceAt, Instr.slice, run_underlying hT, Instr.sliceBounds, Instr.sliceBound, asIntOf, sizeOf, typeInfo, hif, go_sem]
  · refine ⟨off + lo, fun w => ?_, fun _ => rfl, fun h' => by omega⟩
    simp [Instr.sliceAt, Instr.slice, run_underlying hT, Instr.sliceBounds, Instr.sliceBound, asIntOf, sizeOf, typeInfo, hif, h1, hlo, h, go_sem, Go.WideShapes.add_plain]
theorem RdB.new (w : World) (l : List Int) (t : TypeId) (fz : Nat × Nat) : RdB (w.alloc (.cells (l.map (Value.int .u8)).toArray t fz)) (some ⟨w.heap.size, 0, none⟩) l := by
  refine Or.inr ⟨_, _, rfl, fun i c hi => ?_⟩
  have h := heap_alloc_new w (.cells (l.map (Value.int .u8)).toArray t fz)
  unfold World.cell?
  rw [h]
  simp [hi]
theorem exec_slice_from {P : Program} {w : World} {ev : Operand → Value} {o : Oper} {T : TypeId} {x y : Operand} {xv yv v : Value} (ho : o.op = .slice T x (some y) none none) (hx : ev x = xv) (hy : ev y = yv)
    (h : ∀ w : World, (Instr.sliceAt T xv (some yv) none none).run P w = .ok v w) : (execOp ev o).run P w = .ok (.value v) w := by
  unfold execOp
  simp only [ho, hx, hy, Option.map_some, Option.map_none, Sem.run_bind, h, Result.andThen_ok, Sem.run_pure]
theorem wpList_slice {P : Program} {ops : Array Oper} {rest : List Oper} {o : Oper} {a : Act} {Q : Exit → Act → World → Prop} {w : World} (hgd : o.guard = none) (T : TypeId) (x : Operand) (lo hi : Option Operand) (xv v : Value) (ho : o.op = .slice T x lo hi none) (hx : a.eval x = xv)
    (h : ∀ w : World, (Instr.sliceAt T xv (lo.map a.eval) (hi.map a.eval) none).run P w = .ok v w) (k : wpList P ops Q rest (a.put o.dst v) w) : wpList P ops Q (o :: rest) a w := by
  refine wpList_plain hgd fun K hK => ?_
  unfold Oper.wp execOp
  simp only [ho, hx, Option.map_none, Sem.run_bind, h, Result.andThen_ok, Sem.run_pure]
  exact hK _ _ k
theorem RdB.rest {w : World} {b off off' cap lo : Nat} {l : List Int} (h : RdB w (some ⟨b, off, none⟩) l) (hl : l.length ≤ cap) (h1 : lo < cap → off' = off + lo) : RdB w (some ⟨b, off', none⟩) (l.drop lo) := by
  by_cases hc : lo < cap
  · rw [h1 hc]
    exact h.drop lo
  · exact Or.inl (List.drop_eq_nil_of_le (by omega))

theorem RdB.text {P : Program} {w : World} {a : Option Addr} {l : List Int} (h : RdB w a l) (src e dst : TypeId) (hs : P.underlying src = some (.slice e)) (he : P.underlying e = some (.int .u8)) (hd : P.underlying dst = some .string) (hn : l = [] → a = none ∨ ∃ b off, a = some ⟨b, off, none⟩) (cap : Nat) :
    (convert src dst (.slice a l.length cap)).run P w = .ok (.string (strL l)) w := by
  rcases h with rfl | ⟨b, off, rfl, hc⟩
  · rcases hn rfl with rfl | ⟨b, off, rfl⟩
    · exact run_convert_bytes_nil w src e hs he _ _ dst hd
    · exact run_convert_bytes_arg w src e hs he b off 0 cap [] rfl (fun i hi => by omega) dst hd
  · refine run_convert_bytes_arg w src e hs he b off l.length cap l rfl (fun i hi => ?_) dst hd
    rw [hc i _ (List.getElem?_eq_getElem hi), List.getD_eq_getElem?_getD, List.getElem?_eq_getElem hi]
    rfl

/-- A slice of bytes in a block from B on. -/
def OwnB (w : World) (B : Nat) (a : Option Addr) (cap : Nat) (l : List Int) : Prop := w.ownsRow B 5 1 (.slice a l.length cap) l.length (l.map (Value.int .u8))
theorem own_slice {w : World} {base : Nat} {e : TypeId} {size : Nat} {v : Value} {n : Nat} {xs : List Value} (h : w.ownsRow base e size v n xs) : ∃ a cap, v = .slice a n cap := by
  rcases h.2 with ⟨rfl, rfl⟩ | ⟨g, cap, _, rfl, _⟩
  · exact ⟨_, _, rfl⟩
  · exact ⟨_, _, rfl⟩
theorem OwnB.nil (w : World) (B : Nat) : OwnB w B none 0 [] := World.ownsRow_nil _ _ _ _
theorem OwnB.lit {w : World} {B : Nat} (l : List Int) (hB : B ≤ w.heap.size) (hl : l.length ≤ 1000000) : OwnB (w.alloc (.cells (l.map (Value.int .u8)).toArray 5)) B (some ⟨w.heap.size, 0, none⟩) l.length l := by
  have := World.ownsRow_lit (base := B) (e := 5) (size := 1) w (l.map (Value.int .u8)).toArray l.length hB (by unfold maxLen; omega) (by simp)
  simpa [OwnB] using this
theorem OwnB.cap_le {w : World} {B : Nat} {a : Option Addr} {cap : Nat} {l : List Int} (h : OwnB w B a cap l) : l.length ≤ cap := by
  rcases h.2 with ⟨e, h0⟩ | ⟨g, c, cur, e, _, _, hnc, _⟩
  · omega
  · injection e with _ _ e3
    rw [e3]
    exact hnc
theorem OwnB.max {w : World} {B : Nat} {a : Option Addr} {cap : Nat} {l : List Int} (h : OwnB w B a cap l) : cap ≤ 9223372036854775807 := by
  rcases h.2 with ⟨e, h0⟩ | ⟨g, c, cur, e, _, _, _, hm, _⟩
  · injection e with _ _ e3
    rw [e3]
    decide
  · injection e with _ _ e3
    rw [e3]
    exact hm
theorem OwnB.form {w : World} {B : Nat} {a : Option Addr} {cap : Nat} {l : List Int} (h : OwnB w B a cap l) : (a = none ∧ l = [] ∧ cap = 0) ∨ ∃ g, a = some ⟨g, 0, none⟩ ∧ B ≤ g ∧ g < w.heap.size := by
  rcases h.2 with ⟨e, h0⟩ | ⟨g, c, cur, e, hb, hg, _, hm, _⟩
  · injection e with e1 e2 e3
    exact Or.inl ⟨e1, List.eq_nil_of_length_eq_zero e2, e3⟩
  · injection e with e1 e2 e3
    refine Or.inr ⟨g, e1, hb, ?_⟩
    exact (Array.getElem?_eq_some_iff.1 hg).1
theorem OwnB.rd {w : World} {B : Nat} {a : Option Addr} {cap : Nat} {l : List Int} (h : OwnB w B a cap l) : RdB w a l := by
  rcases h.form with ⟨_, hl, _⟩ | ⟨g, rfl, _⟩
  · exact Or.inl hl
  · refine Or.inr ⟨g, 0, rfl, fun i c hi => ?_⟩
    have hlt := (List.getElem?_eq_some_iff.1 hi).1
    rw [Nat.zero_add, World.ownsRow.cellAt h i (by omega), List.getElem?_map, hi]
    rfl
theorem OwnB.alloc {w : World} {B : Nat} {a : Option Addr} {cap : Nat} {l : List Int} (h : OwnB w B a cap l) (o : Obj) : OwnB (w.alloc o) B a cap l := World.ownsRow.alloc h o
theorem OwnB.drew {w : World} {B : Nat} {a : Option Addr} {cap : Nat} {l : List Int} (h : OwnB w B a cap l) : OwnB w.drew B a cap l := h
theorem OwnB.mono {w : World} {B B' : Nat} {a : Option Addr} {cap : Nat} {l : List Int} (h : OwnB w B a cap l) (hB : B' ≤ B) : OwnB w B' a cap l := by
  refine ⟨h.1, ?_⟩
  rcases h.2 with h | ⟨g, c, cur, e, hb, hr⟩
  · exact Or.inl h
  · exact Or.inr ⟨g, c, cur, e, Nat.le_trans hB hb, hr⟩
theorem OwnB.later {w w' : World} {B : Nat} {a : Option Addr} {cap : Nat} {l : List Int} (h : OwnB w B a cap l) (hb : Below w.heap.size w w') : OwnB w' B a cap l := by
  refine ⟨h.1, ?_⟩
  rcases h.2 with h | ⟨g, c, cur, e, hB, hg, hr⟩
  · exact Or.inl h
  · exact Or.inr ⟨g, c, cur, e, hB, (hb.block g (Array.getElem?_eq_some_iff.1 hg).1).trans hg, hr⟩

theorem info5 : (Tryz.prog.info? 5).map (fun i => (i.zero, i.size, i.bytes)) = some (some (.int .u8 0), 1, 1) := by kernel_rfl

section
variable {ops : Array Oper} {rest : List Oper} {o : Oper} {act : Act} {Q : Exit → Act → World → Prop} {w : World}
/-- Bytes are appended. -/
theorem wpList_app (hgd : o.guard = none) (s x : Operand) (ho : o.op = .call { callee := .builtin .append, args := #[s, x], argTypes := #[55, 55] })
    (B : Nat) (a : Option Addr) (cap : Nat) (l : List Int) (hs : act.eval s = .slice a l.length cap) (hown : OwnB w B a cap l)
    (b2 off2 c2 : Nat) (l2 : List Int) (hx : act.eval x = .slice (some ⟨b2, off2, none⟩) l2.length c2) (hr : RdB w (some ⟨b2, off2, none⟩) l2) (hl : l.length + l2.length ≤ 10000000) (hB : B ≤ w.heap.size)
    (h : ∀ a' cap' w', OwnB w' B a' cap' (l ++ l2) → Below B w w' → wpList Tryz.prog ops Q rest (act.put o.dst (.slice a' (l ++ l2).length cap')) w') : wpList Tryz.prog ops Q (o :: rest) act w := by
  obtain ⟨i0, hi0, hz0, hz1, hz2⟩ := info_parts info5
  refine wpList_append_own_at _ hgd s x _ ho B 5 i0 (.int .u8 0) 1 1 Tryz.underlying55 hi0 hz0 hz1 hz2 rfl (by decide) (.slice a l.length cap) _ _ hs hown ⟨b2, off2, none⟩ l2.length c2 (l2.map (Value.int .u8)) hx (by simp) ?_ ?_ (by unfold maxLen; omega) (by omega) hB ?_
  · intro j u hj
    rw [Go.WideShapes.add_plain]
    rw [List.getElem?_map] at hj
    cases hc : l2[j]? with
    | none => rw [hc] at hj; cases hj
    | some c =>
      rw [hc] at hj
      injection hj with hj
      rw [← hj]
      exact hr.cells j c hc
  · intro u hu
    obtain ⟨c, _, rfl⟩ := List.mem_map.1 hu
    rfl
  · intro v' w' hown' hg _ _
    obtain ⟨a', cap', rfl⟩ := own_slice hown'
    have := h a' cap' w' (by unfold OwnB; rw [List.length_append, List.map_append]; exact hown') ((Below.refl _ _).grown hg hB (fun k hk => (hown.lt k hk).1))
    rwa [List.length_append] at this
/-- A string's bytes are appended. -/
theorem wpList_apps (hgd : o.guard = none) (s x : Operand) (ho : o.op = .call { callee := .builtin .append, args := #[s, x], argTypes := #[55, 9] })
    (B : Nat) (a : Option Addr) (cap : Nat) (l : List Int) (hs : act.eval s = .slice a l.length cap) (hown : OwnB w B a cap l)
    (z : ByteArray) (hx : act.eval x = .string z) (hl : l.length + z.size ≤ 10000000) (hB : B ≤ w.heap.size)
    (h : ∀ a' cap' w', OwnB w' B a' cap' (l ++ btL z) → Below B w w' → wpList Tryz.prog ops Q rest (act.put o.dst (.slice a' (l ++ btL z).length cap')) w') : wpList Tryz.prog ops Q (o :: rest) act w := by
  obtain ⟨i0, hi0, hz0, hz1, hz2⟩ := info_parts info5
  refine Lib.wpList_append_own_string _ hgd s x _ _ ho B 5 i0 Tryz.underlying55 Tryz.underlying9 hi0 hz0 hz1 hz2 (.slice a l.length cap) _ _ hs hown z hx (by unfold maxLen; omega) (by omega) hB ?_
  intro v' w' hown' hg _
  obtain ⟨a', cap', rfl⟩ := own_slice hown'
  have e : Lib.strCells z = (btL z).map (Value.int .u8) := by
    unfold Lib.strCells btL
    rw [List.map_map]
    rfl
  rw [e] at hown'
  have := h a' cap' w' (by unfold OwnB; rw [List.length_append, List.map_append, btL_length]; exact hown') ((Below.refl _ _).grown hg hB (fun k hk => (hown.lt k hk).1))
  rwa [List.length_append, btL_length] at this
end
end Go.Proofs.YtimkgaokcldgkaaGreatDoor
/- Package frame: the checksum of bytes, and the document's. -/
namespace Go.Proofs.YtimkgaokcldgkaaGreatDoor
open Go.RowKit

theorem bx (s : BitVec 32) (c : Int) (h0 : 0 ≤ c) (h1 : c < 4294967296) : bits .xor .u32 (s.toNat : Int) c = ((s ^^^ BitVec.ofInt 32 c).toNat : Int) := by
  have := s.isLt
  rw [u32_xor _ _ (by omega) (by omega) h0 h1, BitVec.toNat_xor]
  have e : (BitVec.ofInt 32 c).toNat = c.toNat := by
    rw [BitVec.toNat_ofInt]
    omega
  rw [e, Int.toNat_natCast]
theorem bnot (s : BitVec 32) : bits .xor .u32 (s.toNat : Int) 4294967295 = ((~~~ s).toNat : Int) := by
  rw [bx s _ (by decide) (by decide)]
  congr 2
  have : BitVec.ofInt 32 4294967295 = BitVec.allOnes 32 := by decide
  rw [this, BitVec.xor_allOnes]
theorem bnot2 (s : BitVec 32) : bits .xor .u32 IntKind.u32.max (s.toNat : Int) = ((~~~ s).toNat : Int) := by
  rw [← bnot]
  unfold bits
  simp only
  rw [BitVec.xor_comm]
  rfl
theorem ret_int {k : IntKind} {a b : Int} (h : a = b) : Ending.returned (.int k a) = .returned (.int k b) := by rw [h]
theorem low_bit (s : BitVec 32) : (s.toNat : Int) % 2 = if s.getLsbD 0 then 1 else 0 := by
  have h : s.getLsbD 0 = decide (s.toNat % 2 = 1) := by
    rw [BitVec.getLsbD, Nat.testBit_zero]
  rw [h]
  by_cases h2 : s.toNat % 2 = 1 <;> simp [h2] <;> omega
theorem and_one (s : BitVec 32) : bits .and .u32 (s.toNat : Int) 1 = if s.getLsbD 0 then 1 else 0 := by
  have := s.isLt
  rw [u32_and _ _ (by omega) (by omega) (by decide) (by decide), ← low_bit]
  simp
theorem half (s : BitVec 32) : (s.toNat : Int) / (2 : Int) = ((s >>> 1).toNat : Int) := by
  rw [BitVec.toNat_ushiftRight, Nat.shiftRight_eq_div_pow]
  omega
theorem runC_take {l : List Int} {k : Nat} {c : Int} (s : BitVec 32) (h : l[k]? = some c) : runC s (l.take (k + 1)) = byteC (runC s (l.take k)) c := by
  rw [List.take_add_one, h, runC_append]
  rfl
theorem stepsC_succ (n : Nat) (s : BitVec 32) : stepsC (n + 1) s = stepC (stepsC n s) := by
  rw [stepsC_add]
  rfl

set_option maxHeartbeats 1000000 in
theorem sum_at (l : List Int) (a : Option Addr) (cap : Nat) (w : World) (hr : RdB w a l) (hb : Byts l) (hl : l.length < 1000000) :
    Calls Tryz.prog 44 #[.slice a l.length cap] w fun e w' => e = .returned (.int .u32 (sumC l).toNat) ∧ w = w' := by
  have HB := Lib.hid hb
  clear hb
  go_enter Tryz.func44, Tryz.ntmps44
  go_wp2_with fail
  go_loop [3, 9] (fun vs vk => ∃ k : Nat, k ≤ l.length ∧ vk = .int .i64 k ∧ vs = .int .u32 (runC (~~~ 0#32) (l.take k)).toNat) (fun _ vk => l.length - (intOf vk).toNat)
  case atStart => exact ⟨0, by omega, rfl, rfl⟩
  case round =>
    obtain ⟨k, hk, rfl, rfl⟩ := hrel
    by_cases hlt : k < l.length
    · have hd1 : decide ((k : Int) < l.length) = true := decide_eq_true (by omega)
      rcases hr with rfl | ⟨b, off, rfl, hc⟩
      · simp at hlt
      have hcell := hc k _ (List.getElem?_eq_getElem hlt)
      have hbd := HB.out _ (List.getElem_mem hlt)
      have HS := Lib.hid (runC_take (~~~ 0#32) (List.getElem?_eq_getElem hlt))
      generalize l[k] = c at *
      have HC := Lib.hid hc
      clear hc
      generalize runC (~~~ 0#32) (l.take k) = s at *
      have hx := bx s c hbd.1 (by omega)
      have hcm : c % 4294967296 = c := by omega
      obtain ⟨t, ht⟩ : ∃ t, s ^^^ BitVec.ofInt 32 c = t := ⟨_, rfl⟩
      rw [ht] at hx
      have HT := Lib.hid ht
      clear ht
      go_wp2_with fail
      clear hx
      go_loop [3, 17] (fun vs vj => ∃ j : Nat, j ≤ 8 ∧ vj = .int .i64 j ∧ vs = .int .u32 (stepsC j t).toNat) (fun _ vj => 8 - (intOf vj).toNat)
      case atStart => exact ⟨0, by omega, rfl, rfl⟩
      case round =>
        obtain ⟨j, hj, rfl, rfl⟩ := hrel
        by_cases hj8 : j < 8
        · have hd2 : decide ((j : Int) < 8) = true := decide_eq_true (by omega)
          have HJ := Lib.hid (stepsC_succ j t)
          generalize stepsC j t = u at *
          have h1 := and_one u
          have h2 := half u
          obtain ⟨u1, hu1⟩ : ∃ x, u >>> 1 = x := ⟨_, rfl⟩
          obtain ⟨u2, hu2⟩ : ∃ x, stepsC (j + 1) t = x := ⟨_, rfl⟩
          cases hlb : u.getLsbD 0 with
          | true =>
            rw [hlb, if_pos rfl] at h1
            have h3 := bx u1 3988292384 (by decide) (by decide)
            rw [show u1 ^^^ BitVec.ofInt 32 3988292384 = u2 by rw [← hu2, HJ.out, stepC, if_pos hlb, hu1]; rfl] at h3
            rw [hu1] at h2
            have HU := Lib.hid hu2
            clear hlb hu1 hu2
            go_wp2_with fail
            go_round
            case rel => exact ⟨j + 1, by omega, by go_num, by rw [HU.out]⟩
            case measure => simp [intOf]; omega
          | false =>
            rw [hlb, if_neg (by decide)] at h1
            have HU : Hid (stepsC (j + 1) t = u1) := Lib.hid (by rw [HJ.out, stepC, if_neg (by rw [hlb]; decide), hu1])
            rw [hu1] at h2
            clear hlb hu1 hu2
            go_wp2_with fail
            go_round
            case rel => exact ⟨j + 1, by omega, by go_num, by rw [HU.out]⟩
            case measure => simp [intOf]; omega
        · have hd2 : decide ((j : Int) < 8) = false := decide_eq_false (by omega)
          obtain rfl : j = 8 := by omega
          go_wp2_with fail
          go_round
          case rel => exact ⟨k + 1, by omega, by go_num, by rw [HS.out, byteC, HT.out]⟩
          case measure => simp [intOf]; omega
    · have hd1 : decide ((k : Int) < l.length) = false := decide_eq_false (by omega)
      have hn := bnot2 (runC (~~~ 0#32) (l.take k))
      have hsg : IntKind.u32.signed = false := rfl
      have HT := Lib.hid (List.take_of_length_le (show l.length ≤ k by omega))
      rw [HT.out] at hn
      obtain ⟨v, hv⟩ : ∃ x, runC (~~~ 0#32) l = x := ⟨_, rfl⟩
      rw [hv] at hn
      obtain ⟨v', hv'⟩ : ∃ x, ~~~ v = x := ⟨_, rfl⟩
      rw [hv'] at hn
      have HV : Hid (sumC l = v') := Lib.hid (by unfold sumC; rw [hv, hv'])
      rw [HT.out, hv]
      clear hv hv' HT
      go_wp2_with fail
      go_ret
      exact ⟨ret_int (by rw [HV.out]), rfl⟩

/-! The document's sum: each bit of a byte is taken in when it is its turn. -/
end Go.Proofs.YtimkgaokcldgkaaGreatDoor
/- Package frame: numbers as bytes, there and back. -/
namespace Go.Proofs.YtimkgaokcldgkaaGreatDoor
open Go.RowKit

theorem or_shl (n c : Int) (h0 : 0 ≤ c) (h1 : c < 256) : bits .or .i64 (wrap64 (n * 256)) c = wrap64 (n * 256 + c) := by
  have ha : (BitVec.ofInt 64 (wrap64 (n * 256))).toNat = (n * 256 % 18446744073709551616).toNat := by
    rw [BitVec.toNat_ofInt]
    unfold wrap64
    omega
  have hc : (BitVec.ofInt 64 c).toNat = c.toNat := by
    rw [BitVec.toNat_ofInt]
    omega
  show IntKind.i64.wrap ((BitVec.ofInt 64 (wrap64 (n * 256)) ||| BitVec.ofInt 64 c).toNat : Int) = _
  rw [BitVec.toNat_or, ha, hc]
  have hq : (n * 256 % 18446744073709551616).toNat = 2 ^ 8 * ((n * 256 % 18446744073709551616).toNat / 256) := by omega
  rw [hq, ← Nat.two_pow_add_eq_or_of_lt (by omega), ← hq, IntKind.wrap_i64]
  unfold wrap64
  omega
theorem val_take {l : List Int} {k : Nat} {c : Int} (h : l[k]? = some c) : valI (l.take (k + 1)) = valI (l.take k) * 256 + c := by
  rw [List.take_add_one, h]
  exact valI_snoc _ _
theorem wrap_step (v c : Int) : wrap64 (wrap64 v * 256 + c) = wrap64 (v * 256 + c) := by unfold wrap64; omega

set_option maxHeartbeats 1000000 in
theorem number_at (l : List Int) (a : Option Addr) (cap : Nat) (w : World) (hr : RdB w a l) (hb : Byts l) (hl : l.length < 1000000) :
    Calls Tryz.prog 76 #[.slice a l.length cap] w fun e w' => e = .returned (.int .i64 (wrap64 (valI l))) ∧ w = w' := by
  have HB := Lib.hid hb
  clear hb
  go_enter Tryz.func76, Tryz.ntmps76
  go_wp2_with fail
  go_loop [3, 8] (fun vs vk => ∃ k : Nat, k ≤ l.length ∧ vk = .int .i64 k ∧ vs = .int .i64 (wrap64 (valI (l.take k)))) (fun _ vk => l.length - (intOf vk).toNat)
  case atStart => exact ⟨0, by omega, rfl, by simp [valI, wrap64]⟩
  case round =>
    obtain ⟨k, hk, rfl, rfl⟩ := hrel
    by_cases hlt : k < l.length
    · have hd1 : decide ((k : Int) < l.length) = true := decide_eq_true (by omega)
      rcases hr with rfl | ⟨b, off, rfl, hc⟩
      · simp at hlt
      have hcell := hc k _ (List.getElem?_eq_getElem hlt)
      have hbd := HB.out _ (List.getElem_mem hlt)
      have HS := Lib.hid (val_take (List.getElem?_eq_getElem hlt))
      generalize l[k] = c at *
      have HC := Lib.hid hc
      clear hc
      obtain ⟨v, hv⟩ : ∃ v, valI (l.take k) = v := ⟨_, rfl⟩
      rw [hv] at HS ⊢
      clear hv
      have ho := or_shl (wrap64 v) c hbd.1 hbd.2
      rw [wrap_step, ← HS.out] at ho
      go_wp2_with fail
      go_round
      case rel => exact ⟨k + 1, by omega, by go_num, rfl⟩
      case measure => simp [intOf]; omega
    · have hd1 : decide ((k : Int) < l.length) = false := decide_eq_false (by omega)
      have HT := Lib.hid (List.take_of_length_le (show l.length ≤ k by omega))
      rw [HT.out]
      go_wp2_with fail
      go_ret
      exact ⟨rfl, rfl⟩

set_option maxHeartbeats 1000000 in
theorem appNum_at (B : Nat) (n : Int) (size : Nat) (xs : List Int) (a : Option Addr) (cap : Nat) (w : World) (hs : size ≤ 8) (hown : OwnB w B a cap xs) (hB : B ≤ w.heap.size) (hl : xs.length < 100000) :
    Calls Tryz.prog 43 #[.slice a xs.length cap, .int .i64 n, .int .i64 size] w fun e w' => ∃ a' cap', e = .returned (.slice a' (xs ++ bigI n size).length cap') ∧ OwnB w' B a' cap' (xs ++ bigI n size) ∧ Below B w w' := by
  have HOW := Lib.hid hown
  clear hown
  go_enter Tryz.func43, Tryz.ntmps43
  go_wp2_with fail
  go_loopw [0, 9] (fun vs vk wx => ∃ (k : Nat) (ys : List Int) (a' : Option Addr) (cap' : Nat), k ≤ size ∧ vk = .int .i64 k ∧ vs = .slice a' ys.length cap' ∧ ys.length = xs.length + k ∧ Hid (ys = xs ++ (bigI n size).take k) ∧ Hid (OwnB wx B a' cap' ys) ∧ Hid (Below B w wx)) (fun _ vk _ => size - (intOf vk).toNat)
  case atStart => exact ⟨0, xs, a, cap, by omega, rfl, rfl, by omega, Lib.hid (by simp), HOW, Lib.hid (Below.refl _ _)⟩
  case round =>
    obtain ⟨k, ys, a', cap', hk, rfl, rfl, hyl, HY, HR, HB⟩ := hrel
    have hyb : ys.length < 100008 := by omega
    have HYL := Lib.hid hyl
    clear hyl
    by_cases hlt : k < size
    · have hd1 : decide ((k : Int) < size) = true := decide_eq_true (by omega)
      have HN : Hid ((bigI n size)[k]? = some (n / 2 ^ (8 * (size - 1 - k)) % 256)) := Lib.hid (by
        rw [bigI_get n size k hlt, Int.pow_mul]
        rfl)
      have hbs := HB.out.size
      go_wp2_with (at_builtin; refine wpList_app rfl _ _ rfl B a' cap' ys rfl (HR.out.alloc _) wr.heap.size 0 1 [n / 2 ^ (8 * (size - 1 - k)) % 256] rfl (OwnB.lit (B := B) [n / 2 ^ (8 * (size - 1 - k)) % 256] (by omega) (by simp)).rd (by simp; omega) (by simp; omega) ?_; intro a2 cap2 w2 hown2 hb2)
      have HY2 : Hid (ys ++ [n / 2 ^ (8 * (size - 1 - k)) % 256] = xs ++ (bigI n size).take (k + 1)) := Lib.hid (by rw [HY.out, List.append_assoc, List.take_add_one, HN.out]; rfl)
      have HL2 : (ys ++ [n / 2 ^ (8 * (size - 1 - k)) % 256]).length = xs.length + (k + 1) := by rw [List.length_append, HYL.out]; simp; omega
      have HZ : Hid (ys.length + 1 = (ys ++ [n / 2 ^ (8 * (size - 1 - k)) % 256]).length) := Lib.hid (by simp)
      generalize ys ++ [n / 2 ^ (8 * (size - 1 - k)) % 256] = zs at *
      have HB2 := Lib.hid ((HB.out.alloc (by omega) _).trans hb2)
      go_roundw
      case rel => exact ⟨k + 1, zs, a2, cap2, by omega, by go_num, by rw [HZ.out], HL2, HY2, Lib.hid hown2, HB2⟩
      case measure => simp [intOf]; omega
    · have hd1 : decide ((k : Int) < size) = false := decide_eq_false (by omega)
      have HT := Lib.hid (HY.out.trans (by rw [List.take_of_length_le (by simp; omega)]))
      go_wp2_with fail
      have e := HT.out
      subst e
      exact bodyPost_ret (by simp [results, Tryz.results43, go_sem]) rfl ⟨a', cap', rfl, HR.out, HB.out⟩

/-! The document's numbers. -/
end Go.Proofs.YtimkgaokcldgkaaGreatDoor
/- Package frame: records in memory; whether one may be. -/
namespace Go.Proofs.YtimkgaokcldgkaaGreatDoor
open Go.RowKit

/-- A record's cells. -/
def reqL (r : Rc) : List Value := [.int .i64 r.id, .string r.host, .string r.path, .int .i64 r.prio, .int .i64 r.till]
def recL (r : Rc) : List Value := .int .i64 r.kind :: reqL r
set_option maxHeartbeats 1000000 in
theorem sound_yes (r : Rc) (w : World) (h : soundR r) :
    Calls Tryz.prog 42 #[.agg (recL r).toArray] w fun e w' => e = .returned (.bool true) ∧ Below w.heap.size w w' := by
  obtain ⟨g0, g1, g2, g3, g4, g5, g6, g7⟩ := h
  have d0 : decide ((1 : Int) ≤ r.kind) = true := decide_eq_true (by omega)
  have d1 : decide (r.kind ≤ (3 : Int)) = true := decide_eq_true (by omega)
  have d2 : decide ((0 : Int) ≤ r.id) = true := decide_eq_true (by omega)
  have d3 : decide ((0 : Int) ≤ r.till) = true := decide_eq_true (by omega)
  have d4 : decide ((0 : Int) ≤ r.prio) = true := decide_eq_true (by omega)
  have d5 : decide (r.prio ≤ (7 : Int)) = true := decide_eq_true (by omega)
  have d6 : decide ((r.host.size : Int) ≤ 256) = true := decide_eq_true (by omega)
  have d7 : decide ((r.path.size : Int) ≤ 768) = true := decide_eq_true (by omega)
  clear g0 g1 g2 g3 g4 g5
  show Calls Tryz.prog 42 #[.agg #[.int .i64 r.kind, .int .i64 r.id, .string r.host, .string r.path, .int .i64 r.prio, .int .i64 r.till]] w _
  go_enter Tryz.func42, Tryz.ntmps42
  go_wp2_with fail
  go_ret
  exact ⟨rfl, (Below.refl _ _).alloc (Nat.le_refl _) _⟩
set_option maxHeartbeats 4000000 in
theorem sound_no (r : Rc) (w : World) (h : ¬ soundR r) :
    Calls Tryz.prog 42 #[.agg (recL r).toArray] w fun e w' => e = .returned (.bool false) ∧ Below w.heap.size w w' := by
  unfold soundR at h
  by_cases g0 : 1 ≤ r.kind
  rotate_left
  · clear h
    have d0 : decide ((1 : Int) ≤ r.kind) = false := decide_eq_false (by omega)
    show Calls Tryz.prog 42 #[.agg #[.int .i64 r.kind, .int .i64 r.id, .string r.host, .string r.path, .int .i64 r.prio, .int .i64 r.till]] w _
    go_enter Tryz.func42, Tryz.ntmps42
    go_wp2_with fail
    go_ret
    exact ⟨rfl, (Below.refl _ _).alloc (Nat.le_refl _) _⟩
  by_cases g1 : r.kind ≤ 3
  rotate_left
  · clear h
    have d0 : decide ((1 : Int) ≤ r.kind) = true := decide_eq_true (by omega)
    have d1 : decide (r.kind ≤ (3 : Int)) = false := decide_eq_false (by omega)
    show Calls Tryz.prog 42 #[.agg #[.int .i64 r.kind, .int .i64 r.id, .string r.host, .string r.path, .int .i64 r.prio, .int .i64 r.till]] w _
    go_enter Tryz.func42, Tryz.ntmps42
    go_wp2_with fail
    go_ret
    exact ⟨rfl, (Below.refl _ _).alloc (Nat.le_refl _) _⟩
  by_cases g2 : 0 ≤ r.id
  rotate_left
  · clear h
    have d0 : decide ((1 : Int) ≤ r.kind) = true := decide_eq_true (by omega)
    have d1 : decide (r.kind ≤ (3 : Int)) = true := decide_eq_true (by omega)
    have d2 : decide ((0 : Int) ≤ r.id) = false := decide_eq_false (by omega)
    show Calls Tryz.prog 42 #[.agg #[.int .i64 r.kind, .int .i64 r.id, .string r.host, .string r.path, .int .i64 r.prio, .int .i64 r.till]] w _
    go_enter Tryz.func42, Tryz.ntmps42
    go_wp2_with fail
    go_ret
    exact ⟨rfl, (Below.refl _ _).alloc (Nat.le_refl _) _⟩
  by_cases g3 : 0 ≤ r.till
  rotate_left
  · clear h
    have d0 : decide ((1 : Int) ≤ r.kind) = true := decide_eq_true (by omega)
    have d1 : decide (r.kind ≤ (3 : Int)) = true := decide_eq_true (by omega)
    have d2 : decide ((0 : Int) ≤ r.id) = true := decide_eq_true (by omega)
    have d3 : decide ((0 : Int) ≤ r.till) = false := decide_eq_false (by omega)
    show Calls Tryz.prog 42 #[.agg #[.int .i64 r.kind, .int .i64 r.id, .string r.host, .string r.path, .int .i64 r.prio, .int .i64 r.till]] w _
    go_enter Tryz.func42, Tryz.ntmps42
    go_wp2_with fail
    go_ret
    exact ⟨rfl, (Below.refl _ _).alloc (Nat.le_refl _) _⟩
  by_cases g4 : 0 ≤ r.prio
  rotate_left
  · clear h
    have d0 : decide ((1 : Int) ≤ r.kind) = true := decide_eq_true (by omega)
    have d1 : decide (r.kind ≤ (3 : Int)) = true := decide_eq_true (by omega)
    have d2 : decide ((0 : Int) ≤ r.id) = true := decide_eq_true (by omega)
    have d3 : decide ((0 : Int) ≤ r.till) = true := decide_eq_true (by omega)
    have d4 : decide ((0 : Int) ≤ r.prio) = false := decide_eq_false (by omega)
    show Calls Tryz.prog 42 #[.agg #[.int .i64 r.kind, .int .i64 r.id, .string r.host, .string r.path, .int .i64 r.prio, .int .i64 r.till]] w _
    go_enter Tryz.func42, Tryz.ntmps42
    go_wp2_with fail
    go_ret
    exact ⟨rfl, (Below.refl _ _).alloc (Nat.le_refl _) _⟩
  by_cases g5 : r.prio ≤ 7
  rotate_left
  · clear h
    have d0 : decide ((1 : Int) ≤ r.kind) = true := decide_eq_true (by omega)
    have d1 : decide (r.kind ≤ (3 : Int)) = true := decide_eq_true (by omega)
    have d2 : decide ((0 : Int) ≤ r.id) = true := decide_eq_true (by omega)
    have d3 : decide ((0 : Int) ≤ r.till) = true := decide_eq_true (by omega)
    have d4 : decide ((0 : Int) ≤ r.prio) = true := decide_eq_true (by omega)
    have d5 : decide (r.prio ≤ (7 : Int)) = false := decide_eq_false (by omega)
    show Calls Tryz.prog 42 #[.agg #[.int .i64 r.kind, .int .i64 r.id, .string r.host, .string r.path, .int .i64 r.prio, .int .i64 r.till]] w _
    go_enter Tryz.func42, Tryz.ntmps42
    go_wp2_with fail
    go_ret
    exact ⟨rfl, (Below.refl _ _).alloc (Nat.le_refl _) _⟩
  by_cases g6 : r.host.size ≤ 256
  rotate_left
  · clear h
    have d0 : decide ((1 : Int) ≤ r.kind) = true := decide_eq_true (by omega)
    have d1 : decide (r.kind ≤ (3 : Int)) = true := decide_eq_true (by omega)
    have d2 : decide ((0 : Int) ≤ r.id) = true := decide_eq_true (by omega)
    have d3 : decide ((0 : Int) ≤ r.till) = true := decide_eq_true (by omega)
    have d4 : decide ((0 : Int) ≤ r.prio) = true := decide_eq_true (by omega)
    have d5 : decide (r.prio ≤ (7 : Int)) = true := decide_eq_true (by omega)
    have d6 : decide ((r.host.size : Int) ≤ 256) = false := decide_eq_false (by omega)
    show Calls Tryz.prog 42 #[.agg #[.int .i64 r.kind, .int .i64 r.id, .string r.host, .string r.path, .int .i64 r.prio, .int .i64 r.till]] w _
    go_enter Tryz.func42, Tryz.ntmps42
    go_wp2_with fail
    go_ret
    exact ⟨rfl, (Below.refl _ _).alloc (Nat.le_refl _) _⟩
  by_cases g7 : r.path.size ≤ 768
  rotate_left
  · clear h
    have d0 : decide ((1 : Int) ≤ r.kind) = true := decide_eq_true (by omega)
    have d1 : decide (r.kind ≤ (3 : Int)) = true := decide_eq_true (by omega)
    have d2 : decide ((0 : Int) ≤ r.id) = true := decide_eq_true (by omega)
    have d3 : decide ((0 : Int) ≤ r.till) = true := decide_eq_true (by omega)
    have d4 : decide ((0 : Int) ≤ r.prio) = true := decide_eq_true (by omega)
    have d5 : decide (r.prio ≤ (7 : Int)) = true := decide_eq_true (by omega)
    have d6 : decide ((r.host.size : Int) ≤ 256) = true := decide_eq_true (by omega)
    have d7 : decide ((r.path.size : Int) ≤ 768) = false := decide_eq_false (by omega)
    show Calls Tryz.prog 42 #[.agg #[.int .i64 r.kind, .int .i64 r.id, .string r.host, .string r.path, .int .i64 r.prio, .int .i64 r.till]] w _
    go_enter Tryz.func42, Tryz.ntmps42
    go_wp2_with fail
    go_ret
    exact ⟨rfl, (Below.refl _ _).alloc (Nat.le_refl _) _⟩
  exact absurd ⟨g0, g1, g2, g3, g4, g5, g6, g7⟩ h

/-! The document's. -/
end Go.Proofs.YtimkgaokcldgkaaGreatDoor
