/- Blocks that a call has made itself: what they hold, and what becomes of them. No program here. -/
import Derived.WalkKit
import Derived.WalkSpells
import Derived.WalkLawsBesides
import Derived.Lib.Hide
import Derived.Below
import Derived.OneCell
import Derived.Laws.Tables
import Derived.Laws.CopyOwn
namespace Go.Proofs.Ytonfbkffngplcaa
open Go.RowKit

/-- Block b holds these cells, and may be written. -/
def Box (w : World) (b : Nat) (cs : Array Value) (t : TypeId) : Prop := w.heap[b]? = some (.cells cs t (0, 0))
theorem cell_blk {w w' : World} {b : Nat} (h : w'.heap[b]? = w.heap[b]?) (j : Nat) : w'.cell? ⟨b, j, none⟩ = w.cell? ⟨b, j, none⟩ := by
  unfold World.cell?
  rw [h]
theorem frz_blk {w w' : World} {b : Nat} (h : w'.heap[b]? = w.heap[b]?) (j : Nat) : w'.frozen? ⟨b, j, none⟩ = w.frozen? ⟨b, j, none⟩ := by
  unfold World.frozen?
  rw [h]
theorem Box.lt {w : World} {b : Nat} {cs : Array Value} {t : TypeId} (h : Box w b cs t) : b < w.heap.size := lt_of_block h
theorem Box.cell {w : World} {b : Nat} {cs : Array Value} {t : TypeId} (h : Box w b cs t) (i : Nat) : w.cell? ⟨b, i, none⟩ = cs[i]? := by
  unfold Box at h
  simp [World.cell?, h]
theorem Box.free {w : World} {b : Nat} {cs : Array Value} {t : TypeId} (h : Box w b cs t) (i : Nat) : w.frozen? ⟨b, i, none⟩ = false := by
  unfold Box at h
  simp [World.frozen?, h]
theorem Box.new (w : World) (cs : Array Value) (t : TypeId) : Box (w.alloc (.cells cs t)) w.heap.size cs t := heap_alloc_new w _
theorem Box.alloc {w : World} {b : Nat} {cs : Array Value} {t : TypeId} (h : Box w b cs t) (o : Obj) : Box (w.alloc o) b cs t := (Below.heap_alloc w o b h.lt).trans h
theorem Box.drew {w : World} {b : Nat} {cs : Array Value} {t : TypeId} (h : Box w b cs t) : Box w.drew b cs t := h
theorem Box.drewN {w : World} {b : Nat} {cs : Array Value} {t : TypeId} (h : Box w b cs t) (n : Nat) : Box (w.drewN n) b cs t := h
theorem Box.below {w w' : World} {b : Nat} {cs : Array Value} {t : TypeId} (h : Box w b cs t) {B : Nat} (hb : Below B w w') (hB : b < B) : Box w' b cs t := (hb.block b hB).trans h
theorem Box.later {w w' : World} {b : Nat} {cs : Array Value} {t : TypeId} (h : Box w b cs t) (hb : Below w.heap.size w w') : Box w' b cs t := h.below hb h.lt
theorem Box.other {w : World} {b : Nat} {cs : Array Value} {t : TypeId} (h : Box w b cs t) {a : Addr} (ha : b ≠ a.block) (v : Value) : Box (w.setCell a v) b cs t := (Below.heap_setCell w a v b ha).trans h
theorem Box.set {w : World} {b : Nat} {cs : Array Value} {t : TypeId} (h : Box w b cs t) (i : Nat) (v : Value) : Box (w.setCell ⟨b, i, none⟩ v) b (cs.setIfInBounds i v) t := by
  have hlt := h.lt
  unfold Box at h ⊢
  have h' : w.heap[b] = .cells cs t (0, 0) := by simpa [Array.getElem?_eq_getElem hlt] using h
  show (w.heap.modify b _)[b]? = _
  rw [Array.getElem?_eq_getElem (by simpa using hlt), Array.getElem_modify_self, h']
  rfl
/-- Of a box the walk is told three things: where it lies, what its cells hold, that they may be written. -/
theorem Box.facts {w : World} {b : Nat} {cs : Array Value} {t : TypeId} (h : Box w b cs t) :
    b < w.heap.size ∧ (∀ i, w.cell? ⟨b, i, none⟩ = cs[i]?) ∧ (∀ i, w.frozen? ⟨b, i, none⟩ = false) := ⟨h.lt, h.cell, h.free⟩

/-! A store of a whole struct into a box, as one step: laid as a rule that is tried ahead of the walk's own (which goes cell by cell). -/
/-- How many cells a block has that may be written. -/
def roomOf (w : World) (g : Nat) : Option Nat := match w.heap[g]? with | some (.cells c _ (0, 0)) => some c.size | _ => none
def cellsFor (P : Program) (t : TypeId) : Option Nat := (P.info? t).map (·.size)
theorem Box.room {w : World} {b : Nat} {cs : Array Value} {t : TypeId} (h : Box w b cs t) : roomOf w b = some cs.size := by
  unfold Box at h
  simp [roomOf, h]
theorem storeAt_row {P : Program} {w : World} {g : Nat} {ty : TypeId} {cells : Array Value} (hr : roomOf w g = some cells.size) (hi : cellsFor P ty = some cells.size) (h1 : cells.all (·.oneCell') = true) :
    (Instr.storeAt ty (.pointer (some ⟨g, 0, none⟩)) (.agg cells)).run P w = .ok () (w.setRow g cells) := by
  unfold roomOf at hr
  split at hr
  · rename_i c t hg
    simp only [Instr.storeAt, Instr.sureAddr, Sem.run_bind, Sem.run_pure, Result.andThen]
    exact run_storeVar_row w g t ty c cells hg hi (by simpa using hr) h1
  · cases hr
theorem Box.setRow {w : World} {b : Nat} {cs : Array Value} {t : TypeId} (h : Box w b cs t) (cs' : Array Value) : Box (w.setRow b cs') b cs' t := setRow_heap w b cs cs' t _ h
theorem Box.otherRow {w : World} {b : Nat} {cs : Array Value} {t : TypeId} (h : Box w b cs t) {g : Nat} (hg : b ≠ g) (cs' : Array Value) : Box (w.setRow g cs') b cs t := (setRow_other w g b cs' hg).trans h
theorem below_row {B g : Nat} {w0 w : World} (hb : Below B w0 w) (hBg : B ≤ g) (cs : Array Value) : Below B w0 (w.setRow g cs) := below_setRow hb hBg cs

end Go.Proofs.Ytonfbkffngplcaa
