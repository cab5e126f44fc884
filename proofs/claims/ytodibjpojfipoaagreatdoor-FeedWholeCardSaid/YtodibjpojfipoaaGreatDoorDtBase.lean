/- Boxes, ranges over a text's runes, arrays of texts: what the reader's walks want. -/
import Derived.Test.YtodibjpojfipoaaGreatDoorDtMath
import Derived.Test.YtodibjpojfipoaaGreatDoorBox
import Derived.Test.YtodibjpojfipoaaGreatDoorRow
import Derived.Test.YtodibjpojfipoaaGreatDoorForget
import Derived.Test.YtodibjpojfipoaaGreatDoorShelfDt
import Derived.Lib.RuneCountTail
import Derived.WalkMore
import Derived.Deep.QuietTactic
namespace Go.Proofs.YtodibjpojfipoaaGreatDoor
open Go.RowKit
set_option linter.unusedVariables false
set_option linter.unusedSimpArgs false

theorem dBox_iterAt {w : World} {b : Nat} {cs : Array Value} {t : TypeId} (h : Box w b cs t) {k : Nat} (hk : b ≠ k) (s : ByteArray) (pos : Nat) : Box (w.iterAt k s pos) b cs t := (Lib.iterAt_other w k b s pos hk).trans h
theorem d_alloc {a w : World} {row : Option Nat} (h : a.grownBy w row) (o : Obj) : a.grownBy (w.alloc o) row :=
  ⟨h.os, h.tape, h.output, Nat.le_trans h.size (by simp), fun i hi hne => (Below.heap_alloc w o i (Nat.lt_of_lt_of_le hi h.size)).trans (h.block i hi hne)⟩
theorem d_setCell {a w : World} {g : Nat} (h : a.grownBy w (some g)) {p : Addr} (hp : p.block = g ∨ a.heap.size ≤ p.block) (u : Value) : a.grownBy (w.setCell p u) (some g) :=
  ⟨h.os, h.tape, h.output, by simpa [World.setCell] using h.size, fun i hi hne => (Below.heap_setCell w p u i (by
    rintro rfl
    rcases hp with hp | hp
    · exact hne (by rw [hp])
    · omega)).trans (h.block i hi hne)⟩
theorem d_iterAt {a w : World} {row : Option Nat} (h : a.grownBy w row) {k : Nat} (hk : a.heap.size ≤ k) (s : ByteArray) (pos : Nat) : a.grownBy (w.iterAt k s pos) row :=
  ⟨h.os, h.tape, h.output, by rw [Lib.iterAt_size]; exact h.size, fun i hi hne => (Lib.iterAt_other w k i s pos (by omega)).trans (h.block i hi hne)⟩
theorem d_trans {a b c : World} {g : Nat} (h : a.grownBy b (some g)) (k : b.grownBy c (some g)) : a.grownBy c (some g) :=
  ⟨k.os.trans h.os, k.tape.trans h.tape, k.output.trans h.output, Nat.le_trans h.size k.size, fun i hi hne => (k.block i (Nat.lt_of_lt_of_le hi h.size) hne).trans (h.block i hi hne)⟩
theorem dBox_new {w : World} {cs : Array Value} {t : TypeId} {b : Nat} (h : b = w.heap.size) : Box (w.alloc (.cells cs t)) b cs t := by subst h; exact Box.new w cs t
theorem d_below {B g : Nat} {w w' : World} (h : w.grownBy w' (some g)) (hB : B ≤ w.heap.size) (hg : B ≤ g) : Below B w w' :=
  (Below.refl _ _).grown h hB (fun k hk => by injection hk with hk; omega)
theorem btD_extract (s : ByteArray) (a b : Nat) : btL (s.extract a b) = ((btL s).drop a).take (b - a) := by
  unfold btL
  rw [← List.map_drop, ← List.map_take]
  rw [Lib.extract_data]
theorem btD_cons (s : ByteArray) (i : Nat) (h : i < s.size) : (btL s).drop i = (s[i].toNat : Int) :: (btL s).drop (i + 1) := by
  have hk : i < (btL s).length := by simpa using h
  rw [List.drop_eq_getElem_cons hk]
  congr 1
  simp [btL]
  rfl
theorem btD_mk (l : List UInt8) : btL ⟨l.toArray⟩ = ivD l := rfl
theorem pieceD_N (n b0 b1 b2 b3 : Nat) (hn : 1 ≤ n) : 1 ≤ (Lib.decodeN n b0 b1 b2 b3).2 ∧ (Lib.decodeN n b0 b1 b2 b3).2 ≤ n := by
  unfold Lib.decodeN
  repeat' split
  all_goals (dsimp only; refine ⟨by omega, by omega⟩)
/-- What 'next' gives: a letter of its own, or one that is no ASCII. -/
theorem runeD (s : ByteArray) (pos : Nat) (h : pos < s.size) : ∃ (rn : Int) (wd : Nat), ((Utf8.decode s pos).1 : Int) = rn ∧ (Utf8.decode s pos).2 = wd ∧ rn ≤ 2147483647 ∧ 0 ≤ rn ∧ 1 ≤ wd ∧ pos + wd ≤ s.size ∧ ((rn = (s[pos].toNat : Int) ∧ rn < 128 ∧ wd = 1) ∨ (128 ≤ rn ∧ 128 ≤ (s[pos].toNat : Int))) := by
  have hp := pieceD_N (s.size - pos) (s.get! pos).toNat (s.get! (pos + 1)).toNat (s.get! (pos + 2)).toNat (s.get! (pos + 3)).toNat (by omega)
  rw [← Lib.decode_at] at hp
  have hl := decode_le s pos
  refine ⟨_, _, rfl, rfl, by omega, by omega, hp.1, by omega, ?_⟩
  by_cases h1 : s[pos].toNat < 128
  · have := decode_ascii s pos h h1
    left
    rw [this]
    exact ⟨rfl, by simp only; omega, rfl⟩
  · right
    have := decode_high s pos h (by omega)
    exact ⟨by have := this.1; omega, by omega⟩
/-- A place of an array. -/
theorem run_index_arr {P : Program} (W : World) (t e : TypeId) (n : Nat) (cs : Array Value) (k : IntKind) (i : Nat) (v : Value) (h : P.underlying t = some (.array n e)) (hi : i < n)
    (ha : ∀ w, (isAgg e).run P w = .ok false w) (hz : ∀ w, (Go.sizeOf e).run P w = .ok 1 w) (hv : cs[i]? = some v) : (Instr.index t (.agg cs) (.int k i)).run P W = .ok v W := by
  have hn : (0 : Int) ≤ i ∧ (i : Int) < (n : Int) := by omega
  simp [Instr.index, run_underlying h, asIntOf, hn, go_sem, hz, part, ha, hv, hi]
end Go.Proofs.YtodibjpojfipoaaGreatDoor
