/- Package lines: cuts and trims of the library; what a line says. -/
import Derived.Test.YtodibjpojfipoaaGreatDoorLnMath
import Derived.Test.YtodibjpojfipoaaGreatDoorShelfL
import Derived.Test.YtodibjpojfipoaaGreatDoorUrLower
import Derived.WalkMore
import Derived.BigQuiet
import Derived.Deep.QuietTactic
import Derived.Deep.Cut
import Derived.Deep.CutRange
namespace Go.Proofs.YtodibjpojfipoaaGreatDoor
open Go.RowKit
set_option linter.unusedVariables false
set_option linter.unusedSimpArgs false
set_option maxRecDepth 10000

/-- Nothing is asked of the world's tables. -/
def TabL (_ : World) : Prop := True
theorem TabL.later {w w' : World} (h : TabL w) (hb : Below w.heap.size w w') : TabL w' := h
theorem ln_drewN {B : Nat} {a w : World} (h : Below B a w) (n : Nat) : Below B a (w.drewN n) := ⟨h.os, h.tape, h.output, h.size, h.block⟩
theorem ln_mk (l : List UInt8) : (⟨l.toArray⟩ : ByteArray) = strL (l.map fun u => (u.toNat : Int)) := (strL_btL ⟨l.toArray⟩).symm
theorem rdw_mem : ∀ (l : List Int) (c : Int), c ∈ rdw l → c ∈ l
  | [], c, h => h
  | x :: t, c, h => by
    unfold rdw at h
    split at h
    · cases h
    · rcases List.mem_cons.1 h with rfl | h
      · exact List.mem_cons_self
      · exact List.mem_cons_of_mem _ (rdw_mem t c h)
theorem trL_mem {l : List Int} {c : Int} (h : c ∈ trL l) : c ∈ l := rdw_mem l c ((List.dropWhile_sublist _).subset h)
theorem Byts.tr {l : List Int} (h : Byts l) : Byts (trL l) := fun c hc => h c (trL_mem hc)
theorem rdw_len : ∀ l : List Int, (rdw l).length ≤ l.length
  | [] => Nat.le_refl _
  | x :: t => by
    have := rdw_len t
    unfold rdw
    split
    · simp
    · simp; omega
theorem trL_len (l : List Int) : (trL l).length ≤ l.length := Nat.le_trans (List.dropWhile_sublist _).length_le (rdw_len l)
theorem lib_index (l : List UInt8) (c : UInt8) : Lib.indexByte l c = if fi (c.toNat : Int) (l.map fun u => (u.toNat : Int)) < l.length then (fi (c.toNat : Int) (l.map fun u => (u.toNat : Int)) : Int) else -1 := by
  rw [← Lib.index_one, fi_index]
theorem ltrim_at (s : ByteArray) (hs : s.size ≤ 1000000000000000) (w : World) :
    Calls Tryz.prog 33 #[.string s, .string ⟨#[32, 9]⟩] w fun e w' => e = .returned (.string (strL (trL (btL s)))) ∧ Below w.heap.size w w' := by
  refine (Any.strings_Trim_laid Tryz.lays160 (by kernel_rfl) s ⟨#[32, 9]⟩ w (by omega) (by decide) (ascii_of_all (by decide))).mono ?_
  rintro e w' ⟨rfl, hb⟩
  refine ⟨?_, hb⟩
  rw [← trimS_L, strL_btL]
/-- A line as the program holds it. -/
def sayV : Option (List Int × List Int) → Value
  | some x => .agg #[.string (strL x.1), .string (strL x.2)]
  | none => .agg #[.string ⟨#[]⟩, .string ⟨#[]⟩]
def SayP (o : Option (List Int × List Int)) (w : World) (e : Ending) (w' : World) : Prop := e = .returned (.tuple #[sayV o, .bool o.isSome]) ∧ Below w.heap.size w w'
theorem ln_box {w : World} {cs : Array Value} {t : TypeId} {b : Nat} (h : b = w.heap.size) : Box (w.alloc (.cells cs t)) b cs t := by subst h; exact Box.new w cs t
end Go.Proofs.YtodibjpojfipoaaGreatDoor
