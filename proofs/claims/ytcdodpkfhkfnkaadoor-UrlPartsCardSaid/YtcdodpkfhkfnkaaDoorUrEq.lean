/- Two places compared. -/
import Derived.Test.YtcdodpkfhkfnkaaDoorChecked
import Derived.WalkKit
import Derived.Lib.IndexBytes
import Derived.WalkSpells
import Derived.WalkLawsBesides
import Derived.Laws.StructEq
namespace Go.Proofs.YtcdodpkfhkfnkaaDoor
open Go.RowKit

theorem url_eq (a b c d a' b' c' d' : ByteArray) (p p' : Int) (k k' : Bool) (w : World) : (binOp .eql 41 (.agg #[.string a, .string b, .int .i64 p, .string c, .string d, .bool k]) (.agg #[.string a', .string b', .int .i64 p', .string c', .string d', .bool k'])).run Tryd.prog w = .ok (.bool (a.toList == a'.toList && b.toList == b'.toList && p == p' && c.toList == c'.toList && d.toList == d'.toList && k == k')) w := by
  have ht : Tryd.prog.underlying 41 = some (.struct (Tryd.prog.fieldsOf 41)) := by kernel_rfl
  have hp : Tryd.prog.stoodInHeld 41 = false := by kernel_rfl
  have _hm : Tryd.prog.eqGuardType Tryd.prog.depth 41 = false := by kernel_rfl
  rw [run_eql_struct, run_equalIn_agg w 9999 _ _ _ ht hp]
  simp only [Program.fieldsOf, Tryd.underlying41]
  simp [go_sem, Tryd.underlying4, Tryd.underlying9, Tryd.underlying3]
  repeat' split
  all_goals simp_all
theorem url_same (a b c d : ByteArray) (p : Int) (k : Bool) (w : World) : (binOp .eql 41 (.agg #[.string a, .string b, .int .i64 p, .string c, .string d, .bool k]) (.agg #[.string a, .string b, .int .i64 p, .string c, .string d, .bool k])).run Tryd.prog w = .ok (.bool true) w := by
  rw [url_eq]
  simp
theorem tl_inj {a b : ByteArray} (h : a.toList = b.toList) : a = b := by
  rw [Lib.toList_data, Lib.toList_data] at h
  cases a
  cases b
  congr 1
  exact Array.toList_inj.1 h
theorem url_other {a b c d a' b' c' d' : ByteArray} {p p' : Int} {k k' : Bool} (h : ¬ (a = a' ∧ b = b' ∧ p = p' ∧ c = c' ∧ d = d' ∧ k = k')) (w : World) : (binOp .eql 41 (.agg #[.string a, .string b, .int .i64 p, .string c, .string d, .bool k]) (.agg #[.string a', .string b', .int .i64 p', .string c', .string d', .bool k'])).run Tryd.prog w = .ok (.bool false) w := by
  rw [url_eq]
  have : (a.toList == a'.toList && b.toList == b'.toList && p == p' && c.toList == c'.toList && d.toList == d'.toList && k == k') = false := by
    rw [Bool.eq_false_iff]
    intro e
    simp only [Bool.and_eq_true, beq_iff_eq] at e
    obtain ⟨⟨⟨⟨⟨h1, h2⟩, h3⟩, h4⟩, h5⟩, h6⟩ := e
    exact h ⟨tl_inj h1, tl_inj h2, h3, tl_inj h4, tl_inj h5, h6⟩
  rw [this]
end Go.Proofs.YtcdodpkfhkfnkaaDoor
