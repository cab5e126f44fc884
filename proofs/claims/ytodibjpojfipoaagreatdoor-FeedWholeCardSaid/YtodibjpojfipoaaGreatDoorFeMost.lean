/- FeedMost: whatever is told, moments are from 0 to the end; nothing is told of nothing. -/
import Derived.Test.YtodibjpojfipoaaGreatDoorFeHdr
import Derived.Laws.StructEq
namespace Go.Proofs.YtodibjpojfipoaaGreatDoor
open Go Go.RowKit
set_option linter.unusedVariables false
set_option linter.unusedSimpArgs false
set_option maxRecDepth 10000

theorem fbk_eq (a b c a' b' c' : Int) (w : World) : (binOp .eql 25 (.agg #[.int .i64 a, .int .i64 b, .int .i64 c]) (.agg #[.int .i64 a', .int .i64 b', .int .i64 c'])).run Tryz.prog w = .ok (.bool (a == a' && b == b' && c == c')) w := by
  have ht : Tryz.prog.underlying 25 = some (.struct (Tryz.prog.fieldsOf 25)) := by kernel_rfl
  have hp : Tryz.prog.stoodInHeld 25 = false := by kernel_rfl
  have _hm : Tryz.prog.eqGuardType Tryz.prog.depth 25 = false := by kernel_rfl
  rw [run_eql_struct, run_equalIn_agg w 9999 _ _ _ ht hp]
  simp only [Program.fieldsOf, Tryz.underlying25]
  simp [go_sem, Tryz.underlying3]
  repeat' split
  all_goals simp_all
theorem afterI_in (n s : Int) : 0 ≤ afterI n s ∧ afterI n s ≤ 1099511627776 := capI_in _
theorem retF_in (Y now : Int) (t : List Int) : 0 ≤ (retF Y now t).getD 0 ∧ (retF Y now t).getD 0 ≤ 1099511627776 := by
  unfold retF
  split
  · exact afterI_in _ _
  · split
    · split
      · exact ⟨Int.le_refl _, by decide⟩
      · exact capI_in _
    · exact ⟨Int.le_refl _, by decide⟩
theorem retO_in (Y now : Int) (hs : HL) : 0 ≤ (retO Y now hs).getD 0 ∧ (retO Y now hs).getD 0 ≤ 1099511627776 := retF_in _ _ _
theorem resO_in (now : Int) (hs : HL) : 0 ≤ (resO now hs).getD 0 ∧ (resO now hs).getD 0 ≤ 1099511627776 := by
  unfold resO
  split
  · exact ⟨Int.le_refl _, by decide⟩
  · split
    · exact ⟨Int.le_refl _, by decide⟩
    · exact afterI_in _ _
theorem retO_nil (Y now : Int) : retO Y now [] = none := by rfl
theorem resO_nil (now : Int) : resO now [] = none := by rfl
theorem classI_in (s : Int) : 1 ≤ classI s ∧ classI s ≤ 4 := by
  unfold classI
  split
  · omega
  · split
    · omega
    · split <;> omega
end Go.Proofs.YtodibjpojfipoaaGreatDoor
