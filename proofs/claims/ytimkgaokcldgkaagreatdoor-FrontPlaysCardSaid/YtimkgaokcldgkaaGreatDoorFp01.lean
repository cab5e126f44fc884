/- Part of a chain: QuOpen, QuReqs. -/
import Derived.Test.YtimkgaokcldgkaaGreatDoorFq10
import Derived.Test.YtimkgaokcldgkaaGreatDoorFq34
import Derived.Test.YtimkgaokcldgkaaGreatDoorFq14
/- Requests that came in. -/
namespace Go.Proofs.YtimkgaokcldgkaaGreatDoor
open Go Go.RowKit
open Go.Joins Go.Deep Go.WideShapes
set_option linter.unusedVariables false
set_option maxRecDepth 100000
section
variable {H : Type} {enc : TypeId × Value → H} {w : World} {base b0 : Nat} {held : Bool} {rr : Reach}
end
end Go.Proofs.YtimkgaokcldgkaaGreatDoor
/- Lists of requests that are the same; a list that came in. -/
namespace Go.Proofs.YtimkgaokcldgkaaGreatDoor
open Go Go.RowKit
set_option linter.unusedVariables false
set_option linter.unusedSimpArgs false
set_option maxRecDepth 100000

theorem qrq_neq (i : Int) (h p : ByteArray) (r t : Int) (w : World) : (binOp .neq 35 (.agg #[.int .i64 i, .string h, .string p, .int .i64 r, .int .i64 t]) (.agg #[.int .i64 i, .string h, .string p, .int .i64 r, .int .i64 t])).run Tryz.prog w = .ok (.bool false) w := by
  have ht : Tryz.prog.underlying 35 = some (.struct (Tryz.prog.fieldsOf 35)) := by kernel_rfl
  have hp : Tryz.prog.stoodInHeld 35 = false := by kernel_rfl
  have _hm : Tryz.prog.eqGuardType Tryz.prog.depth 35 = false := by kernel_rfl
  rw [run_neq_struct, run_equalIn_agg w 9999 _ _ _ ht hp]
  simp only [Program.fieldsOf, Tryz.underlying35]
  simp [go_sem, Tryz.underlying9, Tryz.underlying3]
section
open Go.Joins Go.Deep Go.WideShapes
variable {H : Type} {enc : TypeId × Value → H} {w : World} {base b0 : Nat} {held : Bool} {rr : Reach}
end
end Go.Proofs.YtimkgaokcldgkaaGreatDoor
