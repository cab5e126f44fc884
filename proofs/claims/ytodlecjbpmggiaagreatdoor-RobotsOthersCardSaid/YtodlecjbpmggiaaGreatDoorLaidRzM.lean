/- From what the rows list of the library's tables, and the world's shape, to what the contracts ask of the world. -/
import Derived.Test.YtodlecjbpmggiaaGreatDoorHanded
import Derived.Test.YtodlecjbpmggiaaGreatDoorMtFn
import Derived.Test.YtodlecjbpmggiaaGreatDoorRows
import Derived.PinnedBridge
import Derived.Lib.LaidU8
namespace Go.Proofs.YtodlecjbpmggiaaGreatDoor
open Go.RowKit

theorem u8x : U8Extra Tryz.prog Tryz.lays260_ren := ⟨by kernel_rfl, by kernel_rfl, by kernel_rfl, by kernel_rfl, by kernel_rfl, by kernel_rfl, by kernel_rfl⟩
theorem accept_is : (Rows.laid_unicode_utf8_acceptRanges : DataW Unit) = Lib.acceptData := by kernel_rfl
theorem tabs_of_laid {W : World} (hL : laidMet Tryz.prog Rows.robotsReadsRow.laid W) : Tabs W := by
  have h4 := Lib.laidMet.reads hL (.head _)
  have h3 := Lib.laidMet.reads hL (.tail _ (.head _))
  rw [accept_is] at h4
  unfold Rows.laid_unicode_utf8_first at h3
  rw [Pinned.utf8First_eq] at h3
  exact utf8Tabs_of_reads Tryz.lays260 u8x h3 h4

theorem maxlen_of_shape {W : World} (h : W.ShapedOpen Tryz.prog) : ∃ m, W.cell? ⟨0, 0, none⟩ = some (.int .i64 m) :=
  cell_of_shapedOpen_int (zero := #[.int .i64 0]) (t := 3) h (of_decide_eq_true (by kernel_rfl)) (by kernel_rfl) rfl (by kernel_rfl) (by kernel_rfl) Tryz.underlying3
theorem tabsm_of_laid {W : World} (hL : laidMet Tryz.prog Rows.robotsReadsRow.laid W) (h : W.ShapedOpen Tryz.prog) : TabsM W := ⟨tabs_of_laid hL, maxlen_of_shape h⟩
end Go.Proofs.YtodlecjbpmggiaaGreatDoor
