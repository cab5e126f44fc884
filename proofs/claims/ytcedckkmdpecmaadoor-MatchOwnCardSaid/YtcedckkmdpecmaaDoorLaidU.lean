/- From what the rows list of package unicode.utf8 to what the contracts ask of the world. -/
import Derived.Test.YtcedckkmdpecmaaDoorPcRw
import Derived.Test.YtcedckkmdpecmaaDoorRows
import Derived.PinnedBridge
import Derived.Lib.LaidU8
namespace Go.Proofs.YtcedckkmdpecmaaDoor
open Go.RowKit

theorem u8x : U8Extra Tryd.prog Tryd.lays260_ren := ⟨by kernel_rfl, by kernel_rfl, by kernel_rfl, by kernel_rfl, by kernel_rfl, by kernel_rfl, by kernel_rfl⟩
theorem accept_is : (Rows.laid_unicode_utf8_acceptRanges : DataW Unit) = Lib.acceptData := by kernel_rfl
theorem tabs_of_laid {W : World} (hL : laidMet Tryd.prog Rows.pctNormsRow.laid W) : Tabs W := by
  have h4 := Lib.laidMet.reads hL (.head _)
  have h3 := Lib.laidMet.reads hL (.tail _ (.head _))
  rw [accept_is] at h4
  unfold Rows.laid_unicode_utf8_first at h3
  rw [Pinned.utf8First_eq] at h3
  exact utf8Tabs_of_reads Tryd.lays260 u8x h3 h4
end Go.Proofs.YtcedckkmdpecmaaDoor
