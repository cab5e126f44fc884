/- From what the rows list of the library's tables, and the world's shape, to what the contracts ask of the world. -/
import Derived.Test.YtcdodpkfhkfnkaaDoorHanded
import Derived.Test.YtcdodpkfhkfnkaaDoorUrKy
import Derived.Test.YtcdodpkfhkfnkaaDoorRows
import Derived.PinnedBridge
import Derived.Lib.LaidU8
import Derived.Lib.LaidTab
import Derived.Stop.LaidErr
namespace Go.Proofs.YtcdodpkfhkfnkaaDoor
open Go.RowKit

theorem u8x : U8Extra Tryd.prog Tryd.lays260_ren := ⟨by kernel_rfl, by kernel_rfl, by kernel_rfl, by kernel_rfl, by kernel_rfl, by kernel_rfl, by kernel_rfl⟩
theorem accept_is : (Rows.laid_unicode_utf8_acceptRanges : DataW Unit) = Lib.acceptData := by kernel_rfl
theorem pow_is : (Rows.laid_internal_strconv_uint64pow10 : DataW Unit) = Lib.tabData .u64 Lib.pow10Tab := by kernel_rfl
theorem tabsu_of_laid {W : World} (hL : laidMet Tryd.prog Rows.urlParsesRow.laid W) : Tabs W := by
  have h4 := Lib.laidMet.reads hL (List.mem_of_getElem? (i := 3) rfl)
  have h3 := Lib.laidMet.reads hL (List.mem_of_getElem? (i := 4) rfl)
  rw [accept_is] at h4
  unfold Rows.laid_unicode_utf8_first at h3
  rw [Pinned.utf8First_eq] at h3
  exact utf8Tabs_of_reads Tryd.lays260 u8x h3 h4
theorem maxlen_of_shape {W : World} (h : W.ShapedOpen Tryd.prog) : ∃ m, W.cell? ⟨2, 0, none⟩ = some (.int .i64 m) :=
  cell_of_shapedOpen_int (zero := #[.int .i64 0]) (t := 3) h (of_decide_eq_true (by kernel_rfl)) (by kernel_rfl) rfl (by kernel_rfl) (by kernel_rfl) Tryd.underlying3
theorem pow_of_laid {W : World} (hL : laidMet Tryd.prog Rows.urlParsesRow.laid W) : Lib.TabIs Tryd.prog W "internal/strconv.uint64pow10" .u64 Lib.pow10Tab := by
  have h2 := laidMet.tail (laidMet.tail hL)
  have h3 : laidMet Tryd.prog (("internal/strconv.uint64pow10", Lib.tabData .u64 Lib.pow10Tab) :: [("unicode/utf8.acceptRanges", Rows.laid_unicode_utf8_acceptRanges), ("unicode/utf8.first", Rows.laid_unicode_utf8_first)]) W := by
    rw [← pow_is]
    exact h2
  exact Lib.tabIs_of_head (n := 20) (t := 150) (e := 130) (g := 5) (by kernel_rfl) (by kernel_rfl) (by kernel_rfl) (by kernel_rfl) (by kernel_rfl) (by kernel_rfl) h3
theorem tabsm_of_laid {W : World} (hL : laidMet Tryd.prog Rows.urlParsesRow.laid W) (h : W.ShapedOpen Tryd.prog) : TabsU W := ⟨⟨tabsu_of_laid hL, maxlen_of_shape h⟩, pow_of_laid hL⟩
end Go.Proofs.YtcdodpkfhkfnkaaDoor
