/- What the rows' list of package variables gives: the library's table of powers of ten. -/
import Derived.Test.YtafpdiikhhikeaaDoorRows
import Derived.Test.YtafpdiikhhikeaaDoorClkDig
import Derived.Stop.LaidErr
import Derived.Lib.LaidTab
namespace Go.Proofs.YtafpdiikhhikeaaDoor
open Go.RowKit

theorem gTab : Tryd.prog.globalNamed "internal/strconv.uint64pow10" = some 1 := by kernel_rfl
theorem gTabType : (Tryd.prog.globals[1]?).map (·.type) = some 90 := by kernel_rfl
theorem cellsTab : Tryd.prog.cellsOf 90 = 20 := by kernel_rfl
theorem cellsU64 : Tryd.prog.cellsOf 84 = 1 := by kernel_rfl
theorem tab_laid : (Rows.laid_internal_strconv_uint64pow10 : DataW Unit) = Lib.tabData .u64 Lib.pow10Tab := by kernel_rfl
theorem tab_of_laid {W : World} {x y : String × DataW Unit} (h : laidMet Tryd.prog [x, y, ("internal/strconv.uint64pow10", Rows.laid_internal_strconv_uint64pow10)] W) : Tab W := by
  have h2 := laidMet.tail (laidMet.tail h)
  rw [tab_laid] at h2
  exact Lib.tabIs_of_head (rest := []) gTab gTabType Tryd.underlying90 Tryd.underlying84 cellsU64 cellsTab h2
end Go.Proofs.YtafpdiikhhikeaaDoor
