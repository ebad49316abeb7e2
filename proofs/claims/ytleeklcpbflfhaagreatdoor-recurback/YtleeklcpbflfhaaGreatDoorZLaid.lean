/- What the rows' list of package variables gives: the library's table of powers of ten. -/
import Derived.Test.YtleeklcpbflfhaaGreatDoorRows
import Derived.Test.YtleeklcpbflfhaaGreatDoorZC
import Derived.Stop.LaidErr
import Derived.Lib.LaidTab
namespace Go.Proofs.YtleeklcpbflfhaaGreatDoor
open Go.RowKit

theorem gTab : Tryz.prog.globalNamed "internal/strconv.uint64pow10" = some 4 := by kernel_rfl
theorem gTabType : (Tryz.prog.globals[4]?).map (·.type) = some 193 := by kernel_rfl
theorem cellsTab : Tryz.prog.cellsOf 193 = 20 := by kernel_rfl
theorem cellsU64 : Tryz.prog.cellsOf 174 = 1 := by kernel_rfl
theorem tab_laid : (Rows.laid_internal_strconv_uint64pow10 : DataW Unit) = Lib.tabData .u64 Lib.pow10Tab := by kernel_rfl
theorem tab_of_laid {W : World} {x y : String × DataW Unit} (h : laidMet Tryz.prog [x, y, ("internal/strconv.uint64pow10", Rows.laid_internal_strconv_uint64pow10)] W) : Tab W := by
  have h2 := laidMet.tail (laidMet.tail h)
  rw [tab_laid] at h2
  exact Lib.tabIs_of_head (rest := []) gTab gTabType Tryz.underlying193 Tryz.underlying174 cellsU64 cellsTab h2
end Go.Proofs.YtleeklcpbflfhaaGreatDoor
