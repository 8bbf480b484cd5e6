/- The table of tens, as it is laid. -/
import Derived.Test.YtjdcnlggpfkopaaDoorLiftD
import Derived.Test.YtjdcnlggpfkopaaDoorAppU
namespace Go.Proofs.YtjdcnlggpfkopaaDoor
open Go.ChangeShapes Go.WideShapes Go.ChangeAt Go.RowKit
set_option linter.unusedVariables false

theorem gTens : Tryd.prog.globalNamed "internal/strconv.uint64pow10" = some 1 := by kernel_rfl
theorem tTens : (Tryd.prog.globals[1]?).map (·.type) = some 109 := by kernel_rfl
theorem cTens : Tryd.prog.cellsOf 109 = 20 := by kernel_rfl
theorem cU64 : Tryd.prog.cellsOf 22 = 1 := by kernel_rfl
theorem tens_of_laid {W : World} (h : laidMetH Tryd.prog laidL W) : Tens W := by
  rw [MakeChecks.laidMetH_plain _ _ _ (by kernel_rfl)] at h
  have h2 : laidMet Tryd.prog (("internal/strconv.uint64pow10", Lib.tabData .u64 Lib.pow10Tab) :: laidL.tail.tail.tail) W := h.tail.tail
  exact Lib.tabIs_of_head gTens tTens Tryd.underlying109 Tryd.underlying22 cU64 cTens h2
end Go.Proofs.YtjdcnlggpfkopaaDoor
