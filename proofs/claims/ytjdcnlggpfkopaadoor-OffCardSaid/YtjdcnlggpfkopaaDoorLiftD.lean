/- What the listed variables give the walks; the start that meets them. -/
import Derived.Test.YtjdcnlggpfkopaaDoorTie
import Derived.Test.YtjdcnlggpfkopaaDoorCards
import Derived.Test.YtjdcnlggpfkopaaDoorFig
import Derived.LaidMore
import Derived.Stop.Joined
import Derived.Stop.LaidErr
import Derived.Lib.LaidTab
import Derived.ShutString
import Derived.ChangeOld
import Derived.Below
namespace Go.Proofs.YtjdcnlggpfkopaaDoor
open Go.ChangeShapes Go.WideShapes Go.ChangeAt Go.RowKit
set_option linter.unusedVariables false

theorem own : ownKnob Tryd.prog.godebug = none := by kernel_rfl
theorem laidOut : laidOutB Tryd.prog = true := by kernel_rfl
def laidL : List (String × DataW Unit) := Rows.offRow.laid
theorem gZeros : Tryd.prog.globalNamed "chime/timetext.zeros" = some 2 := by kernel_rfl
theorem tZeros : (Tryd.prog.globals[2]?).map (·.type) = some 113 := by kernel_rfl
theorem cZeros : Tryd.prog.cellsOf 113 = 4 := by kernel_rfl
theorem cInt32 : Tryd.prog.cellsOf 21 = 1 := by kernel_rfl

theorem heap_of_var {W : World} {name : String} {g : Nat} {cs : Array Value} (hg : Tryd.prog.globalNamed name = some g) (h : W.var? Tryd.prog name = some cs) : ∃ t fr, W.heap[g]? = some (.cells cs t fr) := by
  unfold World.var? at h
  rw [hg, Option.bind_some] at h
  split at h
  · rename_i c t fr he
    cases h
    exact ⟨t, fr, he⟩
  · cases h

theorem zeros_of_laid {W : World} (h : laidMetH Tryd.prog laidL W) : Zeros W := by
  rw [MakeChecks.laidMetH_plain _ _ _ (by kernel_rfl)] at h
  have h3 : laidMet Tryd.prog [("chime/timetext.zeros", Lib.tabData .i32 [48, 1632, 1776, 65296])] W := h.tail.tail.tail
  have hT := Lib.tabIs_of_head gZeros tZeros Tryd.underlying113 Tryd.underlying21 cInt32 cZeros h3
  exact heap_of_var gZeros hT

theorem door_met (os : Os) (args : Array Value) : laidMetH Tryd.prog laidL ((World.doorLaid Tryd.prog 400 os).forCall (fun _ _ => 0) ⟨#[], args, []⟩).memory :=
  laidMetH_of_parts3 (fuel := 8) (laidMet_of_run' 8 (by kernel_rfl) (by kernel_rfl)) (by kernel_rfl) (by kernel_rfl)
end Go.Proofs.YtjdcnlggpfkopaaDoor
