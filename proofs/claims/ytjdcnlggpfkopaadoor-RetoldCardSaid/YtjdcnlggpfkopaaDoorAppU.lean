/- AppendUint at every number: off the shelf. -/
import Derived.Test.YtjdcnlggpfkopaaDoorTellA
import Derived.Shelf.Strconv.AppendInt10
import Derived.Shelf.Lay
import Derived.Ground.NamesProg
namespace Go.Proofs.YtjdcnlggpfkopaaDoor
open Go.Shelf Go.ChangeShapes Go.WideShapes Go.ChangeAt Go.RowKit
set_option linter.unusedVariables false

shelf_lay LaysM.n288 Nm 288 at Tryd as laysAU
/-- The table of tens. -/
def Tens (w : World) : Prop := Lib.TabIs Tryd.prog w "internal/strconv.uint64pow10" .u64 Lib.pow10Tab
def decOf (u : Nat) : List Int := (Lib.decDigits u).map (fun b => (b.toNat : Int))
theorem decOf_cells (u : Nat) : Lib.byteCells (Lib.decDigits u) = (decOf u).map (Value.int .u8) := by simp [Lib.byteCells, decOf]
theorem append_inner (u : Nat) (hu : u < 18446744073709551616) (w : World) (hT : Tens w) :
    Calls Tryd.prog 50 #[.slice none 0 0, .int .u64 u, .int .i64 10] w fun e w' => ∃ v, e = .returned v ∧ w'.ownsRow w.heap.size 5 1 v (decOf u).length ((decOf u).map (Value.int .u8)) ∧ Below w.heap.size w w' := by
  refine (Any.internal_strconv_AppendUint_10 laysAU w.heap.size 0 u hu (.slice none 0 0) [] w (World.ownsRow_nil _ _ _ _) (Nat.le_refl _) (by omega) hT).mono ?_
  rintro e w' ⟨v, h1, h2, h3, _⟩
  refine ⟨v, h1, ?_, h3⟩
  rw [decOf_cells, List.nil_append, Nat.zero_add] at h2
  rw [show (decOf u).length = (Lib.decDigits u).length by simp [decOf]]
  exact h2
theorem append_any (u : Nat) (hu : u < 18446744073709551616) (w : World) (hT : Tens w) : AppSaid u (decOf u) w := by
  unfold AppSaid
  go_enter Tryd.func34, Tryd.ntmps34
  go_wp2_with fail
  refine (append_inner u hu _ hT).mono ?_
  rintro e w1 ⟨v, rfl, hown, hb⟩
  go_wp2
  go_ret
  exact ⟨v, rfl, hown, hb⟩
end Go.Proofs.YtjdcnlggpfkopaaDoor
