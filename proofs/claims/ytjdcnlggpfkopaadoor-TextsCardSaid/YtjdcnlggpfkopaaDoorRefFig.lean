/- The figure with which a text begins: the document's own. -/
import Derived.Test.YtjdcnlggpfkopaaDoorRefParts
import Derived.WalkSpells
import Derived.Test.YtjdcnlggpfkopaaDoorStill
namespace Go.Proofs.YtjdcnlggpfkopaaDoor
open Go.ChangeShapes Go.WideShapes Go.ChangeAt Go.RowKit
set_option linter.unusedVariables false

set_option maxHeartbeats 400000 in
theorem refFigure_ascii (x : ByteArray) (w : World) (hx : 0 < x.size) (h0 : 48 ≤ ((x[0]'hx).toNat : Int)) (h1 : ((x[0]'hx).toNat : Int) ≤ 57) :
    Calls Tryd.prog 24 #[.string x] w fun e w' => e = .returned (.tuple #[.int .i64 (((x[0]'hx).toNat : Int) - 48), .int .i64 1]) ∧ Below w.heap.size w w' := by
  have hx' : (0 : Int) < (x.size : Int) := by omega
  go_enter Tryd.func24, Tryd.ntmps24
  go_wp2
  go_ret2
  exact ⟨rfl, Below.refl _ _⟩
/-- The figure of one row with which a text begins; pre: all of the rune but its last byte. -/
def rowD (x : ByteArray) (n : Nat) (pre : List UInt8) (last : Int) : Option Int :=
  if h : n < x.size then (if (x.extract 0 n).toList = pre ∧ 0 ≤ ((x[n]'h).toNat : Int) - last ∧ ((x[n]'h).toNat : Int) - last ≤ 9 then some (((x[n]'h).toNat : Int) - last) else none) else none
/-- What is found from a row on. -/
def figFrom (x : ByteArray) : Nat → Int × Int
  | 0 => match rowD x 1 [217] 160 with
    | some d => (d, 2)
    | none => match rowD x 1 [219] 176 with
      | some d => (d, 2)
      | none => match rowD x 2 [239, 188] 144 with
        | some d => (d, 3)
        | none => (-1, 0)
  | 1 => match rowD x 1 [219] 176 with
    | some d => (d, 2)
    | none => match rowD x 2 [239, 188] 144 with
      | some d => (d, 3)
      | none => (-1, 0)
  | 2 => match rowD x 2 [239, 188] 144 with
    | some d => (d, 3)
    | none => (-1, 0)
  | _ => (-1, 0)
theorem rowD_short (x : ByteArray) (n : Nat) (pre : List UInt8) (last : Int) (h : ¬ n < x.size) : rowD x n pre last = none := by unfold rowD; rw [dif_neg h]
theorem rowD_other (x : ByteArray) (n : Nat) (pre : List UInt8) (last : Int) (h : ¬ (x.extract 0 n).toList = pre) : rowD x n pre last = none := by
  unfold rowD
  split
  · rw [if_neg (fun k => h k.1)]
  · rfl
theorem rowD_out (x : ByteArray) (n : Nat) (pre : List UInt8) (last : Int) (h : n < x.size) (h2 : ¬ (0 ≤ ((x[n]'h).toNat : Int) - last ∧ ((x[n]'h).toNat : Int) - last ≤ 9)) : rowD x n pre last = none := by
  unfold rowD; rw [dif_pos h, if_neg (fun k => h2 k.2)]
theorem rowD_in (x : ByteArray) (n : Nat) (pre : List UInt8) (last : Int) (h : n < x.size) (h1 : (x.extract 0 n).toList = pre) (h2 : 0 ≤ ((x[n]'h).toNat : Int) - last) (h3 : ((x[n]'h).toNat : Int) - last ≤ 9) : rowD x n pre last = some (((x[n]'h).toNat : Int) - last) := by
  unfold rowD; rw [dif_pos h, if_pos ⟨h1, h2, h3⟩]
theorem from0 (x : ByteArray) (h : rowD x 1 [217] 160 = none) : figFrom x 1 = figFrom x 0 := by simp only [figFrom, h]
theorem from1 (x : ByteArray) (h : rowD x 1 [219] 176 = none) : figFrom x 2 = figFrom x 1 := by simp only [figFrom, h]
theorem from2 (x : ByteArray) (h : rowD x 2 [239, 188] 144 = none) : figFrom x 3 = figFrom x 2 := by simp only [figFrom, h]
theorem found0 (x : ByteArray) (d : Int) (h : rowD x 1 [217] 160 = some d) : figFrom x 0 = (d, 2) := by simp only [figFrom, h]
theorem found1 (x : ByteArray) (d : Int) (h : rowD x 1 [219] 176 = some d) : figFrom x 1 = (d, 2) := by simp only [figFrom, h]
theorem found2 (x : ByteArray) (d : Int) (h : rowD x 2 [239, 188] 144 = some d) : figFrom x 2 = (d, 3) := by simp only [figFrom, h]
end Go.Proofs.YtjdcnlggpfkopaaDoor
