/- The clock: plain numbers. -/
import Derived.Test.YtjdcnlggpfkopabDoorRows
namespace Go.Proofs.YtjdcnlggpfkopabDoor
set_option linter.unusedVariables false

/-- How far a clock goes in d, at this rate. -/
def goes (d r : Int) : Int := d + d * r / 1048576
/-- What a clock that was set to tm at cnt, with this rate, tells at c. -/
def toldAt (cnt tm r c : Int) : Int := min (tm + goes (if cnt < c then c - cnt else 0) r) 18446744073709551615
theorem split_mul (d r : Int) : d * r = 4294967296 * (d / 4294967296 * r) + d % 4294967296 * r := by
  have h := Int.mul_ediv_add_emod d 4294967296
  have h2 : (4294967296 * (d / 4294967296) + d % 4294967296) * r = d * r := by rw [h]
  rw [← h2, Int.add_mul, Int.mul_assoc]
theorem scaled_whole (d r : Int) : d / 4294967296 * r / 1048576 * 4294967296 + (d % 4294967296 * r + d / 4294967296 * r % 1048576 * 4294967296) / 1048576 = d * r / 1048576 := by
  rw [split_mul d r]
  generalize d / 4294967296 * r = x
  generalize d % 4294967296 * r = y
  omega
theorem scaled_left (d r : Int) : (d % 4294967296 * r + d / 4294967296 * r % 1048576 * 4294967296) % 1048576 = d * r % 1048576 := by
  rw [split_mul d r]
  generalize d / 4294967296 * r = x
  generalize d % 4294967296 * r = y
  omega
theorem scaled_bd (d r : Int) (h0 : 0 ≤ d) (h1 : d ≤ 18446744073709551615) (r0 : 0 ≤ r) (r1 : r ≤ 1000) :
    0 ≤ d / 4294967296 * r ∧ d / 4294967296 * r ≤ 4294967295000 ∧ 0 ≤ d % 4294967296 * r ∧ d % 4294967296 * r ≤ 4294967295000 := by
  have a0 : 0 ≤ d / 4294967296 := by omega
  have a1 : d / 4294967296 ≤ 4294967295 := by omega
  have b0 : 0 ≤ d % 4294967296 := by omega
  have b1 : d % 4294967296 ≤ 4294967295 := by omega
  generalize d / 4294967296 = x at *
  generalize d % 4294967296 = y at *
  have h1 := Int.mul_le_mul a1 r1 r0 (by omega)
  have h2 := Int.mul_le_mul b1 r1 r0 (by omega)
  exact ⟨Int.mul_nonneg a0 r0, by omega, Int.mul_nonneg b0 r0, by omega⟩
theorem prod_bd (d r : Int) (h0 : 0 ≤ d) (r0 : 0 ≤ r) (r1 : r ≤ 1000) : 0 ≤ d * r ∧ d * r ≤ d * 1000 := ⟨Int.mul_nonneg h0 r0, Int.mul_le_mul_of_nonneg_left r1 h0⟩
/-- The drift below nought, rounded down, away from it. -/
theorem drift_neg (d r : Int) : d * r / 1048576 = -(d * (-r) / 1048576 + if 0 < d * (-r) % 1048576 then 1 else 0) := by
  have h : d * r = -(d * (-r)) := by rw [Int.mul_neg, Int.neg_neg]
  rw [h]
  generalize d * (-r) = x
  split <;> omega
theorem goes_eq (d r : Int) : goes d r = d * (1048576 + r) / 1048576 := by
  unfold goes
  rw [Int.mul_add]
  generalize d * r = x
  omega
theorem goes_mono (d e r : Int) (h : d ≤ e) (r0 : -1000 ≤ r) : goes d r ≤ goes e r := by
  rw [goes_eq, goes_eq]
  have : d * (1048576 + r) ≤ e * (1048576 + r) := Int.mul_le_mul_of_nonneg_right h (by omega)
  omega
theorem goes_zero (r : Int) : goes 0 r = 0 := by unfold goes; simp
theorem goes_nonneg (d r : Int) (h : 0 ≤ d) (r0 : -1000 ≤ r) : 0 ≤ goes d r := by
  have := goes_mono 0 d r h r0
  rwa [goes_zero] at this
theorem told_mono (cnt tm r c e : Int) (h : c ≤ e) (r0 : -1000 ≤ r) : toldAt cnt tm r c ≤ toldAt cnt tm r e := by
  unfold toldAt
  have := goes_mono (if cnt < c then c - cnt else 0) (if cnt < e then e - cnt else 0) r (by split <;> split <;> omega) r0
  omega
theorem told_ge (cnt tm r c : Int) (h : tm ≤ 18446744073709551615) (r0 : -1000 ≤ r) : tm ≤ toldAt cnt tm r c := by
  unfold toldAt
  have := goes_nonneg (if cnt < c then c - cnt else 0) r (by split <;> omega) r0
  omega
theorem told_at (cnt tm r c : Int) (h : c ≤ cnt) (h1 : tm ≤ 18446744073709551615) : toldAt cnt tm r c = tm := by
  unfold toldAt
  rw [if_neg (by omega), goes_zero]
  omega
theorem told_le (cnt tm r c : Int) : toldAt cnt tm r c ≤ 18446744073709551615 := by unfold toldAt; omega
/-- What Now answers: the time and the error. -/
def nowOf (kn : Bool) (cnt tm rt c : Int) : Int := if kn then toldAt cnt tm rt c else 0
def nowErr (kn : Bool) : Int := if kn then 0 else 10
/-- What Publish answers. -/
def pubErr (kn : Bool) (cnt c r : Int) : Int := if r < -1000 ∨ 1000 < r then 5 else if kn = true ∧ c < cnt then 9 else 0
/-- The time that is set. -/
def pubTime (kn : Bool) (cnt tm rt c t : Int) : Int := if kn = true ∧ t < toldAt cnt tm rt c then toldAt cnt tm rt c else t
theorem told_nonneg (cnt tm rt c : Int) (t0 : 0 ≤ tm) (r0 : -1000 ≤ rt) : 0 ≤ toldAt cnt tm rt c := by
  unfold toldAt
  have := goes_nonneg (if cnt < c then c - cnt else 0) rt (by split <;> omega) r0
  omega
end Go.Proofs.YtjdcnlggpfkopabDoor
