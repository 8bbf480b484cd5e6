/- Floats that are no NaN. -/
import Derived.Test.YtjdcnlggpfkopaaRows
import Derived.Laws.FloatArith
namespace Go.Proofs.Ytjdcnlggpfkopaa
set_option linter.unusedVariables false

theorem infN : Ieee.double.infRung = 9218868437227405312 := by decide +kernel
theorem sgnN : Ieee.double.signWeight = 9223372036854775808 := by decide +kernel
theorem binN : Ieee.double.binade = 4503599627370496 := by decide +kernel
/-- A number or an infinity, of this sign. -/
def NoNan (d : Ieee.Datum) (neg : Bool) : Prop := (∃ m p, d = .number neg m p) ∨ d = .infinity neg
/-- The bits of one. -/
def FinF (x : Nat) : Prop := ∃ neg r, x = Ieee.double.word neg r ∧ r ≤ Ieee.double.infRung
/-- The bits of one that is not below nought. -/
def PosF (x : Nat) : Prop := x ≤ Ieee.double.infRung
theorem PosF.fin {x : Nat} (h : PosF x) : FinF x := ⟨false, x, rfl, h⟩
theorem read_fin (neg : Bool) (r : Nat) (h : r ≤ Ieee.double.infRung) : NoNan (Ieee.double.read (Ieee.double.word neg r)) neg := by
  rw [infN] at h
  have hr : Ieee.double.word neg r % Ieee.double.signWeight = r := by
    unfold Ieee.Format.word
    rw [sgnN]
    cases neg
    · simp; omega
    · simp; omega
  have hs : (Ieee.double.word neg r / Ieee.double.signWeight % 2 == 1) = neg := by
    unfold Ieee.Format.word
    rw [sgnN]
    cases neg
    · simp; omega
    · simp; omega
  unfold Ieee.Format.read
  simp only [hr, hs]
  split
  · exact Or.inl ⟨_, _, rfl⟩
  · split
    · exact Or.inl ⟨_, _, rfl⟩
    · split
      · exact Or.inr rfl
      · rename_i h1 h2 h3
        rw [infN] at h2 h3
        omega
theorem read_pos {x : Nat} (h : PosF x) : NoNan (Ieee.double.read x) false := read_fin false x h
theorem nearest_fin (neg : Bool) (m : Nat) (p : Int) : ∃ r, Ieee.double.nearest neg m p = Ieee.double.word neg r ∧ r ≤ Ieee.double.infRung := by
  unfold Ieee.Format.nearest
  split
  · exact ⟨0, rfl, Nat.zero_le _⟩
  · exact ⟨_, rfl, Nat.min_le_right _ _⟩
theorem write_fin (d : Ieee.Datum) (neg : Bool) (h : NoNan d neg) : ∃ r, Ieee.double.write d = Ieee.double.word neg r ∧ r ≤ Ieee.double.infRung := by
  rcases h with ⟨m, p, rfl⟩ | rfl
  · exact nearest_fin neg m p
  · exact ⟨_, rfl, Nat.le_refl _⟩
theorem write_pos (d : Ieee.Datum) (h : NoNan d false) : PosF (Ieee.double.write d) := by
  obtain ⟨r, h1, h2⟩ := write_fin d false h
  rw [h1]; exact h2
theorem mul_self {x : Nat} (h : FinF x) : ∃ z, Ieee.double.mul x x = some z ∧ PosF z := by
  obtain ⟨neg, r, rfl, hr⟩ := h
  unfold Ieee.Format.mul
  rcases read_fin neg r hr with ⟨m, p, h1⟩ | h1
  · rw [h1]
    refine ⟨_, rfl, write_pos _ (Or.inl ⟨m * m, p + p, ?_⟩)⟩
    cases neg <;> rfl
  · rw [h1]
    refine ⟨_, rfl, write_pos _ (Or.inr ?_)⟩
    cases neg <;> rfl
theorem add_pos {x y : Nat} (hx : PosF x) (hy : PosF y) : ∃ z, Ieee.double.add x y = some z ∧ PosF z := by
  unfold Ieee.Format.add
  rcases read_pos hx with ⟨m, p, h1⟩ | h1
  · rcases read_pos hy with ⟨n, q, h2⟩ | h2
    · rw [h1, h2]
      refine ⟨_, rfl, write_pos _ (Or.inl ⟨(Ieee.signed false m (p - min p q).toNat + Ieee.signed false n (q - min p q).toNat).natAbs, min p q, ?_⟩)⟩
      have ht : ¬ (Ieee.signed false m (p - min p q).toNat + Ieee.signed false n (q - min p q).toNat) < 0 := by
        simp only [Ieee.signed, Bool.false_eq_true, if_false]
        generalize m <<< (p - min p q).toNat = a
        generalize n <<< (q - min p q).toNat = b
        omega
      simp only [Bool.and_self]
      congr 1
      split
      · rfl
      · simpa using ht
    · rw [h1, h2]; exact ⟨_, rfl, write_pos _ (Or.inr rfl)⟩
  · rcases read_pos hy with ⟨n, q, h2⟩ | h2
    · rw [h1, h2]; exact ⟨_, rfl, write_pos _ (Or.inr rfl)⟩
    · rw [h1, h2]; exact ⟨_, rfl, write_pos _ (Or.inr rfl)⟩
theorem div_fin {x y n : Nat} {j : Int} (hx : FinF x) (hy : Ieee.double.read y = .number false n j) (hn : n ≠ 0) : ∃ z, Ieee.double.div x y = some z ∧ FinF z := by
  obtain ⟨neg, r, rfl, hr⟩ := hx
  unfold Ieee.Format.div
  rcases read_fin neg r hr with ⟨m, p, h1⟩ | h1
  · rw [h1, hy]
    simp only [Ieee.Datum.quotient, hn, if_false, Option.map_some]
    obtain ⟨r2, e1, e2⟩ := write_fin (.number (neg ^^ false) (2 * ((m <<< (Ieee.double.fractionBits + 2 + n.log2 - m.log2)) / n) + ((m <<< (Ieee.double.fractionBits + 2 + n.log2 - m.log2)) % n != 0).toNat) (p - j - (Ieee.double.fractionBits + 2 + n.log2 - m.log2 : Nat) - 1)) (neg ^^ false) (Or.inl ⟨_, _, rfl⟩)
    exact ⟨_, rfl, _, r2, e1, e2⟩
  · rw [h1, hy]
    obtain ⟨r2, e1, e2⟩ := write_fin (.infinity (neg ^^ false)) (neg ^^ false) (Or.inr rfl)
    exact ⟨_, rfl, _, r2, e1, e2⟩
theorem div_pos {x y n : Nat} {j : Int} (hx : PosF x) (hy : Ieee.double.read y = .number false n j) (hn : n ≠ 0) : ∃ z, Ieee.double.div x y = some z ∧ PosF z := by
  unfold Ieee.Format.div
  rcases read_pos hx with ⟨m, p, h1⟩ | h1
  · rw [h1, hy]
    simp only [Ieee.Datum.quotient, hn, if_false, Option.map_some]
    exact ⟨_, rfl, write_pos _ (Or.inl ⟨_, _, rfl⟩)⟩
  · rw [h1, hy]
    exact ⟨_, rfl, write_pos _ (Or.inr rfl)⟩
theorem sqrt_pos {x : Nat} (hx : PosF x) : ∃ z, Ieee.double.sqrt x = some z ∧ PosF z := by
  unfold Ieee.Format.sqrt
  rcases read_pos hx with ⟨m, p, h1⟩ | h1
  · rw [h1]
    unfold Ieee.Datum.root
    simp only
    by_cases hm : m = 0
    · rw [if_pos hm]; exact ⟨_, rfl, write_pos _ (Or.inl ⟨_, _, rfl⟩)⟩
    · rw [if_neg hm]; exact ⟨_, rfl, write_pos _ (Or.inl ⟨_, _, rfl⟩)⟩
  · rw [h1]; exact ⟨_, rfl, write_pos _ (Or.inr rfl)⟩
theorem order_self {x : Nat} (hx : PosF x) : Ieee.double.order x x = some .eq := by
  unfold Ieee.Format.order
  rcases read_pos hx with ⟨m, p, h1⟩ | h1
  · rw [h1]
    simp only [Ieee.Datum.order]
    congr 1
    exact Std.ReflCmp.compare_self
  · rw [h1]; rfl
theorem ofInt_fin (n : Int) : FinF (floatOfInt .f64 n) := by
  obtain ⟨r, h1, h2⟩ := nearest_fin (n < 0) n.natAbs 0
  exact ⟨_, r, h1, h2⟩
/-- The parts of a second, as a float. -/
theorem read_part : Ieee.double.read 4751297606875873280 = .number false 4503599627370496 (-20) := by decide +kernel
theorem read_few : ∀ n : Nat, 1 ≤ n → n ≤ 8 → ∃ m p, Ieee.double.read (floatOfInt .f64 n) = .number false m p ∧ m ≠ 0 := by
  intro n h1 h2
  match n, h1, h2 with
  | 1, _, _ => exact ⟨4503599627370496, -52, by decide +kernel, by decide⟩
  | 2, _, _ => exact ⟨4503599627370496, -51, by decide +kernel, by decide⟩
  | 3, _, _ => exact ⟨6755399441055744, -51, by decide +kernel, by decide⟩
  | 4, _, _ => exact ⟨4503599627370496, -50, by decide +kernel, by decide⟩
  | 5, _, _ => exact ⟨5629499534213120, -50, by decide +kernel, by decide⟩
  | 6, _, _ => exact ⟨6755399441055744, -50, by decide +kernel, by decide⟩
  | 7, _, _ => exact ⟨7881299347898368, -50, by decide +kernel, by decide⟩
  | 8, _, _ => exact ⟨4503599627370496, -49, by decide +kernel, by decide⟩
  | n + 9, _, h => omega
end Go.Proofs.Ytjdcnlggpfkopaa
