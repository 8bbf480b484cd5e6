/- Floats: to round keeps the order, and goes with powers of two. -/
import Derived.Test.YtjdcnlggpfkopaaRows
import Derived.Laws.FloatArith
namespace Go.Proofs.Ytjdcnlggpfkopaa
set_option linter.unusedVariables false

theorem bool_le {a b : Bool} (h : a = true → b = true) : a.toNat ≤ b.toNat := by
  cases a
  · exact Nat.zero_le _
  · rw [h rfl]; exact Nat.le_refl _
theorem bool_le1 (a : Bool) : a.toNat ≤ 1 := by cases a <;> decide
/-- n over 2 to the d, to the nearest; between two, the even one. -/
def rne (n d : Nat) : Nat := n / 2 ^ d + (decide (2 ^ d < 2 * (n % 2 ^ d)) || (2 ^ d == 2 * (n % 2 ^ d) && n / 2 ^ d % 2 == 1)).toNat
theorem cut_rne (neg : Bool) (n d : Nat) : Ieee.Toward.even.cut neg n d = rne n d := by
  unfold Ieee.Toward.cut rne
  simp only [Nat.one_shiftLeft]
  by_cases h : d ≤ n.log2 + 2
  · rw [Nat.min_eq_left h]
  · rw [Nat.min_eq_right (by omega)]
    have h1 : n < 2 ^ (n.log2 + 1) := Nat.lt_log2_self
    have h2 : 2 ^ (n.log2 + 2) = 2 * 2 ^ (n.log2 + 1) := by rw [Nat.pow_succ 2 (n.log2 + 1)]; omega
    have h3 : 2 ^ (n.log2 + 2) ≤ 2 ^ d := Nat.pow_le_pow_right (by decide) (by omega)
    rw [Nat.div_eq_of_lt (by omega), Nat.mod_eq_of_lt (by omega), Nat.div_eq_of_lt (show n < 2 ^ d by omega), Nat.mod_eq_of_lt (show n < 2 ^ d by omega)]
    have e1 : decide (2 ^ (n.log2 + 2) < 2 * n) = false := by simp; omega
    have e2 : decide (2 ^ d < 2 * n) = false := by simp; omega
    rw [e1, e2]
    simp
theorem rne_mono (n m d : Nat) (h : n ≤ m) : rne n d ≤ rne m d := by
  unfold rne
  have hg : 0 < 2 ^ d := Nat.two_pow_pos d
  generalize 2 ^ d = g at *
  have hq : n / g ≤ m / g := Nat.div_le_div_right h
  have e1 := Nat.div_add_mod n g
  have e2 := Nat.div_add_mod m g
  rcases Nat.lt_or_ge (n / g) (m / g) with hl | hl
  · have := bool_le1 (decide (g < 2 * (n % g)) || (g == 2 * (n % g) && n / g % 2 == 1))
    omega
  · have hq' : n / g = m / g := by omega
    rw [hq'] at e1 ⊢
    have hr : n % g ≤ m % g := by omega
    refine Nat.add_le_add_left (bool_le ?_) _
    intro h
    simp only [Bool.or_eq_true, decide_eq_true_eq, Bool.and_eq_true, beq_iff_eq] at h ⊢
    omega
theorem rne_scale (n d k : Nat) : rne (n * 2 ^ k) (d + k) = rne n d := by
  unfold rne
  have hk : 0 < 2 ^ k := Nat.two_pow_pos k
  rw [Nat.pow_add, Nat.mul_div_mul_right _ _ hk, Nat.mul_mod_mul_right, ← Nat.mul_assoc]
  have e1 : decide (2 ^ d * 2 ^ k < 2 * (n % 2 ^ d) * 2 ^ k) = decide (2 ^ d < 2 * (n % 2 ^ d)) := by
    rw [decide_eq_decide]; exact Nat.mul_lt_mul_right hk
  have e2 : (2 ^ d * 2 ^ k == 2 * (n % 2 ^ d) * 2 ^ k) = (2 ^ d == 2 * (n % 2 ^ d)) := by
    rw [Bool.eq_iff_iff, beq_iff_eq, beq_iff_eq]
    exact ⟨fun h => Nat.eq_of_mul_eq_mul_right hk h, fun h => congrArg (· * 2 ^ k) h⟩
  rw [e1, e2]
theorem rne_exact (n d : Nat) : rne (n * 2 ^ d) d = n := by
  have := rne_scale n 0 d
  rw [Nat.zero_add] at this
  rw [this]
  unfold rne
  simp [Nat.mod_one]
/-- The rung of a number that is told in units 2 to the -1074 - l0. -/
def rnd (n l0 : Nat) : Nat := (max (n.log2 - 52) l0 - l0) * 4503599627370496 + rne n (max (n.log2 - 52) l0)
theorem log2_scale (n k : Nat) (h : n ≠ 0) : (n * 2 ^ k).log2 = n.log2 + k := by
  induction k with
  | zero => simp
  | succ k ih =>
    rw [Nat.pow_succ, ← Nat.mul_assoc, Nat.mul_comm _ 2, Nat.log2_two_mul (by have := Nat.two_pow_pos k; exact Nat.mul_ne_zero h (by omega)), ih]
    omega
theorem binD : Ieee.double.binade = 4503599627370496 := by decide +kernel
theorem infD : Ieee.double.infRung = 9218868437227405312 := by decide +kernel
theorem sgnD : Ieee.double.signWeight = 9223372036854775808 := by decide +kernel
theorem lstD : Ieee.double.leastPlace = -1074 := by decide +kernel
theorem frcD : Ieee.double.fractionBits = 52 := rfl
theorem nearest_rnd (neg : Bool) (mag : Nat) (p : Int) (a l0 : Nat) (h : p = -1074 - (l0 : Int) + a) :
    Ieee.double.nearest neg mag p = Ieee.double.word neg (min (rnd (mag * 2 ^ a) l0) 9218868437227405312) := by
  unfold Ieee.Format.nearest
  by_cases hm : mag = 0
  · rw [if_pos hm, hm]
    unfold rnd rne
    have : (0 : Nat).log2 = 0 := by decide
    have h2 : 0 < 2 ^ l0 := Nat.two_pow_pos _
    simp
  · rw [if_neg hm]
    simp only [lstD, frcD, binD, infD]
    have hl : max (p + (mag.log2 : Int) - ((52 : Nat) : Int)) (-1074) = -1074 - (l0 : Int) + (max ((mag * 2 ^ a).log2 - 52) l0 : Nat) := by
      rw [log2_scale mag a hm]; omega
    rw [hl, cut_rne]
    unfold rnd
    generalize max ((mag * 2 ^ a).log2 - 52) l0 = L at *
    rw [show (-1074 - (l0 : Int) + (L : Int) - -1074).toNat = L - l0 by omega, show (p - (-1074 - (l0 : Int) + (L : Int))).toNat = a - L by omega, show (-1074 - (l0 : Int) + (L : Int) - p).toNat = L - a by omega, Nat.shiftLeft_eq]
    have e : rne (mag * 2 ^ (a - L)) (L - a) = rne (mag * 2 ^ a) L := by
      rcases Nat.le_total L a with hla | hla
      · rw [show L - a = 0 by omega, ← rne_scale (mag * 2 ^ (a - L)) 0 L, Nat.mul_assoc, ← Nat.pow_add, show a - L + L = a by omega, Nat.zero_add]
      · rw [show a - L = 0 by omega, Nat.pow_zero, Nat.mul_one, ← rne_scale mag (L - a) a, show L - a + a = L by omega]
    rw [e]
theorem log2_mono {n m : Nat} (h : n ≤ m) : n.log2 ≤ m.log2 := by
  by_cases hn : n = 0
  · subst hn; exact Nat.zero_le _
  · rw [Nat.le_log2 (by omega)]
    exact Nat.le_trans (Nat.log2_self_le hn) h
theorem rnd_mono (n m l0 : Nat) (h : n ≤ m) : rnd n l0 ≤ rnd m l0 := by
  have hl := log2_mono h
  unfold rnd
  have hL : max (n.log2 - 52) l0 ≤ max (m.log2 - 52) l0 := by omega
  rcases Nat.lt_or_ge (max (n.log2 - 52) l0) (max (m.log2 - 52) l0) with hlt | hge
  · have h1 : rne n (max (n.log2 - 52) l0) ≤ 2 ^ 53 := by
      have := rne_mono n (2 ^ 53 * 2 ^ max (n.log2 - 52) l0) (max (n.log2 - 52) l0) (by
        have h1 : n < 2 ^ (n.log2 + 1) := Nat.lt_log2_self
        have h2 : 2 ^ (n.log2 + 1) ≤ 2 ^ (53 + max (n.log2 - 52) l0) := Nat.pow_le_pow_right (by decide) (by omega)
        rw [Nat.pow_add 2 53] at h2
        omega)
      rwa [rne_exact] at this
    have h2 : 2 ^ 52 ≤ rne m (max (m.log2 - 52) l0) := by
      have := rne_mono (2 ^ 52 * 2 ^ max (m.log2 - 52) l0) m (max (m.log2 - 52) l0) (by
        rw [← Nat.pow_add]
        have hm : m ≠ 0 := fun h0 => by
          rw [h0, show (0 : Nat).log2 = 0 by decide] at hlt
          omega
        refine Nat.le_trans (Nat.pow_le_pow_right (by decide) ?_) (Nat.log2_self_le hm)
        omega)
      rwa [rne_exact] at this
    generalize rne n (max (n.log2 - 52) l0) = x at *
    generalize rne m (max (m.log2 - 52) l0) = y at *
    generalize hA : max (n.log2 - 52) l0 = A at *
    generalize hC : max (m.log2 - 52) l0 = C at *
    have : l0 ≤ A := by omega
    have h53 : (2 : Nat) ^ 53 = 9007199254740992 := by decide
    have h52 : (2 : Nat) ^ 52 = 4503599627370496 := by decide
    rw [h53] at h1
    rw [h52] at h2
    omega
  · rw [show max (m.log2 - 52) l0 = max (n.log2 - 52) l0 by omega]
    exact Nat.add_le_add_left (rne_mono _ _ _ h) _
theorem rnd_scale (n k l0 : Nat) (h : 52 + l0 ≤ n.log2) : rnd (n * 2 ^ k) l0 = rnd n l0 + k * 4503599627370496 := by
  have hn : n ≠ 0 := fun h0 => by
    rw [h0, show (0 : Nat).log2 = 0 by decide] at h
    omega
  unfold rnd
  rw [log2_scale n k hn, show max (n.log2 + k - 52) l0 = n.log2 - 52 + k by omega, show max (n.log2 - 52) l0 = n.log2 - 52 by omega, rne_scale]
  omega
theorem log2_pow (k : Nat) : (2 ^ k : Nat).log2 = k := by
  have := log2_scale 1 k (by decide)
  rw [Nat.one_mul] at this
  rw [this, show (1 : Nat).log2 = 0 by decide, Nat.zero_add]
theorem rnd_pow (j l0 : Nat) : rnd (2 ^ (j + 52 + l0)) l0 = (j + 1) * 4503599627370496 := by
  unfold rnd
  rw [log2_pow, show max (j + 52 + l0 - 52) l0 = j + l0 by omega, show 2 ^ (j + 52 + l0) = 2 ^ 52 * 2 ^ (j + l0) by rw [← Nat.pow_add]; congr 1; omega, rne_exact]
  have h52 : (2 : Nat) ^ 52 = 4503599627370496 := by decide
  rw [h52]
  omega
/-- What a rung stands for, in units 2 to the -1074. -/
def val (r : Nat) : Nat := if r < 4503599627370496 then r else (4503599627370496 + r % 4503599627370496) * 2 ^ (r / 4503599627370496 - 1)
theorem rnd_val (r l0 : Nat) : rnd (val r * 2 ^ l0) l0 = r := by
  have h52 : (2 : Nat) ^ 52 = 4503599627370496 := by decide
  have h53 : (2 : Nat) ^ 53 = 9007199254740992 := by decide
  unfold val
  split
  · rename_i h
    by_cases hr : r = 0
    · subst hr
      unfold rnd rne
      simp
    · have hl : r.log2 < 52 := by
        rw [Nat.log2_lt hr, h52]; exact h
      unfold rnd
      rw [log2_scale r l0 hr, show max (r.log2 + l0 - 52) l0 = l0 by omega, rne_exact]
      omega
  · rename_i h
    have hlt := Nat.mod_lt r (show 0 < 4503599627370496 by decide)
    have hdm := Nat.div_add_mod r 4503599627370496
    have hd1 : 1 ≤ r / 4503599627370496 := by omega
    generalize r % 4503599627370496 = x at *
    generalize r / 4503599627370496 = y at *
    have hl : (4503599627370496 + x).log2 = 52 := by
      have h1 : 52 ≤ (4503599627370496 + x).log2 := by rw [Nat.le_log2 (by omega), h52]; omega
      have h2 : (4503599627370496 + x).log2 < 53 := by rw [Nat.log2_lt (by omega), h53]; omega
      omega
    unfold rnd
    rw [Nat.mul_assoc, ← Nat.pow_add, log2_scale _ _ (by omega), hl, show max (52 + (y - 1 + l0) - 52) l0 = y - 1 + l0 by omega, rne_exact]
    omega
theorem val_mono {r q : Nat} (h : r ≤ q) : val r ≤ val q := by
  rcases Nat.lt_or_ge (val q) (val r) with hlt | hge
  · have h1 := rnd_mono (val q) (val r) 0 (by omega)
    have e1 := rnd_val q 0
    have e2 := rnd_val r 0
    rw [Nat.pow_zero, Nat.mul_one] at e1 e2
    rw [e1, e2] at h1
    rw [show r = q by omega] at hlt
    omega
  · exact hge
theorem val_scale (r k : Nat) (h : 4503599627370496 ≤ r) : val (r + k * 4503599627370496) = 2 ^ k * val r := by
  unfold val
  rw [if_neg (by omega), if_neg (by omega), Nat.add_mul_mod_self_right, Nat.add_mul_div_right _ _ (by decide), show r / 4503599627370496 + k - 1 = r / 4503599627370496 - 1 + k by omega, Nat.pow_add]
  rw [← Nat.mul_assoc, Nat.mul_comm]
theorem val_pow (j : Nat) : val ((j + 1) * 4503599627370496) = 2 ^ (j + 52) := by
  have h52 : (2 : Nat) ^ 52 = 4503599627370496 := by decide
  unfold val
  rw [if_neg (by omega), Nat.mul_mod_left, Nat.mul_div_cancel _ (by decide), show j + 1 - 1 = j by omega, Nat.pow_add, h52, Nat.add_zero, Nat.mul_comm]
theorem le_of_val {r q : Nat} (h : val r ≤ val q) : r ≤ q := by
  have h1 := rnd_mono (val r) (val q) 0 h
  have e1 := rnd_val q 0
  have e2 := rnd_val r 0
  rw [Nat.pow_zero, Nat.mul_one] at e1 e2
  rwa [e1, e2] at h1
theorem read_val (neg : Bool) (r : Nat) (h : r < 9218868437227405312) : ∃ m a : Nat, Ieee.double.read (Ieee.double.word neg r) = .number neg m (-1074 + (a : Int)) ∧ m * 2 ^ a = val r ∧ m < 9007199254740992 := by
  have hr : Ieee.double.word neg r % Ieee.double.signWeight = r := by
    unfold Ieee.Format.word
    rw [sgnD]
    cases neg
    · simp; omega
    · simp; omega
  have hs : (Ieee.double.word neg r / Ieee.double.signWeight % 2 == 1) = neg := by
    unfold Ieee.Format.word
    rw [sgnD]
    cases neg
    · simp; omega
    · simp; omega
  unfold Ieee.Format.read val
  simp only [hr, hs, binD, infD, lstD]
  split
  · rename_i hb
    exact ⟨r, 0, by simp, by simp, by omega⟩
  · rename_i hb
    exact ⟨_, r / 4503599627370496 - 1, rfl, rfl, by have := Nat.mod_lt r (show 0 < 4503599627370496 by decide); omega⟩
end Go.Proofs.Ytjdcnlggpfkopaa
