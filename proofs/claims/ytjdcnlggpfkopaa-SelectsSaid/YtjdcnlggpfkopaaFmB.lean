/- Floats: a mean with weights lies within the bounds of what is weighed. -/
import Derived.Test.YtjdcnlggpfkopaaFm
namespace Go.Proofs.Ytjdcnlggpfkopaa
set_option linter.unusedVariables false

theorem signed_abs (s t : Bool) (m n u v : Nat) : (Ieee.signed s m u + Ieee.signed t n v).natAbs ≤ m * 2 ^ u + n * 2 ^ v := by
  unfold Ieee.signed
  rw [Nat.shiftLeft_eq, Nat.shiftLeft_eq]
  generalize m * 2 ^ u = x
  generalize n * 2 ^ v = y
  cases s <;> cases t <;> simp <;> omega
theorem pow_split (m a d : Nat) (h : d ≤ a) : m * 2 ^ (a - d) * 2 ^ d = m * 2 ^ a := by
  rw [Nat.mul_assoc, ← Nat.pow_add, Nat.sub_add_cancel h]
theorem add_val (s t : Bool) (r q : Nat) (hr : r < 9218868437227405312) (hq : q < 9218868437227405312) :
    ∃ neg n, Ieee.double.add (Ieee.double.word s r) (Ieee.double.word t q) = some (Ieee.double.word neg (min (rnd n 0) 9218868437227405312)) ∧ n ≤ val r + val q ∧ (s = false → t = false → n = val r + val q ∧ neg = false) := by
  obtain ⟨m, a, h1, h2, _⟩ := read_val s r hr
  obtain ⟨n, c, k1, k2, _⟩ := read_val t q hq
  unfold Ieee.Format.add
  rw [h1, k1]
  simp only [Ieee.Datum.sum, Option.map_some, Ieee.Format.write]
  have hb : min (-1074 + (a : Int)) (-1074 + (c : Int)) = -1074 - ((0 : Nat) : Int) + (min a c : Nat) := by omega
  have e1 : (-1074 + (a : Int) - min (-1074 + (a : Int)) (-1074 + (c : Int))).toNat = a - min a c := by omega
  have e2 : (-1074 + (c : Int) - min (-1074 + (a : Int)) (-1074 + (c : Int))).toNat = c - min a c := by omega
  rw [e1, e2]
  rw [nearest_rnd _ _ _ (min a c) 0 hb]
  refine ⟨_, _, rfl, ?_, ?_⟩
  · have := signed_abs s t m n (a - min a c) (c - min a c)
    have h3 := Nat.mul_le_mul_right (2 ^ min a c) this
    rw [Nat.add_mul, pow_split m a _ (by omega), pow_split n c _ (by omega), h2, k2] at h3
    exact h3
  · rintro rfl rfl
    unfold Ieee.signed
    simp only [Bool.false_eq_true, if_false, Nat.shiftLeft_eq]
    constructor
    · rw [show ((((m * 2 ^ (a - min a c) : Nat) : Int) + ((n * 2 ^ (c - min a c) : Nat) : Int)).natAbs) = m * 2 ^ (a - min a c) + n * 2 ^ (c - min a c) by omega, Nat.add_mul, pow_split m a _ (by omega), pow_split n c _ (by omega), h2, k2]
    · split
      · rfl
      · simp only [decide_eq_false_iff_not]; omega
theorem mul_val (s t : Bool) (r q : Nat) (hr : r < 9218868437227405312) (hq : q < 9218868437227405312) :
    Ieee.double.mul (Ieee.double.word s r) (Ieee.double.word t q) = some (Ieee.double.word (s ^^ t) (min (rnd (val r * val q) 1074) 9218868437227405312)) := by
  obtain ⟨m, a, h1, h2, _⟩ := read_val s r hr
  obtain ⟨n, c, k1, k2, _⟩ := read_val t q hq
  unfold Ieee.Format.mul
  rw [h1, k1]
  simp only [Ieee.Datum.product, Option.map_some, Ieee.Format.write]
  rw [nearest_rnd _ _ _ (a + c) 1074 (by omega), ← h2, ← k2, Nat.pow_add, Nat.mul_mul_mul_comm]
theorem quo_up (m n e : Nat) (hn : 0 < n) (h : m ≤ 2 ^ e * n) : 2 * (m / n) + (m % n != 0).toNat ≤ 2 ^ (e + 1) := by
  have h1 : m / n ≤ 2 ^ e := by
    have := Nat.div_le_div_right (c := n) h
    rwa [Nat.mul_div_cancel _ hn] at this
  rw [Nat.pow_succ]
  by_cases h0 : m % n = 0
  · rw [h0]; simp; omega
  · have h2 := bool_le1 (m % n != 0)
    have h3 := Nat.div_add_mod m n
    have h4 : m / n ≠ 2 ^ e := fun he => by
      rw [he, Nat.mul_comm] at h3
      omega
    omega
theorem quo_digits (m n d : Nat) (hm : m ≠ 0) (hn : n ≠ 0) (hd : 1 ≤ d) : n ≤ m * 2 ^ (d + n.log2 - m.log2) := by
  have h1 : n < 2 ^ (n.log2 + 1) := Nat.lt_log2_self
  have h2 : 2 ^ m.log2 ≤ m := Nat.log2_self_le hm
  have h3 := Nat.mul_le_mul_right (2 ^ (d + n.log2 - m.log2)) h2
  rw [← Nat.pow_add] at h3
  have h4 : 2 ^ (n.log2 + 1) ≤ 2 ^ (m.log2 + (d + n.log2 - m.log2)) := Nat.pow_le_pow_right (by decide) (by omega)
  omega
theorem div_val (s t : Bool) (r q : Nat) (hr : r < 9218868437227405312) (hq : q < 9218868437227405312) (hv : val q ≠ 0) :
    ∃ n l0, Ieee.double.div (Ieee.double.word s r) (Ieee.double.word t q) = some (Ieee.double.word (s ^^ t) (min (rnd n l0) 9218868437227405312)) ∧ (∀ k, val r ≤ 2 ^ k * val q → n ≤ 2 ^ (k + 1074 + l0)) ∧ (∀ k, val q ≤ 2 ^ k * val r → 2 ^ (1074 + l0) ≤ n * 2 ^ k) := by
  obtain ⟨m, a, h1, h2, _⟩ := read_val s r hr
  obtain ⟨n, c, k1, k2, _⟩ := read_val t q hq
  have hn : n ≠ 0 := fun h => by rw [h, Nat.zero_mul] at k2; exact hv k2.symm
  unfold Ieee.Format.div
  rw [h1, k1]
  simp only [Ieee.Datum.quotient, hn, if_false, Option.map_some, Ieee.Format.write, Nat.shiftLeft_eq, frcD]
  generalize hM : (52 + 2 + n.log2 - m.log2) = more
  rw [nearest_rnd _ _ _ (a + 1074) (c + more + 1) (by omega)]
  refine ⟨_, _, rfl, ?_, ?_⟩
  · intro k hk
    by_cases hm : m = 0
    · rw [hm]; simp
    have hdig := quo_digits m n 54 hm hn (by decide)
    rw [show 54 + n.log2 - m.log2 = more by omega] at hdig
    rw [← h2, ← k2] at hk
    have hk2 : m * 2 ^ more * 2 ^ a ≤ 2 ^ (k + c + more) * n := by
      have := Nat.mul_le_mul_right (2 ^ more) hk
      rw [show m * 2 ^ more * 2 ^ a = m * 2 ^ a * 2 ^ more by rw [Nat.mul_right_comm], show 2 ^ (k + c + more) * n = 2 ^ k * (n * 2 ^ c) * 2 ^ more by rw [Nat.pow_add, Nat.pow_add, Nat.mul_comm n, ← Nat.mul_assoc, Nat.mul_right_comm]]
      exact this
    have hle : a ≤ k + c + more := by
      rcases Nat.lt_or_ge (k + c + more) a with hlt | hge
      · exfalso
        have h5 : 2 ^ (k + c + more) * 2 ≤ 2 ^ a := by rw [← Nat.pow_succ]; exact Nat.pow_le_pow_right (by decide) (by omega)
        have h6 := Nat.mul_le_mul hdig h5
        have h7 : 0 < 2 ^ (k + c + more) * n := Nat.mul_pos (Nat.two_pow_pos _) (by omega)
        have h8 : n * (2 ^ (k + c + more) * 2) = 2 * (2 ^ (k + c + more) * n) := by rw [← Nat.mul_assoc, Nat.mul_comm n, Nat.mul_comm _ 2]
        rw [h8] at h6
        generalize 2 ^ (k + c + more) * n = z at *
        generalize m * 2 ^ more * 2 ^ a = y at *
        omega
      · exact hge
    have hk3 : m * 2 ^ more ≤ 2 ^ (k + c + more - a) * n := by
      have : m * 2 ^ more * 2 ^ a ≤ 2 ^ (k + c + more - a) * n * 2 ^ a := by
        rw [Nat.mul_right_comm (2 ^ (k + c + more - a)), ← Nat.pow_add, Nat.sub_add_cancel hle]; exact hk2
      exact Nat.le_of_mul_le_mul_right this (Nat.two_pow_pos a)
    have h9 := quo_up _ n _ (by omega) hk3
    have h10 := Nat.mul_le_mul_right (2 ^ (a + 1074)) h9
    rw [← Nat.pow_add, show k + c + more - a + 1 + (a + 1074) = k + 1074 + (c + more + 1) by omega] at h10
    exact h10
  · intro k hk
    have hm : m ≠ 0 := fun h => by
      rw [← h2, h, Nat.zero_mul, Nat.mul_zero] at hk
      omega
    have hdig := quo_digits m n 54 hm hn (by decide)
    rw [show 54 + n.log2 - m.log2 = more by omega] at hdig
    rw [← h2, ← k2] at hk
    have hF : 2 ^ (c + more) ≤ (m * 2 ^ more / n) * 2 ^ (a + k) := by
      rcases Nat.lt_or_ge (c + more) (a + k) with hlt | hge
      · have h5 : 1 ≤ m * 2 ^ more / n := (Nat.one_le_div_iff (by omega)).2 hdig
        have h6 : 2 ^ (c + more) ≤ 2 ^ (a + k) := Nat.pow_le_pow_right (by decide) (by omega)
        have h7 := Nat.mul_le_mul h5 h6
        rwa [Nat.one_mul] at h7
      · have h5 : 2 ^ (c + more - (a + k)) ≤ m * 2 ^ more / n := by
          rw [Nat.le_div_iff_mul_le (by omega)]
          have h6 : 2 ^ (c + more - (a + k)) * n * 2 ^ (a + k) ≤ m * 2 ^ more * 2 ^ (a + k) := by
            rw [Nat.mul_right_comm, ← Nat.pow_add, Nat.sub_add_cancel hge]
            have h7 := Nat.mul_le_mul_right (2 ^ more) hk
            rw [show 2 ^ (c + more) * n = n * 2 ^ c * 2 ^ more by rw [Nat.pow_add, Nat.mul_comm, Nat.mul_assoc], show m * 2 ^ more * 2 ^ (a + k) = 2 ^ k * (m * 2 ^ a) * 2 ^ more by rw [Nat.pow_add, Nat.mul_comm (2 ^ a), ← Nat.mul_assoc, ← Nat.mul_assoc, Nat.mul_right_comm m, Nat.mul_comm m, Nat.mul_right_comm (2 ^ k * m)]]
            exact h7
          exact Nat.le_of_mul_le_mul_right h6 (Nat.two_pow_pos _)
        have h7 := Nat.mul_le_mul_right (2 ^ (a + k)) h5
        rwa [← Nat.pow_add, Nat.sub_add_cancel hge] at h7
    have h8 : 2 * (m * 2 ^ more / n) ≤ 2 * (m * 2 ^ more / n) + (m * 2 ^ more % n != 0).toNat := Nat.le_add_right _ _
    obtain ⟨e, he⟩ : ∃ e : Nat, e = 1075 := ⟨_, rfl⟩
    have h9 : 2 ^ (c + more) * 2 ^ e ≤ (m * 2 ^ more / n) * 2 ^ (a + k) * 2 ^ e := Nat.mul_le_mul_right _ hF
    rw [← Nat.pow_add, show c + more + e = 1074 + (c + more + 1) by omega] at h9
    refine Nat.le_trans h9 ?_
    have h10 := Nat.mul_le_mul_right (2 ^ (a + 1074) * 2 ^ k) h8
    rw [← Nat.mul_assoc, ← Nat.mul_assoc] at h10
    refine Nat.le_trans (Nat.le_of_eq ?_) h10
    rw [Nat.mul_assoc, Nat.mul_assoc, ← Nat.pow_add, ← Nat.pow_add, Nat.mul_comm 2, Nat.mul_assoc, ← Nat.pow_succ']
    congr 2
    omega
theorem rnd_le (n j l0 : Nat) (h : n ≤ 2 ^ (j + 52 + l0)) : rnd n l0 ≤ (j + 1) * 4503599627370496 := by
  rw [← rnd_pow j l0]; exact rnd_mono _ _ _ h
theorem rnd_ge (n j l0 : Nat) (h : 2 ^ (j + 52 + l0) ≤ n) : (j + 1) * 4503599627370496 ≤ rnd n l0 := by
  rw [← rnd_pow j l0]; exact rnd_mono _ _ _ h
end Go.Proofs.Ytjdcnlggpfkopaa
