/- Plain numbers: differences that go round, the half of a sum rounded down. -/
import Derived.WalkKit
import Derived.Laws.Small
import Derived.Laws.BitsAllLaws
namespace Go.Proofs.Ytjdcnlggpfkopaa
open Go.RowKit
set_option linter.unusedVariables false

theorem two (a : Int) : a % 2 = 0 ∨ a % 2 = 1 := by omega

theorem and_one (n : Int) : bits .and .i64 n 1 = n % 2 := by
  have h1 : (BitVec.ofInt 64 1).toNat = 2 ^ 1 - 1 := by decide
  have key : (BitVec.ofInt 64 n &&& BitVec.ofInt 64 1).toNat = (n % ((2 ^ 64 : Nat) : Int)).toNat % 2 ^ 1 := by
    rw [BitVec.toNat_and, BitVec.toNat_ofInt, h1, Nat.and_two_pow_sub_one_eq_mod]
  show IntKind.i64.wrap ((BitVec.ofInt 64 n &&& BitVec.ofInt 64 1).toNat : Nat) = n % 2
  rw [key, IntKind.wrap_i64]
  omega

theorem wrap_even (m : Int) : (IntKind.i64.wrap m) % 2 = m % 2 := by rw [IntKind.wrap_i64]; omega
theorem low_bit (a : Int) : (a % ((2 ^ 64 : Nat) : Int)).toNat % 2 ^ 1 = (a % 2).toNat := by omega
theorem parity_of (n : Nat) (a b : Int) (hk : n % 2 = (a % 2).toNat &&& (b % 2).toNat) : (n : Int) % 2 = (a % 2) * (b % 2) := by
  rcases two a with h | h <;> rcases two b with h' | h' <;> rw [h, h'] at hk ⊢
  · have : ((0 : Int).toNat &&& (0 : Int).toNat) = 0 := by decide
    omega
  · have : ((0 : Int).toNat &&& (1 : Int).toNat) = 0 := by decide
    omega
  · have : ((1 : Int).toNat &&& (0 : Int).toNat) = 0 := by decide
    omega
  · have : ((1 : Int).toNat &&& (1 : Int).toNat) = 1 := by decide
    omega
theorem and_parity (a b : Int) : (bits .and .i64 a b) % 2 = (a % 2) * (b % 2) := by
  have key : (BitVec.ofInt 64 a &&& BitVec.ofInt 64 b).toNat % 2 ^ 1 = ((a % ((2 ^ 64 : Nat) : Int)).toNat % 2 ^ 1) &&& ((b % ((2 ^ 64 : Nat) : Int)).toNat % 2 ^ 1) := by
    rw [BitVec.toNat_and, BitVec.toNat_ofInt, BitVec.toNat_ofInt, Nat.and_mod_two_pow]
  have e : bits .and .i64 a b = IntKind.i64.wrap ((BitVec.ofInt 64 a &&& BitVec.ofInt 64 b).toNat : Nat) := rfl
  rw [e, wrap_even]
  rw [low_bit, low_bit] at key
  exact parity_of _ a b key

theorem and_and_one (a b : Int) : bits .and .i64 (bits .and .i64 a b) 1 = (a % 2) * (b % 2) := by rw [and_one, and_parity]

/-- The difference of two times, as an int64 that goes round. -/
def diff (a b : Int) : Int := wrap64 (IntKind.u64.wrap (a - b))
theorem diff_eq (a b : Int) : diff a b = (a - b + 9223372036854775808) % 18446744073709551616 - 9223372036854775808 := by
  unfold diff; rw [← IntWalk.i64_left, IntKind.wrap_i64, IntKind.wrap_u64]; omega
theorem diff_lo (a b : Int) : -9223372036854775808 ≤ diff a b := by rw [diff_eq]; omega
theorem diff_hi (a b : Int) : diff a b ≤ 9223372036854775807 := by rw [diff_eq]; omega

theorem wrap64_eq (n : Int) : wrap64 n = (n + 9223372036854775808) % 18446744073709551616 - 9223372036854775808 := by
  rw [← IntWalk.i64_left, IntKind.wrap_i64]

/-- Half of a sum, rounded down: what both roads come to. -/
def mid (d e : Int) : Int := (d + e) / 2
theorem mid_code (d e : Int) (h0 : -9223372036854775808 ≤ d) (h1 : d ≤ 9223372036854775807) (h2 : -9223372036854775808 ≤ e) (h3 : e ≤ 9223372036854775807) :
    wrap64 (wrap64 (d / 2 + e / 2) + bits .and .i64 (bits .and .i64 d e) 1) = mid d e := by
  rw [and_and_one]; unfold mid; simp only [wrap64_eq]
  rcases two d with h | h <;> rcases two e with h' | h' <;> rw [h, h'] <;> omega

theorem low_eq (a b : Int) : wrap64 (a.tmod 2 + b.tmod 2) = a.tmod 2 + b.tmod 2 := by
  rw [wrap64_eq, tmod_eq_if, tmod_eq_if]; split <;> split <;> omega
theorem half_two (a b : Int) (h0 : -9223372036854775808 ≤ a) (h1 : a ≤ 9223372036854775807) (h2 : -9223372036854775808 ≤ b) (h3 : b ≤ 9223372036854775807)
    (h : (wrap64 (a.tmod 2 + b.tmod 2) == 2) = true) : wrap64 (wrap64 (wrap64 (a.tdiv 2) + wrap64 (b.tdiv 2)) + 1) = mid a b := by
  rw [low_eq, beq_iff_eq] at h
  simp only [wrap64_eq, tdiv_eq_if, tmod_eq_if, mid] at *
  split at h <;> split at h <;> simp only [*, if_true, if_false] <;> omega
theorem half_neg (a b : Int) (h0 : -9223372036854775808 ≤ a) (h1 : a ≤ 9223372036854775807) (h2 : -9223372036854775808 ≤ b) (h3 : b ≤ 9223372036854775807)
    (h : (wrap64 (a.tmod 2 + b.tmod 2) == -1) = true ∨ (wrap64 (a.tmod 2 + b.tmod 2) == -2) = true) : wrap64 (wrap64 (wrap64 (a.tdiv 2) + wrap64 (b.tdiv 2)) - 1) = mid a b := by
  simp only [low_eq, beq_iff_eq] at h
  simp only [wrap64_eq, tdiv_eq_if, tmod_eq_if, mid] at *
  split at h <;> split at h <;> simp only [*, if_true, if_false] <;> omega
theorem half_rest (a b : Int) (h0 : -9223372036854775808 ≤ a) (h1 : a ≤ 9223372036854775807) (h2 : -9223372036854775808 ≤ b) (h3 : b ≤ 9223372036854775807)
    (h : (wrap64 (a.tmod 2 + b.tmod 2) == 2) = false) (h' : (wrap64 (a.tmod 2 + b.tmod 2) == -1) = false) (h'' : (wrap64 (a.tmod 2 + b.tmod 2) == -2) = false) :
    wrap64 (wrap64 (a.tdiv 2) + wrap64 (b.tdiv 2)) = mid a b := by
  simp only [low_eq, beq_eq_false_iff_ne, ne_eq] at h h' h''
  simp only [wrap64_eq, tdiv_eq_if, tmod_eq_if, mid] at *
  split at h <;> split at h <;> simp only [*, if_true, if_false] at * <;> omega
/-- The document's half, as the walk spells it. -/
def halfRaw (a b : Int) : Int :=
  if (wrap64 (a.tmod 2 + b.tmod 2) == 2) = true then wrap64 (wrap64 (wrap64 (a.tdiv 2) + wrap64 (b.tdiv 2)) + 1)
  else if (wrap64 (a.tmod 2 + b.tmod 2) == -1) = true then wrap64 (wrap64 (wrap64 (a.tdiv 2) + wrap64 (b.tdiv 2)) - 1)
  else if (wrap64 (a.tmod 2 + b.tmod 2) == -2) = true then wrap64 (wrap64 (wrap64 (a.tdiv 2) + wrap64 (b.tdiv 2)) - 1)
  else wrap64 (wrap64 (a.tdiv 2) + wrap64 (b.tdiv 2))
theorem half_eq (a b : Int) (h0 : -9223372036854775808 ≤ a) (h1 : a ≤ 9223372036854775807) (h2 : -9223372036854775808 ≤ b) (h3 : b ≤ 9223372036854775807) : halfRaw a b = mid a b := by
  unfold halfRaw
  by_cases c : (wrap64 (a.tmod 2 + b.tmod 2) == 2) = true
  · rw [if_pos c]; exact half_two a b h0 h1 h2 h3 c
  · rw [if_neg c]
    by_cases c' : (wrap64 (a.tmod 2 + b.tmod 2) == -1) = true
    · rw [if_pos c']; exact half_neg a b h0 h1 h2 h3 (Or.inl c')
    · rw [if_neg c']
      by_cases c'' : (wrap64 (a.tmod 2 + b.tmod 2) == -2) = true
      · rw [if_pos c'']; exact half_neg a b h0 h1 h2 h3 (Or.inr c'')
      · rw [if_neg c'']; exact half_rest a b h0 h1 h2 h3 (by simpa using c) (by simpa using c') (by simpa using c'')
/-- The code's middle, as the walk spells it. -/
def midRaw (d e : Int) : Int := wrap64 (wrap64 (d / 2 + e / 2) + bits .and .i64 (bits .and .i64 d e) 1)
theorem mid_eq (d e : Int) (h0 : -9223372036854775808 ≤ d) (h1 : d ≤ 9223372036854775807) (h2 : -9223372036854775808 ≤ e) (h3 : e ≤ 9223372036854775807) : midRaw d e = mid d e := mid_code d e h0 h1 h2 h3
end Go.Proofs.Ytjdcnlggpfkopaa
