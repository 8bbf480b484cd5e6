/- Floats: the weights, the sums and the mean of Combine. -/
import Derived.Test.YtjdcnlggpfkopaaFmB
namespace Go.Proofs.Ytjdcnlggpfkopaa
set_option linter.unusedVariables false

theorem one_word : Ieee.double.word false (1023 * 4503599627370496) = 4607182418800017408 := by decide +kernel
theorem pow61 : (2 : Nat) ^ 61 = 2305843009213693952 := by decide
theorem val_at (r j e : Nat) (h : r = (j + 1) * 4503599627370496) (he : e = j + 52) : val r = 2 ^ e := by
  rw [h, he, val_pow]
theorem ofInt_word (n : Int) (h : n.natAbs ≤ 2305843009213693952) : ∃ r, floatOfInt .f64 n = Ieee.double.word (decide (n < 0)) r ∧ r ≤ 1084 * 4503599627370496 := by
  obtain ⟨E, hE⟩ : ∃ E : Nat, E = 1074 := ⟨_, rfl⟩
  refine ⟨_, nearest_rnd (decide (n < 0)) n.natAbs 0 E 0 (by omega), ?_⟩
  refine Nat.le_trans (Nat.min_le_left _ _) ?_
  refine Nat.le_trans (rnd_le _ (9 + E) 0 ?_) (by omega)
  rw [show 9 + E + 52 + 0 = 61 + E by omega, Nat.pow_add]
  refine Nat.mul_le_mul_right _ ?_
  rw [pow61]; exact h
/-- The weight of a clock that may be so far off. -/
def weightBits (far : Int) : Nat := ((Ieee.double.add (floatOfInt .f64 far) 4607182418800017408).bind fun b => Ieee.double.div 4607182418800017408 b).getD 0
theorem word_pos (r : Nat) : Ieee.double.word false r = r := rfl
theorem pow_up (x a b e : Nat) (h : x ≤ 2 ^ a) (hab : a ≤ b) (he : b + 1 = e) : x + 2 ^ b ≤ 2 ^ e := by
  subst he
  have := Nat.pow_le_pow_right (show 0 < 2 by decide) hab
  rw [Nat.pow_succ]
  omega
theorem weight_ok (far : Int) (h0 : 0 ≤ far) (h1 : far ≤ 2305843009213693952) :
    ∃ b, Ieee.double.add (floatOfInt .f64 far) 4607182418800017408 = some b ∧ Ieee.double.div 4607182418800017408 b = some (weightBits far) ∧ 961 * 4503599627370496 ≤ weightBits far ∧ weightBits far ≤ 1023 * 4503599627370496 := by
  obtain ⟨E, hE⟩ : ∃ E : Nat, E = 1074 := ⟨_, rfl⟩
  obtain ⟨r, hr, hrl⟩ := ofInt_word far (by omega)
  rw [show decide (far < 0) = false by simp; omega] at hr
  obtain ⟨neg, n, e1, e2, e3⟩ := add_val false false r (1023 * 4503599627370496) (by omega) (by omega)
  obtain ⟨e4, rfl⟩ := e3 rfl rfl
  rw [one_word, ← hr] at e1
  have v1 : val (1023 * 4503599627370496) = 2 ^ E := val_at _ 1022 E (by omega) (by omega)
  have v2 : val r ≤ 2 ^ (E + 61) := by
    have := val_mono hrl
    rwa [val_at (1084 * 4503599627370496) 1083 (E + 61) (by omega) (by omega)] at this
  rw [v1] at e4
  have n1 : n ≤ 2 ^ (10 + E + 52 + 0) := by
    rw [e4, Nat.add_comm]
    exact Nat.le_trans (Nat.add_le_add_left v2 _) (pow_up (2 ^ E) E (E + 61) _ (Nat.le_refl _) (by omega) (by omega))
  have n2 : 2 ^ (E - 52 + 52 + 0) ≤ n := by
    rw [e4, show E - 52 + 52 + 0 = E by omega]
    exact Nat.le_add_left _ _
  have b1 := rnd_le _ _ _ n1
  have b2 := rnd_ge _ _ _ n2
  have hmin : min (rnd n 0) 9218868437227405312 = rnd n 0 := Nat.min_eq_left (by omega)
  rw [hmin, word_pos] at e1
  generalize rnd n 0 = b at *
  have vb1 : val b ≤ 2 ^ 62 * 2 ^ E := by
    have := val_mono b1
    rwa [val_at ((10 + E + 1) * 4503599627370496) (10 + E) (62 + E) (by omega) (by omega), Nat.pow_add] at this
  have vb2 : 2 ^ E ≤ val b := by
    have := val_mono b2
    rwa [val_at ((E - 52 + 1) * 4503599627370496) (E - 52) E (by omega) (by omega)] at this
  have hp := Nat.two_pow_pos E
  obtain ⟨k, l0, d1, d2, d3⟩ := div_val false false (1023 * 4503599627370496) b (by omega) (by omega) (by
    generalize (2 : Nat) ^ E = x at *
    omega)
  rw [one_word, word_pos] at d1
  rw [v1] at d2 d3
  have k1 : k ≤ 2 ^ (1022 + 52 + l0) := by
    have := d2 0 (by rw [Nat.pow_zero, Nat.one_mul]; exact vb2)
    rwa [show 0 + 1074 + l0 = 1022 + 52 + l0 by omega] at this
  have k2 : 2 ^ (960 + 52 + l0) ≤ k := by
    have := d3 62 vb1
    rw [show 1074 + l0 = 960 + 52 + l0 + 62 by omega, Nat.pow_add] at this
    exact Nat.le_of_mul_le_mul_right this (Nat.two_pow_pos 62)
  have c1 := rnd_le _ _ _ k1
  have c2 := rnd_ge _ _ _ k2
  have hmin2 : min (rnd k l0) 9218868437227405312 = rnd k l0 := Nat.min_eq_left (by omega)
  rw [hmin2, show (false ^^ false) = false from rfl, word_pos] at d1
  have hw : weightBits far = rnd k l0 := by
    unfold weightBits
    rw [e1, Option.bind_some, d1, Option.getD_some]
  refine ⟨b, e1, by rw [hw]; exact d1, by rw [hw]; omega, by rw [hw]; omega⟩
/-- What a clock says, weighed. -/
def prodBits (far mid : Int) : Nat := (Ieee.double.mul (weightBits far) (floatOfInt .f64 mid)).getD 0
theorem prod_ok (far mid : Int) (h0 : 0 ≤ far) (h1 : far ≤ 2305843009213693952) (hm : mid.natAbs ≤ 2305843009213693952) :
    Ieee.double.mul (weightBits far) (floatOfInt .f64 mid) = some (prodBits far mid) ∧ ∃ neg x, prodBits far mid = Ieee.double.word neg x ∧ x ≤ weightBits far + 61 * 4503599627370496 := by
  obtain ⟨_, _, _, w1, w2⟩ := weight_ok far h0 h1
  obtain ⟨r, hr, hrl⟩ := ofInt_word mid hm
  have e := mul_val false (decide (mid < 0)) (weightBits far) r (by omega) (by omega)
  rw [word_pos, ← hr] at e
  have hp : prodBits far mid = Ieee.double.word (false ^^ decide (mid < 0)) (min (rnd (val (weightBits far) * val r) 1074) 9218868437227405312) := by
    unfold prodBits; rw [e, Option.getD_some]
  refine ⟨by rw [hp]; exact e, _, _, hp, Nat.le_trans (Nat.min_le_left _ _) ?_⟩
  obtain ⟨E, hE⟩ : ∃ E : Nat, 1074 = E := ⟨_, rfl⟩
  rw [hE]
  have v2 : val r ≤ 2 ^ 61 * 2 ^ E := by
    have := val_mono hrl
    rwa [val_at (1084 * 4503599627370496) 1083 (61 + E) (by omega) (by omega), Nat.pow_add] at this
  have h3 : val (weightBits far) * val r ≤ val (weightBits far + 61 * 4503599627370496) * 2 ^ E := by
    rw [val_scale _ 61 (by omega)]
    have := Nat.mul_le_mul_left (val (weightBits far)) v2
    rwa [← Nat.mul_assoc, Nat.mul_comm (val (weightBits far)) (2 ^ 61)] at this
  have h4 := rnd_mono _ _ E h3
  rwa [rnd_val] at h4
/-- The sum of k weights and that of k products. -/
structure Sums (k W P : Nat) : Prop where
  up : W ≤ (1023 + k) * 4503599627370496
  low : 0 < k → 961 * 4503599627370496 ≤ W
  prod : ∃ neg r, P = Ieee.double.word neg r ∧ val r ≤ 2 ^ 61 * val W
theorem Sums.prod_lt {k W P : Nat} (h : Sums k W P) (hk : k ≤ 100) {r : Nat} (hr : val r ≤ 2 ^ 61 * val W) : r ≤ (1084 + k) * 4503599627370496 := by
  refine le_of_val (Nat.le_trans hr ?_)
  rw [show (1084 + k) * 4503599627370496 = (1023 + k) * 4503599627370496 + 61 * 4503599627370496 by omega, val_scale _ 61 (by omega)]
  exact Nat.mul_le_mul_left _ (val_mono h.up)
theorem sums_zero : Sums 0 0 0 := ⟨by omega, by omega, false, 0, rfl, by unfold val; simp⟩
theorem up_of {E k y : Nat} (hE : E = 1074) (h : y ≤ (E - 51 + k + 1) * 4503599627370496) : y ≤ (1023 + (k + 1)) * 4503599627370496 := by
  rw [hE] at h; exact h
theorem low_of {E y : Nat} (hE : E = 1074) (h : (E - 114 + 1) * 4503599627370496 ≤ y) : 961 * 4503599627370496 ≤ y := by
  rw [hE] at h; exact h
theorem sums_step {k W P w x : Nat} {neg : Bool} (h : Sums k W P) (hk : k ≤ 99) (w1 : 961 * 4503599627370496 ≤ w) (w2 : w ≤ 1023 * 4503599627370496) (hx : x ≤ w + 61 * 4503599627370496) :
    ∃ W' P', Ieee.double.add W w = some W' ∧ Ieee.double.add P (Ieee.double.word neg x) = some P' ∧ Sums (k + 1) W' P' := by
  obtain ⟨s, r, rfl, hr⟩ := h.prod
  have hrl := h.prod_lt (by omega) hr
  have hup := h.up
  obtain ⟨E, hE⟩ : ∃ E : Nat, E = 1074 := ⟨_, rfl⟩
  obtain ⟨n1, nw, a1, a2, a3⟩ := add_val false false W w (by omega) (by omega)
  obtain ⟨a4, rfl⟩ := a3 rfl rfl
  obtain ⟨n2, np, b1, b2, _⟩ := add_val s neg r x (by omega) (by omega)
  have vW : val W ≤ 2 ^ (E + k) := by
    have := val_mono hup
    rwa [val_at ((1023 + k) * 4503599627370496) (1022 + k) (E + k) (by omega) (by omega)] at this
  have vw : val w ≤ 2 ^ E := by
    have := val_mono w2
    rwa [val_at (1023 * 4503599627370496) 1022 E (by omega) (by omega)] at this
  have vw2 : 2 ^ (E - 62) ≤ val w := by
    have := val_mono w1
    rwa [val_at (961 * 4503599627370496) 960 (E - 62) (by omega) (by omega)] at this
  have q1 : nw ≤ 2 ^ (E - 51 + k + 52 + 0) := by
    rw [a4, Nat.add_comm]
    have := pow_up (val w) E (E + k) (E - 51 + k + 52 + 0) vw (by omega) (by omega)
    exact Nat.le_trans (Nat.add_le_add_left vW _) this
  have q2 : 2 ^ (E - 114 + 52 + 0) ≤ nw := by
    rw [a4, show E - 114 + 52 + 0 = E - 62 by omega]
    exact Nat.le_trans vw2 (Nat.le_add_left _ _)
  have c1 := rnd_le _ _ _ q1
  have c2 := rnd_ge _ _ _ q2
  have hlog : 52 + 0 ≤ nw.log2 := by
    have := log2_mono q2
    rw [log2_pow] at this
    omega
  have hmin : min (rnd nw 0) 9218868437227405312 = rnd nw 0 := Nat.min_eq_left (by omega)
  rw [hmin, word_pos, word_pos, word_pos] at a1
  have vx : val x ≤ 2 ^ 61 * val w := by
    have := val_mono hx
    rwa [val_scale _ 61 (by omega)] at this
  have q3 : np ≤ nw * 2 ^ 61 := by
    rw [a4, Nat.mul_comm, Nat.mul_add]
    exact Nat.le_trans b2 (Nat.add_le_add hr vx)
  have q4 := rnd_mono _ _ 0 q3
  rw [rnd_scale _ _ _ hlog] at q4
  have q5 := val_mono (Nat.le_trans (Nat.min_le_left _ 9218868437227405312) q4)
  clear q4 hmin
  generalize min (rnd np 0) 9218868437227405312 = z at q5 b1
  generalize rnd nw 0 = y at *
  have u0 : 4503599627370496 ≤ y := Nat.le_trans (by decide) (low_of hE c2)
  have q6 := val_scale y 61 u0
  have u1 : y ≤ (1023 + (k + 1)) * 4503599627370496 := up_of hE c1
  have u2 : 961 * 4503599627370496 ≤ y := low_of hE c2
  exact ⟨y, _, a1, b1, u1, fun _ => u2, n2, z, rfl, Nat.le_trans q5 (Nat.le_of_eq q6)⟩
theorem mean_end {k W P : Nat} (h : Sums k W P) (h0 : 0 < k) (hk : k ≤ 99) : ∃ z n, Ieee.double.div P W = some z ∧ floatToIntVal .f64 z .i64 = some n := by
  obtain ⟨s, r, rfl, hr⟩ := h.prod
  have hrl := h.prod_lt (by omega) hr
  have hup := h.up
  have hlow := h.low h0
  obtain ⟨E, hE⟩ : ∃ E : Nat, 1074 = E := ⟨_, rfl⟩
  have hW : 2 ^ (E - 62) ≤ val W := by
    have := val_mono hlow
    rwa [val_at (961 * 4503599627370496) 960 (E - 62) (by omega) (by omega)] at this
  have hp := Nat.two_pow_pos (E - 62)
  obtain ⟨n, l0, d1, d2, _⟩ := div_val s false r W (by omega) (by omega) (by
    generalize (2 : Nat) ^ (E - 62) = x at *
    omega)
  have n1 : n ≤ 2 ^ (1083 + 52 + l0) := by
    have := d2 61 hr
    rwa [show 61 + 1074 + l0 = 1083 + 52 + l0 by omega] at this
  have c1 := Nat.le_trans (Nat.min_le_left _ 9218868437227405312) (rnd_le _ _ _ n1)
  rw [word_pos] at d1
  generalize min (rnd n l0) 9218868437227405312 = q at *
  obtain ⟨m, a, m1, m2, m3⟩ := read_val (s ^^ false) q (by omega)
  have v2 : val q ≤ 2 ^ 61 * 2 ^ E := by
    have := val_mono c1
    rwa [val_at ((1083 + 1) * 4503599627370496) 1083 (61 + E) (by omega) (by omega), Nat.pow_add] at this
  refine ⟨Ieee.double.word (s ^^ false) q, ?_⟩
  unfold floatToIntVal FloatKind.decode FloatKind.format
  suffices hs : ∃ i, (Ieee.double.read (Ieee.double.word (s ^^ false) q)).toInt .zero = some i ∧ IntKind.i64.min ≤ i ∧ i ≤ IntKind.i64.max by
    obtain ⟨i, hi, h1, h2⟩ := hs
    refine ⟨i, d1, ?_⟩
    simp only [hi, h1, h2, and_self, if_true]
  rw [m1]
  unfold Ieee.Datum.toInt Ieee.Datum.integral
  refine ⟨_, rfl, ?_⟩
  have hc : Ieee.Toward.zero.cut (s ^^ false) (m <<< (-1074 + (a : Int)).toNat) (-(-1074 + (a : Int))).toNat ≤ m * 2 ^ (a - 1074) := by
    unfold Ieee.Toward.cut
    simp only [Bool.toNat_false, Nat.add_zero]
    rw [Nat.shiftLeft_eq, show (-1074 + (a : Int)).toNat = a - 1074 by omega]
    exact Nat.div_le_self _ _
  have hb : m * 2 ^ (a - 1074) ≤ 2305843009213693952 := by
    rcases Nat.lt_or_ge a 1074 with hlt | hge
    · rw [show a - 1074 = 0 by omega, Nat.pow_zero, Nat.mul_one]; omega
    · rw [← pow61]
      rw [hE] at hge ⊢
      refine Nat.le_of_mul_le_mul_right (c := 2 ^ E) ?_ (Nat.two_pow_pos E)
      rw [pow_split m a E hge, m2]; exact v2
  generalize Ieee.Toward.zero.cut (s ^^ false) (m <<< (-1074 + (a : Int)).toNat) (-(-1074 + (a : Int))).toNat = c at *
  have i1 : IntKind.i64.min = -9223372036854775808 := by decide
  have i2 : IntKind.i64.max = 9223372036854775807 := by decide
  have hc2 : c ≤ 2305843009213693952 := Nat.le_trans hc hb
  have hz : c <<< 0 = c := rfl
  rw [i1, i2]
  clear hc hb i1 i2 m1 d1 v2 m2 hW hp hr h hup hlow hrl c1
  unfold Ieee.signed
  rw [hz]
  split
  · omega
  · omega
def sumW (fa : Nat → Int) : Nat → Nat
  | 0 => 0
  | k + 1 => (Ieee.double.add (sumW fa k) (weightBits (fa k))).getD 0
def sumP (md fa : Nat → Int) : Nat → Nat
  | 0 => 0
  | k + 1 => (Ieee.double.add (sumP md fa k) (prodBits (fa k) (md k))).getD 0
/-- Clocks whose numbers lie in their bounds. -/
def Fine (md fa : Nat → Int) (n : Nat) : Prop := ∀ j, j < n → 0 ≤ fa j ∧ fa j ≤ 2305843009213693952 ∧ (md j).natAbs ≤ 2305843009213693952
theorem sums_both (md fa : Nat → Int) (n : Nat) (hf : Fine md fa n) : ∀ k, k ≤ n → k ≤ 99 → Sums k (sumW fa k) (sumP md fa k) ∧ (k < n → Ieee.double.add (sumW fa k) (weightBits (fa k)) = some (sumW fa (k + 1)) ∧ Ieee.double.add (sumP md fa k) (prodBits (fa k) (md k)) = some (sumP md fa (k + 1)))
  | 0, h1, h2 => ⟨sums_zero, fun hlt => by
    obtain ⟨f1, f2, f3⟩ := hf 0 hlt
    obtain ⟨_, _, _, w1, w2⟩ := weight_ok (fa 0) f1 f2
    obtain ⟨_, neg, x, e, hx⟩ := prod_ok (fa 0) (md 0) f1 f2 f3
    obtain ⟨W', P', a1, a2, _⟩ := sums_step (neg := neg) sums_zero (by omega) w1 w2 hx
    rw [← e] at a2
    unfold sumW sumP
    rw [show sumW fa 0 = 0 from rfl, show sumP md fa 0 = 0 from rfl, a1, a2, Option.getD_some, Option.getD_some]
    exact ⟨rfl, rfl⟩⟩
  | k + 1, h1, h2 => by
    obtain ⟨hS, hn⟩ := sums_both md fa n hf k (by omega) (by omega)
    obtain ⟨f1, f2, f3⟩ := hf k (by omega)
    obtain ⟨_, _, _, w1, w2⟩ := weight_ok (fa k) f1 f2
    obtain ⟨_, neg, x, e, hx⟩ := prod_ok (fa k) (md k) f1 f2 f3
    obtain ⟨W', P', a1, a2, hS'⟩ := sums_step (neg := neg) hS (by omega) w1 w2 hx
    rw [← e] at a2
    obtain ⟨n1, n2⟩ := hn (by omega)
    rw [a1] at n1
    rw [a2] at n2
    have hS2 : Sums (k + 1) (sumW fa (k + 1)) (sumP md fa (k + 1)) := by
      rw [← Option.some.inj n1, ← Option.some.inj n2]; exact hS'
    refine ⟨hS2, fun hlt => ?_⟩
    obtain ⟨f1, f2, f3⟩ := hf (k + 1) hlt
    obtain ⟨_, _, _, w1, w2⟩ := weight_ok (fa (k + 1)) f1 f2
    obtain ⟨_, neg, x, e, hx⟩ := prod_ok (fa (k + 1)) (md (k + 1)) f1 f2 f3
    obtain ⟨W', P', a1, a2, _⟩ := sums_step (neg := neg) hS2 (by omega) w1 w2 hx
    rw [← e] at a2
    rw [a1, a2]
    exact ⟨by show _ = some (Option.getD (Ieee.double.add (sumW fa (k + 1)) (weightBits (fa (k + 1)))) 0); rw [a1, Option.getD_some], by show _ = some (Option.getD (Ieee.double.add (sumP md fa (k + 1)) (prodBits (fa (k + 1)) (md (k + 1)))) 0); rw [a2, Option.getD_some]⟩
/-- What the clocks say together. -/
def meanBits (md fa : Nat → Int) (n : Nat) : Nat := (Ieee.double.div (sumP md fa n) (sumW fa n)).getD 0
def meanOf (md fa : Nat → Int) (n : Nat) : Int := (floatToIntVal .f64 (meanBits md fa n) .i64).getD 0
theorem mean_ok (md fa : Nat → Int) (n : Nat) (hf : Fine md fa n) (h0 : 0 < n) (hn : n ≤ 99) : Ieee.double.div (sumP md fa n) (sumW fa n) = some (meanBits md fa n) ∧ floatToIntVal .f64 (meanBits md fa n) .i64 = some (meanOf md fa n) := by
  obtain ⟨hS, _⟩ := sums_both md fa n hf n (Nat.le_refl _) hn
  obtain ⟨z, i, d1, d2⟩ := mean_end hS h0 hn
  have hz : meanBits md fa n = z := by unfold meanBits; rw [d1, Option.getD_some]
  unfold meanOf
  rw [hz, d2, Option.getD_some]
  exact ⟨d1, rfl⟩
end Go.Proofs.Ytjdcnlggpfkopaa
