/- The law Off: the walk. -/
import Derived.Test.YtjdcnlggpfkopaaDoorKnown
namespace Go.Proofs.YtjdcnlggpfkopaaDoor
open Go.ChangeShapes Go.WideShapes Go.ChangeAt Go.RowKit
set_option linter.unusedVariables false

theorem wrapAdd (p q : Int) : IntKind.u64.wrap (IntKind.u64.wrap p + q) = IntKind.u64.wrap (p + q) := by simp only [IntKind.wrap_u64]; omega
theorem wrapAdd' (p q : Int) : IntKind.u64.wrap (p + IntKind.u64.wrap q) = IntKind.u64.wrap (p + q) := by simp only [IntKind.wrap_u64]; omega
theorem diff_wrap (p q : Int) : diff (IntKind.u64.wrap p) (IntKind.u64.wrap q) = diff p q := by simp only [diff_eq, IntKind.wrap_u64]; omega
theorem diff_wrap1 (p q : Int) : diff (IntKind.u64.wrap p) q = diff p q := by simp only [diff_eq, IntKind.wrap_u64]; omega
theorem diff_small (p q : Int) (h0 : -9223372036854775808 ≤ p - q) (h1 : p - q ≤ 9223372036854775807) : diff p q = p - q := by rw [diff_eq]; omega

section
variable (a x t s b : Int)
abbrev T2 : Int := IntKind.u64.wrap (IntKind.u64.wrap (a + t) + IntKind.u64.wrap x)
abbrev T3 : Int := IntKind.u64.wrap (IntKind.u64.wrap (IntKind.u64.wrap (a + t) + IntKind.u64.wrap x) + s)
abbrev T4 : Int := IntKind.u64.wrap (IntKind.u64.wrap (IntKind.u64.wrap (a + t) + s) + b)
theorem t2_eq : T2 a x t = IntKind.u64.wrap (a + t + x) := by unfold T2; rw [wrapAdd, wrapAdd']
theorem t3_eq : T3 a x t s = IntKind.u64.wrap (a + t + x + s) := by show IntKind.u64.wrap (T2 a x t + s) = _; rw [t2_eq, wrapAdd]
theorem t4_eq : T4 a t s b = IntKind.u64.wrap (a + t + s + b) := by unfold T4; rw [wrapAdd, Int.add_assoc (IntKind.u64.wrap (a + t)) s b, wrapAdd, ← Int.add_assoc]
theorem off_offset (hx0 : -2305843009213693952 ≤ x) (hx1 : x ≤ 2305843009213693952) (ht0 : 0 ≤ t) (ht1 : t ≤ 4294967295) (hb0 : 0 ≤ b) (hb1 : b ≤ 4294967295) :
    offsetOf a (T2 a x t) (T3 a x t s) (T4 a t s b) = x + (t - b) / 2 := by
  unfold offsetOf
  rw [t2_eq, t3_eq, t4_eq, diff_wrap1, diff_wrap, diff_small _ _ (by omega) (by omega), diff_small _ _ (by omega) (by omega)]
  unfold mid; omega
theorem off_delay (ht0 : 0 ≤ t) (ht1 : t ≤ 4294967295) (hb0 : 0 ≤ b) (hb1 : b ≤ 4294967295) (hs0 : 0 ≤ s) (hs1 : s ≤ 4294967295) :
    delayOf a (T2 a x t) (T3 a x t s) (T4 a t s b) = t + b := by
  unfold delayOf
  rw [t2_eq, t3_eq, t4_eq]
  simp only [diff_eq, IntKind.wrap_u64]; omega
end
theorem quarter (o : Int) (h0 : -9223372036854775808 ≤ o) (h1 : o ≤ 9223372036854775807) : -2305843009213693952 ≤ o.tdiv 4 ∧ o.tdiv 4 ≤ 2305843009213693952 := by
  rw [tdiv_eq_if]; split <;> omega
theorem half_no (d : Int) (h : ¬ d.tmod 2 < 0) : d / 2 = d.tdiv 2 := by
  rw [tmod_eq_if] at h; rw [tdiv_eq_if]; split at h
  · rw [if_pos ‹_›]
  · rw [if_neg ‹_›]; omega
theorem half_yes (d : Int) (h : d.tmod 2 < 0) : d / 2 = d.tdiv 2 - 1 := by
  rw [tmod_eq_if] at h; rw [tdiv_eq_if]; split at h
  · omega
  · rw [if_neg ‹_›]; omega
theorem half_bd (t b : Int) (ht0 : 0 ≤ t) (ht1 : t ≤ 4294967295) (hb0 : 0 ≤ b) (hb1 : b ≤ 4294967295) : -4294967296 ≤ (t - b).tdiv 2 ∧ (t - b).tdiv 2 ≤ 4294967296 := by
  rw [tdiv_eq_if]; split <;> omega

theorem measure_off (a o t s b h : Int) (w : World) (ho0 : -9223372036854775808 ≤ o) (ho1 : o ≤ 9223372036854775807)
    (ht0 : 0 ≤ t) (ht1 : t ≤ 4294967295) (hs0 : 0 ≤ s) (hs1 : s ≤ 4294967295) (hb0 : 0 ≤ b) (hb1 : b ≤ 4294967295) (hh : (t - b) / 2 = h) :
    Calls Tryd.prog 16 #[.int .u64 a, .int .u64 (IntKind.u64.wrap (IntKind.u64.wrap (a + t) + IntKind.u64.wrap (o.tdiv 4))), .int .u64 (IntKind.u64.wrap (IntKind.u64.wrap (IntKind.u64.wrap (a + t) + IntKind.u64.wrap (o.tdiv 4)) + s)), .int .u64 (IntKind.u64.wrap (IntKind.u64.wrap (IntKind.u64.wrap (a + t) + s) + b))] w fun e w' => e = .returned (.agg #[.int .i64 (o.tdiv 4 + h), .int .i64 (t + b)]) ∧ Below w.heap.size w w' := by
  obtain ⟨hx0, hx1⟩ := quarter o ho0 ho1
  have k := measure_any a (T2 a (o.tdiv 4) t) (T3 a (o.tdiv 4) t s) (T4 a t s b) w
  rw [off_offset a _ t s b hx0 hx1 ht0 ht1 hb0 hb1, off_delay a _ t s b ht0 ht1 hb0 hb1 hs0 hs1, hh] at k
  exact k

set_option maxHeartbeats 400000 in
theorem off_walk (a o t s b : Int) (w : World) (hZ : Zeros w) (ha0 : 0 ≤ a) (ha1 : a ≤ 18446744073709551615) (ho0 : -9223372036854775808 ≤ o) (ho1 : o ≤ 9223372036854775807)
    (ht0 : 0 ≤ t) (ht1 : t ≤ 4294967295) (hs0 : 0 ≤ s) (hs1 : s ≤ 4294967295) (hb0 : 0 ≤ b) (hb1 : b ≤ 4294967295) :
    Calls Tryd.prog 6 #[.int .u64 a, .int .i64 o, .int .u32 t, .int .u32 s, .int .u32 b] w fun e w' => e = .returned (.bool true) ∧ Below w.heap.size w w' := by
  obtain ⟨hq0, hq1⟩ := half_bd t b ht0 ht1 hb0 hb1
  obtain ⟨hx0, hx1⟩ := quarter o ho0 ho1
  by_cases hneg : (t - b).tmod 2 < 0
  · have HH : Hid ((t - b) / 2 = (t - b).tdiv 2 - 1) := half_yes _ hneg
    go_enter Tryd.func6, Tryd.ntmps6
    go_wp2_with fail
    refine (known_any _ hZ).mono ?_
    rintro e w1 ⟨rfl, hB1⟩
    go_wp2_with fail
    refine (measure_off a o t s b _ _ ho0 ho1 ht0 ht1 hs0 hs1 hb0 hb1 HH.out).mono ?_
    rintro e w2 ⟨rfl, hB2⟩
    have hB : Below w.heap.size w w2 := hB1.trans (hB2.mono hB1.size)
    have hsz := hB.size
    go_wp2
    go_ret
    exact ⟨rfl, hB.alloc hsz _⟩
  · have HH : Hid ((t - b) / 2 = (t - b).tdiv 2) := half_no _ hneg
    go_enter Tryd.func6, Tryd.ntmps6
    go_wp2_with fail
    refine (known_any _ hZ).mono ?_
    rintro e w1 ⟨rfl, hB1⟩
    go_wp2_with fail
    refine (measure_off a o t s b _ _ ho0 ho1 ht0 ht1 hs0 hs1 hb0 hb1 HH.out).mono ?_
    rintro e w2 ⟨rfl, hB2⟩
    have hB : Below w.heap.size w w2 := hB1.trans (hB2.mono hB1.size)
    have hsz := hB.size
    go_wp2
    go_ret
    exact ⟨rfl, hB.alloc hsz _⟩
end Go.Proofs.YtjdcnlggpfkopaaDoor
