/- The landed clock: how far it goes, what it tells. -/
import Derived.Test.YtjdcnlggpfkopabDoorClk
namespace Go.Proofs.YtjdcnlggpfkopabDoor
open Go.ChangeShapes Go.WideShapes Go.ChangeAt Go.RowKit
set_option linter.unusedVariables false

theorem hid_here {P : Prop} (h : P) : Hid P := h
theorem wrap_mod (z : Int) : IntKind.u64.wrap z = z % 18446744073709551616 := by rw [IntKind.wrap_u64]
set_option maxHeartbeats 400000 in
theorem mul_any (x y : Int) (w : World) (h0 : 0 ≤ x) (h1 : x < 18446744073709551616) (h2 : 0 ≤ y) (h3 : y < 18446744073709551616) :
    Calls Tryd.prog 72 #[.int .u64 x, .int .u64 y] w fun e w' => e = .returned (.tuple #[.int .u64 (x * y / 18446744073709551616), .int .u64 (x * y % 18446744073709551616)]) ∧ w' = w := by
  have ha := and_low32 x h0 h1
  have hb := and_low32 y h2 h3
  have hc : ∀ z : Int, bits .and .u64 (z % 18446744073709551616) 4294967295 = z % 18446744073709551616 % 4294967296 := fun z => and_low32 _ (by omega) (by omega)
  go_enter Tryd.func72, Tryd.ntmps72
  go_wp2
  go_ret2
  refine ⟨ret_two ?_ (wrap_mod _), rfl⟩
  simp only [wrap_mod, hc]
  exact mul64_arith x y h0 h1 h2 h3
theorem or_far (a b : Int) (ha : 0 ≤ a) (ha1 : a < 1048576) (hb : 0 ≤ b) (hb1 : b < 17592186044416) : bits .or .u64 (a * 17592186044416) b = a * 17592186044416 + b := by
  obtain ⟨m, rfl⟩ := Int.eq_ofNat_of_zero_le ha
  obtain ⟨n, rfl⟩ := Int.eq_ofNat_of_zero_le hb
  have e : ((m : Int) * 17592186044416) = ((m * 17592186044416 : Nat) : Int) := by omega
  rw [e, u64_or_nat _ _ (by omega) (by omega), nat_join 44 (m * 17592186044416) n (by show m * 17592186044416 % 17592186044416 = 0; omega) (by show n < 17592186044416; omega)]
  omega
/-- How far, at most the greatest there is. -/
def farOf (d r : Int) : Int := min (goes d r) 18446744073709551615
theorem far_great (d r : Int) (h : 1048576 ≤ d * (1048576 + r) / 18446744073709551616) : farOf d r = 18446744073709551615 := by
  unfold farOf
  rw [goes_eq]
  generalize d * (1048576 + r) = p at *
  omega
theorem far_small (d r : Int) (h : ¬ 1048576 ≤ d * (1048576 + r) / 18446744073709551616) (h0 : 0 ≤ d * (1048576 + r)) :
    bits .or .u64 (d * (1048576 + r) / 18446744073709551616 * 17592186044416) (d * (1048576 + r) % 18446744073709551616 / 1048576) = farOf d r := by
  unfold farOf
  rw [goes_eq]
  generalize d * (1048576 + r) = p at *
  rw [or_far _ _ (by omega) (by omega) (by omega) (by omega)]
  omega
set_option maxHeartbeats 400000 in
theorem stretched_any (d r : Int) (w : World) (h0 : 0 ≤ d) (h1 : d ≤ 18446744073709551615) (r0 : -1000 ≤ r) (r1 : r ≤ 1000) :
    Calls Tryd.prog 48 #[.int .u64 d, .int .i64 r] w fun e w' => e = .returned (.int .u64 (farOf d r)) ∧ w' = w := by
  obtain ⟨p, hP⟩ : ∃ p, d * (1048576 + r) = p := ⟨_, rfl⟩
  have HM := hid_here (mul_any d (1048576 + r) w h0 (by omega) (by omega) (by omega))
  rw [hP] at HM
  have hp : 0 ≤ d * (1048576 + r) := Int.mul_nonneg h0 (by omega)
  have hwr : IntKind.i64.wrap (1048576 + r) = 1048576 + r := by rw [IntKind.wrap_i64]; omega
  have hwr2 : IntKind.u64.wrap (1048576 + r) = 1048576 + r := by rw [IntKind.wrap_u64]; omega
  have fg := far_great d r
  have fs := far_small d r
  rw [hP] at hp fg fs
  clear hP
  by_cases hh : 1048576 ≤ p / 18446744073709551616
  · have e := fg hh
    go_enter Tryd.func48, Tryd.ntmps48
    go_wp2_with (go_at_call 72; refine HM.out.mono ?_; rintro q w1 ⟨rfl, rfl⟩)
    go_ret
    rw [e]
    exact ⟨rfl, rfl⟩
  · have e := fs hh hp
    have hs : IntKind.u64.wrap (p / 18446744073709551616 * 17592186044416) = p / 18446744073709551616 * 17592186044416 := by rw [IntKind.wrap_u64]; omega
    go_enter Tryd.func48, Tryd.ntmps48
    go_wp2_with (go_at_call 72; refine HM.out.mono ?_; rintro q w1 ⟨rfl, rfl⟩)
    go_ret
    exact ⟨rfl, rfl⟩
theorem add64_any (x y : Int) (hx : 0 ≤ x) (hy : 0 ≤ y) (W : World) : (callFunc 47 #[.int .u64 x, .int .u64 y, .int .u64 0]).run Tryd.prog W = .ok (.value (.tuple #[.int .u64 ((x + y) % 18446744073709551616), .int .u64 ((x + y) / 18446744073709551616)])) W := by
  rw [run_callFunc_extern Tryd.func47 (by kernel_rfl) (by kernel_rfl) (by kernel_rfl) (e := add64Entry) (by kernel_rfl), run_add64 x y 0 hx hy (by omega) (by omega)]
  simp [Result.andThen]
theorem told_far (cnt tm rt c : Int) (h : cnt < c) (t0 : 0 ≤ tm) (t1 : tm ≤ 18446744073709551615) (r0 : -1000 ≤ rt) :
    0 ≤ farOf (c - cnt) rt ∧ ((tm + farOf (c - cnt) rt) / 18446744073709551616 ≠ 0 → toldAt cnt tm rt c = 18446744073709551615) ∧ ((tm + farOf (c - cnt) rt) / 18446744073709551616 = 0 → toldAt cnt tm rt c = (tm + farOf (c - cnt) rt) % 18446744073709551616) := by
  have hg := goes_nonneg (c - cnt) rt (by omega) r0
  unfold toldAt farOf
  rw [if_pos h]
  refine ⟨by omega, fun h => by omega, fun h => by omega⟩
set_option maxRecDepth 100000 in
set_option maxHeartbeats 800000 in
theorem tell_told (cnt tm rt c : Int) (w : World) (c0 : 0 ≤ cnt) (c1 : cnt ≤ 18446744073709551615) (t0 : 0 ≤ tm) (t1 : tm ≤ 18446744073709551615) (r0 : -1000 ≤ rt) (r1 : rt ≤ 1000) (x0 : 0 ≤ c) (x1 : c ≤ 18446744073709551615) :
    Calls Tryd.prog 30 #[.agg #[.int .u64 cnt, .int .u64 tm, .int .i64 rt], .int .u64 c] w fun e w' => e = .returned (.int .u64 (toldAt cnt tm rt c)) ∧ Below w.heap.size w w' := by
  by_cases hle : c ≤ cnt
  · have e := told_at cnt tm rt c hle t1
    go_enter Tryd.func30, Tryd.ntmps30
    go_wp2
    go_ret
    rw [e]
    exact ⟨rfl, (Below.refl _ _).alloc (Nat.le_refl _) _⟩
  · have hf := told_far cnt tm rt c (by omega) t0 t1 r0
    have hsub : IntKind.u64.wrap (c - cnt) = c - cnt := by rw [IntKind.wrap_u64]; omega
    have HS : Hid (∀ W : World, Calls Tryd.prog 48 #[.int .u64 (c - cnt), .int .i64 rt] W fun e w' => e = .returned (.int .u64 (farOf (c - cnt) rt)) ∧ w' = W) := hid_here fun W => stretched_any (c - cnt) rt W (by omega) (by omega) r0 r1
    generalize farOf (c - cnt) rt = F at hf HS
    have HA : Hid (∀ W : World, (callFunc 47 #[.int .u64 tm, .int .u64 F, .int .u64 0]).run Tryd.prog W = .ok (.value (.tuple #[.int .u64 ((tm + F) % 18446744073709551616), .int .u64 ((tm + F) / 18446744073709551616)])) W) := hid_here fun W => add64_any tm F t0 hf.1 W
    go_enter Tryd.func30, Tryd.ntmps30
    go_wp2
    refine region_stillS (by kernel_rfl) (by kernel_rfl) ?_
    repeat (apply StillS.step; intro K hK; constructor; go_simp; apply hK; clear hK K)
    apply StillS.step
    intro K hK
    constructor
    go_simp
    refine ⟨_, HS.out _, ?_⟩
    apply hK
    clear hK K
    apply StillS.step
    intro K hK
    constructor
    have ha := HA.out (w.alloc (.cells #[.int .u64 cnt, .int .u64 tm, .int .i64 rt] 74)).drew
    go_simp
    apply hK
    clear hK K ha
    repeat (apply StillS.step; intro K hK; constructor; go_simp; apply hK; clear hK K)
    apply StillS.nil
    obtain ⟨f0, f1, f2⟩ := hf
    generalize (tm + F) % 18446744073709551616 = S at *
    generalize (tm + F) / 18446744073709551616 = C at *
    by_cases hC : C = 0
    · have e := f2 hC
      subst hC
      clear f1 f2
      go_wp2
      go_ret
      rw [e]
      exact ⟨rfl, ((Below.refl _ _).alloc (Nat.le_refl _) _).drew⟩
    · have e := f1 hC
      have hC' : (C != 0) = true := by simpa using hC
      clear f1 f2
      go_wp2
      go_ret
      rw [e]
      exact ⟨rfl, ((Below.refl _ _).alloc (Nat.le_refl _) _).drew⟩
end Go.Proofs.YtjdcnlggpfkopabDoor
