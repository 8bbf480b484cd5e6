/- The parts of a decimal fraction: the code's, by a product of 128 bits. -/
import Derived.Test.YtjdcnlggpfkopaaDoorFig
import Derived.Laws.MathBits
import Derived.Deep.QuietTactic
import Derived.BigQuiet
namespace Go.Proofs.YtjdcnlggpfkopaaDoor
open Go.ChangeShapes Go.WideShapes Go.ChangeAt Go.RowKit
set_option linter.unusedVariables false

theorem or_join (a b : Nat) (ha : a < 1099511627776) (hb : b < 16777216) : bits .or .u64 ((a : Int) * 16777216) (b : Int) = (a : Int) * 16777216 + (b : Int) := by
  have e : ((a : Int) * 16777216) = ((a * 16777216 : Nat) : Int) := by omega
  rw [e, u64_or_nat _ _ (by omega) (by omega), nat_join 24 (a * 16777216) b (by show a * 16777216 % 16777216 = 0; omega) (by show b < 16777216; exact hb)]
  omega

theorem ret_int {k : IntKind} {a b : Int} (h : a = b) : Ending.returned (.int k a) = .returned (.int k b) := by rw [h]
theorem ret_two {k k' : IntKind} {a b c d : Int} (h : a = b) (h' : c = d) : Ending.returned (.tuple #[.int k a, .int k' c]) = .returned (.tuple #[.int k b, .int k' d]) := by rw [h, h']
theorem mul_hi (x : Int) (_h0 : 0 ≤ x) (_h1 : x < 1000000000000) : IntKind.u64.wrap (x / 4294967296 + x % 4294967296 / 4294967296) = x / 4294967296 := by rw [IntKind.wrap_u64]; omega
theorem mul_lo (x : Int) : IntKind.u64.wrap (x * 4294967296) = x % 4294967296 * 4294967296 := by rw [IntKind.wrap_u64]; omega

set_option maxHeartbeats 400000 in
theorem mul_second (x : Int) (w : World) (h0 : 0 ≤ x) (h1 : x < 1000000000000) :
    Calls Tryd.prog 64 #[.int .u64 x, .int .u64 4294967296] w fun e w' => e = .returned (.tuple #[.int .u64 (x / 4294967296), .int .u64 (x % 4294967296 * 4294967296)]) ∧ w' = w := by
  have ha := and_low32 x h0 (by omega)
  have hb : bits .and .u64 4294967296 4294967295 = 0 := and_low32 4294967296 (by omega) (by omega)
  have hc : bits .and .u64 0 4294967295 = 0 := and_low32 0 (by omega) (by omega)
  go_enter Tryd.func64, Tryd.ntmps64
  go_wp2
  go_ret2
  exact ⟨ret_two (by omega) (mul_lo x), rfl⟩

theorem len_tab : wrap64 (64 - wrap64 (32 + wrap64 8)) = 24 := by simp only [wrap64]; decide
set_option maxRecDepth 100000 in
theorem len_const (w : World) :
    Calls Tryd.prog 72 #[.int .u64 1000000000000] w fun e w' => e = .returned (.int .i64 24) ∧ w' = w := by
  go_enter Tryd.func72, Tryd.ntmps72
  go_wp2
  go_ret
  exact ⟨ret_int len_tab, rfl⟩

theorem d_or (x : Int) (h0 : 0 ≤ x) (h1 : x < 1000000000000) : bits .or .u64 (x / 4294967296 * 16777216) (x % 4294967296 * 4294967296 / 1099511627776) = x / 256 := by
  obtain ⟨n, rfl⟩ := Int.eq_ofNat_of_zero_le h0
  have e1 : ((n : Int) / 4294967296 * 16777216) = ((n / 4294967296 : Nat) : Int) * 16777216 := by omega
  have e2 : ((n : Int) % 4294967296 * 4294967296 / 1099511627776) = ((n % 4294967296 / 256 : Nat) : Int) := by omega
  rw [e1, e2, or_join _ _ (by omega) (by omega)]
  omega
theorem d_wrap (x : Int) (_h0 : 0 ≤ x) : IntKind.u64.wrap (x % 4294967296 * 4294967296 * 16777216) = x % 256 * 72057594037927936 := by rw [IntKind.wrap_u64]; omega
theorem d_low (x : Int) (_h0 : 0 ≤ x) : bits .and .u64 (x % 256 * 72057594037927936) 4294967295 = 0 := by rw [and_low32 _ (by omega) (by omega)]; omega
theorem d_high (x : Int) (_h0 : 0 ≤ x) : x % 256 * 72057594037927936 / 4294967296 = x % 256 * 16777216 := by omega
theorem d_none (x : Int) (_h0 : 0 ≤ x) (_h1 : x < 1000000000000) : x / 256 / 3906250000 = 0 := by omega
theorem d_join (x : Int) (_h0 : 0 ≤ x) : x / 256 * 4294967296 + x % 256 * 16777216 = x * 16777216 := by omega
theorem d_yn0 : bits .and .u64 16777216000000000000 4294967295 = 0 := and_low32 16777216000000000000 (by omega) (by omega)

set_option maxRecDepth 100000 in
set_option maxHeartbeats 400000 in
theorem div_tera (x : Int) (w : World) (h0 : 4294967296 ≤ x) (h1 : x < 1000000000000) :
    Calls Tryd.prog 65 #[.int .u64 (x / 4294967296), .int .u64 (x % 4294967296 * 4294967296), .int .u64 1000000000000] w fun e w' => ∃ r, e = .returned (.tuple #[.int .u64 (x * 16777216 / 3906250000), .int .u64 r]) ∧ w' = w := by
  have hne : (x / 4294967296 == 0) = false := by rw [beq_eq_false_iff_ne]; omega
  have hlt : x / 4294967296 < 1000000000000 := by omega
  have k1 := d_or x (by omega) h1
  have k2 := d_wrap x (by omega)
  have k3 := d_low x (by omega)
  have k4 := d_high x (by omega)
  have k5 := d_none x (by omega) h1
  have k6 := d_join x (by omega)
  have k7 := d_yn0
  go_enter Tryd.func65, Tryd.ntmps65
  go_wp2_with (go_at_call 72; refine (len_const _).mono ?_; rintro e w' ⟨rfl, rfl⟩)
  refine wp_loop_rounds 1 ?_
  rw [rounds_succ]
  go_wp2
  refine wp_loop_rounds 1 ?_
  rw [rounds_succ]
  go_wp2
  go_ret2
  exact ⟨_, ret_two (by omega) rfl, rfl⟩
theorem d_same (x : Int) (_h0 : 0 ≤ x) : x * 16777216 / 3906250000 = x * 4294967296 / 1000000000000 := by omega
set_option maxRecDepth 100000 in
set_option maxHeartbeats 400000 in
theorem div_small (y : Int) (w : World) (h0 : 0 ≤ y) (h1 : y ≤ 18446744073709551615) :
    Calls Tryd.prog 65 #[.int .u64 0, .int .u64 y, .int .u64 1000000000000] w fun e w' => ∃ r n, e = .returned (.tuple #[.int .u64 (y / 1000000000000), .int .u64 r]) ∧ w' = w.drewN n := by
  go_enter Tryd.func65, Tryd.ntmps65
  go_wp2
  go_region
  go_wp2
  go_ret2
  exact ⟨_, 1, rfl, rfl⟩
theorem div_any (x : Int) (w : World) (h0 : 0 ≤ x) (h1 : x < 1000000000000) :
    Calls Tryd.prog 65 #[.int .u64 (x / 4294967296), .int .u64 (x % 4294967296 * 4294967296), .int .u64 1000000000000] w fun e w' => ∃ r n, e = .returned (.tuple #[.int .u64 (x * 4294967296 / 1000000000000), .int .u64 r]) ∧ w' = w.drewN n := by
  by_cases h : x < 4294967296
  · rw [show x / 4294967296 = 0 by omega, show x % 4294967296 = x by omega]
    exact div_small (x * 4294967296) w (by omega) (by omega)
  · rw [← d_same x h0]
    refine (div_tera x w (by omega) h1).mono ?_
    rintro e w' ⟨r, rfl, rfl⟩
    exact ⟨r, 0, rfl, rfl⟩
end Go.Proofs.YtjdcnlggpfkopaaDoor
