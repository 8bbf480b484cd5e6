/- A number's parts, the time, the end of a text: the code's. -/
import Derived.Test.YtjdcnlggpfkopaaDoorParts
import Derived.Test.YtjdcnlggpfkopaaDoorRd
namespace Go.Proofs.YtjdcnlggpfkopaaDoor
open Go.ChangeShapes Go.WideShapes Go.ChangeAt Go.RowKit
set_option linter.unusedVariables false

theorem pow_step (v i : Nat) : v * 10 ^ (i + 1) = v * 10 ^ i * 10 := by rw [Nat.pow_succ, Nat.mul_assoc]
theorem pow_bound (v f i : Nat) (hv : v < 10 ^ f) (h : f + i ≤ 12) : v * 10 ^ i < 1000000000000 := by
  have h1 : v * 10 ^ i < 10 ^ f * 10 ^ i := Nat.mul_lt_mul_of_pos_right hv (Nat.pow_pos (by decide))
  rw [← Nat.pow_add] at h1
  have h2 : 10 ^ (f + i) ≤ 10 ^ 12 := Nat.pow_le_pow_right (by decide) h
  have h3 : (10 : Nat) ^ 12 = 1000000000000 := by decide
  omega

/-- The parts of the fraction v / 10^f, cut off. -/
def partsOf (v f : Nat) : Nat := v * 10 ^ (12 - f) * 4294967296 / 1000000000000

set_option maxHeartbeats 400000 in
theorem parts_any (v f : Nat) (b o : Nat) (w : World) (hv : v < 10 ^ f) (hf : f ≤ 12)
    (c0 : w.cell? ⟨b, o, none⟩ = some (.int .u64 v)) (c1 : w.cell? ⟨b, o + 1, none⟩ = some (.int .i64 f)) :
    Calls Tryd.prog 52 #[.pointer (some ⟨b, o, none⟩)] w fun e w' => ∃ n, e = .returned (.int .u64 (partsOf v f : Nat)) ∧ w' = w.drewN n := by
  have HV : Hid (v < 10 ^ f) := hv
  clear hv
  go_enter Tryd.func52, Tryd.ntmps52
  go_wp2
  go_loop [3, 17] (fun u i => ∃ k : Nat, k ≤ 12 - f ∧ i = .int .i64 k ∧ u = .int .u64 ((v * 10 ^ k : Nat) : Int)) (fun _ i => 12 - (intOf i).toNat)
  case atStart => exact ⟨0, Nat.zero_le _, rfl, by simp⟩
  case round =>
    obtain ⟨k, hk, rfl, rfl⟩ := hrel
    have hbd := pow_bound v f k HV.out (by omega)
    generalize hX : v * 10 ^ k = X at *
    have HX : Hid (v * 10 ^ k = X) := hX
    clear hX
    by_cases hlt : (k : Int) < 12 - f
    · go_wp2
      go_round
      case rel => exact ⟨k + 1, by omega, by go_num, by rw [pow_step, HX.out]; go_num⟩
      case measure => simp [intOf]; omega
    · have hkk : k = 12 - f := by omega
      subst hkk
      go_wp2_with fail
      refine (mul_second _ _ (by omega) (by omega)).mono ?_
      rintro e w' ⟨rfl, rfl⟩
      go_wp2_with fail
      refine (div_any _ _ (by omega) (by omega)).mono ?_
      rintro e w' ⟨r, n, rfl, rfl⟩
      go_wp2
      go_ret
      exact ⟨n, ret_int (by unfold partsOf; rw [HX.out]; omega), rfl⟩

set_option maxHeartbeats 400000 in
theorem time_any (sv : Int) (v f : Nat) (b : Nat) (w : World) (hv : v < 10 ^ f) (hf : f ≤ 12) (h0 : 0 ≤ sv) (h1 : sv ≤ 4294967295)
    (c0 : w.cell? ⟨b, 0, none⟩ = some (.int .u64 sv)) (c2 : w.cell? ⟨b, 2, none⟩ = some (.int .u64 v)) (c3 : w.cell? ⟨b, 3, none⟩ = some (.int .i64 f)) :
    Calls Tryd.prog 38 #[.pointer (some ⟨b, 0, none⟩)] w fun e w' => ∃ n, e = .returned (.int .u64 (sv * 4294967296 + (partsOf v f : Nat))) ∧ w' = w.drewN n := by
  have hp : partsOf v f < 4294967296 := by
    unfold partsOf
    have := pow_bound v f (12 - f) hv (by omega)
    omega
  have HV : Hid (v < 10 ^ f) := hv
  clear hv
  have HP : ∀ n, Calls Tryd.prog 52 #[.pointer (some ⟨b, 2, none⟩)] (w.drewN n) fun e w' => e = .returned (.int .u64 (partsOf v f : Nat)) ∧ ∃ m, w' = (w.drewN n).drewN m := fun n =>
    (parts_any v f b 2 (w.drewN n) HV.out hf (by simpa using c2) (by simpa using c3)).mono (fun _ _ ⟨m, h, h'⟩ => ⟨h, m, h'⟩)
  generalize partsOf v f = pp at *
  have HP' := HP
  clear HP
  go_enter Tryd.func38, Tryd.ntmps38
  go_wp2
  go_quiet ((go_at_call 52; exact Calls.quiet_of (HP' _)))
  go_wp2
  go_ret
  exact ⟨nq, ret_int rfl, rfl⟩

/-- A text that ended too early. -/
theorem end_early (sv sf fv ff len : Int) (bp : Bool) (b : Nat) (w : World) (h : sf = 0 ∨ bp = true ∧ ff = 0)
    (c0 : w.cell? ⟨b, 0, none⟩ = some (.int .u64 sv)) (c1 : w.cell? ⟨b, 1, none⟩ = some (.int .i64 sf)) (c3 : w.cell? ⟨b, 3, none⟩ = some (.int .i64 ff)) (c4 : w.cell? ⟨b, 4, none⟩ = some (.bool bp)) :
    Calls Tryd.prog 37 #[.pointer (some ⟨b, 0, none⟩), .int .i64 len] w fun e w' => e = .panicked (fault 6 len) ∧ w' = w := by
  by_cases hs : (sf == 0) = true
  · go_enter Tryd.func37, Tryd.ntmps37
    go_wp2
    exact ⟨rfl, rfl, rfl⟩
  · have hs' : (sf == 0) = false := by simpa using hs
    have hn : ¬ sf = 0 := by simpa using hs
    obtain ⟨rfl, hff⟩ : bp = true ∧ ff = 0 := by rcases h with h | h; exact absurd h hn; exact h
    have hf' : (ff == 0) = true := by simpa using hff
    clear h hs hn hff
    go_enter Tryd.func37, Tryd.ntmps37
    go_wp2
    exact ⟨rfl, rfl, rfl⟩
theorem end_great (sv sf fv ff len : Int) (bp : Bool) (b : Nat) (w : World) (hs : (sf == 0) = false) (h : bp = false ∨ (ff == 0) = false) (hg : 4294967295 < sv)
    (c0 : w.cell? ⟨b, 0, none⟩ = some (.int .u64 sv)) (c1 : w.cell? ⟨b, 1, none⟩ = some (.int .i64 sf)) (c3 : w.cell? ⟨b, 3, none⟩ = some (.int .i64 ff)) (c4 : w.cell? ⟨b, 4, none⟩ = some (.bool bp)) :
    Calls Tryd.prog 37 #[.pointer (some ⟨b, 0, none⟩), .int .i64 len] w fun e w' => e = .panicked (fault 5 0) ∧ w' = w := by
  cases bp with
  | false =>
    clear h
    go_enter Tryd.func37, Tryd.ntmps37
    go_wp2
    exact ⟨rfl, rfl, rfl⟩
  | true =>
    have hf' : (ff == 0) = false := by rcases h with h | h; cases h; exact h
    clear h
    go_enter Tryd.func37, Tryd.ntmps37
    go_wp2
    exact ⟨rfl, rfl, rfl⟩
theorem end_well (sv sf fv ff len : Int) (bp : Bool) (b : Nat) (w : World) (hs : (sf == 0) = false) (h : bp = false ∨ (ff == 0) = false) (hg : sv ≤ 4294967295)
    (c0 : w.cell? ⟨b, 0, none⟩ = some (.int .u64 sv)) (c1 : w.cell? ⟨b, 1, none⟩ = some (.int .i64 sf)) (c3 : w.cell? ⟨b, 3, none⟩ = some (.int .i64 ff)) (c4 : w.cell? ⟨b, 4, none⟩ = some (.bool bp)) :
    Calls Tryd.prog 37 #[.pointer (some ⟨b, 0, none⟩), .int .i64 len] w fun e w' => e = .returned (.tuple #[]) ∧ w' = w := by
  cases bp with
  | false =>
    clear h
    go_enter Tryd.func37, Tryd.ntmps37
    go_wp2
    go_end0
    exact ⟨rfl, rfl⟩
  | true =>
    have hf' : (ff == 0) = false := by rcases h with h | h; cases h; exact h
    clear h
    go_enter Tryd.func37, Tryd.ntmps37
    go_wp2
    go_end0
    exact ⟨rfl, rfl⟩
end Go.Proofs.YtjdcnlggpfkopaaDoor
