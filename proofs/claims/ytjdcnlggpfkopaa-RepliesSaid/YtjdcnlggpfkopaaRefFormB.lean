/- Form: the document's own, for every packet. -/
import Derived.Test.YtjdcnlggpfkopaaRefForm
namespace Go.Proofs.Ytjdcnlggpfkopaa
open Go.ChangeShapes Go.WideShapes Go.ChangeAt Go.RowKit
set_option linter.unusedVariables false

set_option maxRecDepth 100000 in
set_option maxHeartbeats 1000000 in
theorem refForm_range (a v m c d e f gg h i j k l : Int) (w : World) (hfit : fitsB a c d e = false) :
    Calls Try.prog 14 #[.agg #[.int .i64 a, .int .i64 v, .int .i64 m, .int .i64 c, .int .i64 d, .int .i64 e, .int .u32 f, .int .u32 gg, .int .u32 h, .int .u64 i, .int .u64 j, .int .u64 k, .int .u64 l]] w fun r w' => r = .returned (.tuple #[.slice none 0 0, .int .i64 5]) ∧ Below w.heap.size w w' := by
  unfold fitsB at hfit
  have HFT : Hid (_ = false) := hfit
  clear hfit
  go_enter Try.func14, Try.ntmps14
  go_wp2_with fail
  refine (refWithin_any _ _ _ _).mono ?_
  rintro r w1 ⟨rfl, rfl⟩
  generalize dA : decide (0 ≤ a ∧ a ≤ 3) = bA at HFT ⊢
  go_wp2_with fail
  refine (refWithin_any _ _ _ _).mono ?_
  rintro r w1 ⟨rfl, rfl⟩
  generalize dB : decide (0 ≤ c ∧ c ≤ 255) = bB at HFT ⊢
  go_wp2_with fail
  refine (refWithin_any _ _ _ _).mono ?_
  rintro r w1 ⟨rfl, rfl⟩
  generalize dC : decide (-128 ≤ d ∧ d ≤ 127) = bC at HFT ⊢
  go_wp2_with fail
  refine (refWithin_any _ _ _ _).mono ?_
  rintro r w1 ⟨rfl, rfl⟩
  generalize dD : decide (-128 ≤ e ∧ e ≤ 127) = bD at HFT ⊢
  clear dA dB dC dD
  cases bA with
  | false =>
    clear HFT
    go_wp2
    go_ret2
    exact ⟨rfl, (Below.refl _ _).alloc (Nat.le_refl _) _⟩
  | true =>
    cases bB with
    | false =>
      clear HFT
      go_wp2
      go_ret2
      exact ⟨rfl, (Below.refl _ _).alloc (Nat.le_refl _) _⟩
    | true =>
      cases bC with
      | false =>
        clear HFT
        go_wp2
        go_ret2
        exact ⟨rfl, (Below.refl _ _).alloc (Nat.le_refl _) _⟩
      | true =>
        cases bD with
        | false =>
          clear HFT
          go_wp2
          go_ret2
          exact ⟨rfl, (Below.refl _ _).alloc (Nat.le_refl _) _⟩
        | true => exact absurd HFT.out (by decide)

set_option maxRecDepth 100000 in
set_option maxHeartbeats 1000000 in
theorem refForm_kind (a v m c d e f gg h i j k l : Int) (w : World) (ba : 0 ≤ a ∧ a ≤ 3) (bc : 0 ≤ c ∧ c ≤ 255) (bd : -128 ≤ d ∧ d ≤ 127) (be : -128 ≤ e ∧ e ≤ 127) (hk : kindOf v m ≠ 0) :
    Calls Try.prog 14 #[.agg #[.int .i64 a, .int .i64 v, .int .i64 m, .int .i64 c, .int .i64 d, .int .i64 e, .int .u32 f, .int .u32 gg, .int .u32 h, .int .u64 i, .int .u64 j, .int .u64 k, .int .u64 l]] w fun r w' => r = .returned (.tuple #[.slice none 0 0, .int .i64 (kindOf v m)]) ∧ Below w.heap.size w w' := by
  have dA : decide (0 ≤ a ∧ a ≤ 3) = true := by simpa using ba
  have dB : decide (0 ≤ c ∧ c ≤ 255) = true := by simpa using bc
  have dC : decide (-128 ≤ d ∧ d ≤ 127) = true := by simpa using bd
  have dD : decide (-128 ≤ e ∧ e ≤ 127) = true := by simpa using be
  have HK : Hid (kindOf v m ≠ 0) := hk
  clear hk
  go_enter Try.func14, Try.ntmps14
  go_wp2_with fail
  refine (refWithin_any _ _ _ _).mono ?_
  rintro r w1 ⟨rfl, rfl⟩
  rw [dA]
  go_wp2_with fail
  refine (refWithin_any _ _ _ _).mono ?_
  rintro r w1 ⟨rfl, rfl⟩
  rw [dB]
  go_wp2_with fail
  refine (refWithin_any _ _ _ _).mono ?_
  rintro r w1 ⟨rfl, rfl⟩
  rw [dC]
  go_wp2_with fail
  refine (refWithin_any _ _ _ _).mono ?_
  rintro r w1 ⟨rfl, rfl⟩
  rw [dD]
  clear dA dB dC dD
  by_cases v3 : v = 3
  · subst v3
    have m3 : ¬ m = 3 := fun h => by subst h; exact HK.out (by decide)
    have m4 : ¬ m = 4 := fun h => by subst h; exact HK.out (by decide)
    have E : Hid (kindOf 3 m = 4) := by show _ = _; unfold kindOf; rw [if_neg (by omega), if_pos ⟨m3, m4⟩]
    have n3 : (m != 3) = true := by simpa using m3
    have n4 : (m != 4) = true := by simpa using m4
    clear HK m3 m4
    go_wp2
    go_ret2
    exact ⟨by rw [E.out]; rfl, (Below.refl _ _).alloc (Nat.le_refl _) _⟩
  · by_cases v4 : v = 4
    · subst v4
      have m3 : ¬ m = 3 := fun h => by subst h; exact HK.out (by decide)
      have m4 : ¬ m = 4 := fun h => by subst h; exact HK.out (by decide)
      have E : Hid (kindOf 4 m = 4) := by show _ = _; unfold kindOf; rw [if_neg (by omega), if_pos ⟨m3, m4⟩]
      have n3 : (m != 3) = true := by simpa using m3
      have n4 : (m != 4) = true := by simpa using m4
      clear HK m3 m4
      go_wp2
      go_ret2
      exact ⟨by rw [E.out]; rfl, (Below.refl _ _).alloc (Nat.le_refl _) _⟩
    · have E : Hid (kindOf v m = 3) := by show _ = _; unfold kindOf; rw [if_pos ⟨v3, v4⟩]
      have n3 : (v != 3) = true := by simpa using v3
      have n4 : (v != 4) = true := by simpa using v4
      clear HK v3 v4
      go_wp2
      go_ret2
      exact ⟨by rw [E.out]; rfl, (Below.refl _ _).alloc (Nat.le_refl _) _⟩

theorem refForm_any (a v m c d e f gg h i j k l : Int) (w : World) (hF : Fits a v m c d e f gg h i j k l) :
    Calls Try.prog 14 #[.agg #[.int .i64 a, .int .i64 v, .int .i64 m, .int .i64 c, .int .i64 d, .int .i64 e, .int .u32 f, .int .u32 gg, .int .u32 h, .int .u64 i, .int .u64 j, .int .u64 k, .int .u64 l]] w fun r w' => ∃ s, r = .returned (.tuple #[s, .int .i64 (formErr a v m c d e)]) ∧ RefFormed w w' s (formErr a v m c d e) (formList (a * 64 + v * 8 + m) (c % 256) (d % 256) (e % 256) f gg h i j k l) ∧ Below w.heap.size w w' := by
  cases hfit : fitsB a c d e with
  | false =>
    have he : formErr a v m c d e = 5 := by unfold formErr; rw [if_pos hfit]
    rw [he]
    exact (refForm_range a v m c d e f gg h i j k l w hfit).mono fun r w' ⟨h1, h2⟩ => ⟨_, h1, Or.inl ⟨by decide, rfl⟩, h2⟩
  | true =>
    have hh : ((0 ≤ a ∧ a ≤ 3) ∧ (0 ≤ c ∧ c ≤ 255)) ∧ (-128 ≤ d ∧ d ≤ 127) ∧ (-128 ≤ e ∧ e ≤ 127) := by
      unfold fitsB at hfit; simp only [Bool.and_eq_true, decide_eq_true_eq] at hfit; exact ⟨hfit.1.1, hfit.1.2, hfit.2⟩
    have he : formErr a v m c d e = kindOf v m := by unfold formErr; rw [if_neg (by simp [hfit])]
    rw [he]
    by_cases hk : kindOf v m = 0
    · obtain ⟨kv, km⟩ := kind_bd v m hk
      rw [hk, show c % 256 = c by have := hh.1.2; omega]
      exact (refForm_good a v m c d e f gg h i j k l _ w hF hh.1.1 hh.1.2 hh.2.1 hh.2.2 kv km rfl).mono fun r w' ⟨s, h1, h2, h3⟩ => ⟨s, h1, Or.inr ⟨rfl, h2⟩, h3⟩
    · exact (refForm_kind a v m c d e f gg h i j k l w hh.1.1 hh.1.2 hh.2.1 hh.2.2 hk).mono fun r w' ⟨h1, h2⟩ => ⟨_, h1, Or.inl ⟨hk, rfl⟩, h2⟩
end Go.Proofs.Ytjdcnlggpfkopaa
