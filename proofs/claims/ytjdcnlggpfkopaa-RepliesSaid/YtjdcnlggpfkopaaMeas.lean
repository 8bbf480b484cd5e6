/- Measure, the code's: contracts. -/
import Derived.Test.YtjdcnlggpfkopaaRows
import Derived.Test.YtjdcnlggpfkopaaNum
import Derived.ProofKit
import Derived.OpenShut
import Derived.WalkLawsBesides
namespace Go.Proofs.Ytjdcnlggpfkopaa
open Go.ChangeShapes Go.WideShapes Go.ChangeAt Go.RowKit
set_option linter.unusedVariables false

theorem ret_int {k : IntKind} {a b : Int} (h : a = b) : Ending.returned (.int k a) = .returned (.int k b) := by rw [h]

theorem bcell {W w1 : World} (hb : Below W.heap.size W w1) : (∀ b o, b < W.heap.size → w1.cell? ⟨b, o, none⟩ = W.cell? ⟨b, o, none⟩) ∧ (∀ b o, b < W.heap.size → w1.frozen? ⟨b, o, none⟩ = W.frozen? ⟨b, o, none⟩) :=
  ⟨fun b o h => hb.cell (p := ⟨b, o, none⟩) h, fun b o h => hb.frozen (p := ⟨b, o, none⟩) h⟩

theorem difference_any (a b : Int) (w : World) :
    Calls Try.prog 63 #[.int .u64 a, .int .u64 b] w fun e w' => e = .returned (.int .i64 (diff a b)) ∧ w' = w := by
  go_enter Try.func63, Try.ntmps63
  go_wp2
  go_ret
  exact ⟨rfl, rfl⟩
theorem middle_raw (a b : Int) (w : World) :
    Calls Try.prog 62 #[.int .i64 a, .int .i64 b] w fun e w' => e = .returned (.int .i64 (midRaw a b)) ∧ w' = w := by
  go_enter Try.func62, Try.ntmps62
  go_wp2
  go_ret
  exact ⟨rfl, rfl⟩
theorem middle_any (a b : Int) (w : World) (h0 : -9223372036854775808 ≤ a) (h1 : a ≤ 9223372036854775807) (h2 : -9223372036854775808 ≤ b) (h3 : b ≤ 9223372036854775807) :
    Calls Try.prog 62 #[.int .i64 a, .int .i64 b] w fun e w' => e = .returned (.int .i64 (mid a b)) ∧ w' = w := by
  rw [← mid_eq a b h0 h1 h2 h3]; exact middle_raw a b w

/-- A sample: offset and delay of four times. -/
def offsetOf (a b c d : Int) : Int := mid (diff b a) (diff c d)
def delayOf (a b c d : Int) : Int := diff (IntKind.u64.wrap (d - a)) (IntKind.u64.wrap (c - b))

theorem spanMeasure_any (a b c d : Int) (w : World) :
    Calls Try.prog 40 #[.int .u64 a, .int .u64 b, .int .u64 c, .int .u64 d] w fun e w' => e = .returned (.agg #[.int .i64 (offsetOf a b c d), .int .i64 (delayOf a b c d)]) ∧ Below w.heap.size w w' := by
  go_enter Try.func40, Try.ntmps40
  go_wp2_with (first | (go_at_call 63; refine (difference_any _ _ _).mono ?_; rintro e w' ⟨rfl, rfl⟩) | (go_at_call 62; refine (middle_any _ _ _ (diff_lo _ _) (diff_hi _ _) (diff_lo _ _) (diff_hi _ _)).mono ?_; rintro e w' ⟨rfl, rfl⟩))
  exact bodyPost_ret (v := .agg #[.int .i64 (offsetOf a b c d), .int .i64 (delayOf a b c d)]) (by simp [results, Try.results40, go_sem, offsetOf, delayOf]) rfl ⟨rfl, (Below.refl _ _).alloc (Nat.le_refl _) _⟩
theorem measure_any (a b c d : Int) (w : World) :
    Calls Try.prog 19 #[.int .u64 a, .int .u64 b, .int .u64 c, .int .u64 d] w fun e w' => e = .returned (.agg #[.int .i64 (offsetOf a b c d), .int .i64 (delayOf a b c d)]) ∧ Below w.heap.size w w' := by
  go_enter Try.func19, Try.ntmps19
  go_wp2_with fail
  refine (spanMeasure_any _ _ _ _ _).mono ?_
  rintro e w1 ⟨rfl, hb⟩
  obtain ⟨hc, hf⟩ := bcell hb
  have hz : w.heap.size < w1.heap.size := by have := hb.size; simp at this; omega
  simp only [World.size_alloc] at hc hf
  go_wp2
  exact bodyPost_ret (v := .agg #[.int .i64 (offsetOf a b c d), .int .i64 (delayOf a b c d)]) (by simp [results, Try.results19, go_sem, hc]) rfl ⟨rfl, ((((Below.refl _ _).alloc (Nat.le_refl _) _).trans (hb.mono (by simp))).setCell (Nat.le_refl _) _).setCell (Nat.le_refl _) _⟩
end Go.Proofs.Ytjdcnlggpfkopaa
