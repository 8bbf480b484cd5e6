/- Measure, the document's: contracts. -/
import Derived.Test.YtdjijoahbkpcoaaMeas
namespace Go.Proofs.Ytdjijoahbkpcoaa
open Go.ChangeShapes Go.WideShapes Go.ChangeAt Go.RowKit

theorem refDifference_any (a b : Int) (w : World) :
    Calls Try.prog 23 #[.int .u64 a, .int .u64 b] w fun e w' => e = .returned (.int .i64 (diff a b)) ∧ w' = w := by
  go_enter Try.func23, Try.ntmps23
  go_wp2
  go_ret
  exact ⟨rfl, rfl⟩
theorem half_raw (a b : Int) (w : World) :
    Calls Try.prog 24 #[.int .i64 a, .int .i64 b] w fun e w' => e = .returned (.int .i64 (halfRaw a b)) ∧ w' = w := by
  go_enter Try.func24, Try.ntmps24
  go_wp2
  all_goals
    go_ret
    exact ⟨ret_int (by simp [halfRaw, *]), rfl⟩
theorem half_any (a b : Int) (w : World) (h0 : -9223372036854775808 ≤ a) (h1 : a ≤ 9223372036854775807) (h2 : -9223372036854775808 ≤ b) (h3 : b ≤ 9223372036854775807) :
    Calls Try.prog 24 #[.int .i64 a, .int .i64 b] w fun e w' => e = .returned (.int .i64 (mid a b)) ∧ w' = w := by
  rw [← half_eq a b h0 h1 h2 h3]; exact half_raw a b w
theorem refMeasure_any (a b c d : Int) (w : World) :
    Calls Try.prog 15 #[.int .u64 a, .int .u64 b, .int .u64 c, .int .u64 d] w fun e w' => e = .returned (.agg #[.int .i64 (offsetOf a b c d), .int .i64 (delayOf a b c d)]) ∧ Below w.heap.size w w' := by
  go_enter Try.func15, Try.ntmps15
  go_wp2_with (first | (go_at_call 23; refine (refDifference_any _ _ _).mono ?_; rintro e w' ⟨rfl, rfl⟩) | (go_at_call 24; refine (half_any _ _ _ (diff_lo _ _) (diff_hi _ _) (diff_lo _ _) (diff_hi _ _)).mono ?_; rintro e w' ⟨rfl, rfl⟩))
  exact bodyPost_ret (v := .agg #[.int .i64 (offsetOf a b c d), .int .i64 (delayOf a b c d)]) (by simp [results, Try.results15, go_sem, offsetOf, delayOf]) rfl ⟨rfl, (Below.refl _ _).alloc (Nat.le_refl _) _⟩
end Go.Proofs.Ytdjijoahbkpcoaa
