/- What has been read of a text so far: the code's steps. -/
import Derived.Test.YtjdcnlggpfkopaaDoorFig
import Derived.Laws.RangeString
namespace Go.Proofs.YtjdcnlggpfkopaaDoor
open Go.ChangeShapes Go.WideShapes Go.ChangeAt Go.RowKit
set_option linter.unusedVariables false

structure Rd where
  sv : Int
  sf : Int
  fv : Int
  ff : Int
  bp : Bool

def stepR (r : Rd) (c : Int) : Option Rd :=
  if r.bp = true then (if 0 ≤ figOf c ∧ r.ff < 12 then some ⟨r.sv, r.sf, r.fv * 10 + figOf c, r.ff + 1, true⟩ else none)
  else if c = 46 ∧ 0 < r.sf then some ⟨r.sv, r.sf, r.fv, r.ff, true⟩
  else if 0 ≤ figOf c ∧ r.sf < 10 then some ⟨r.sv * 10 + figOf c, r.sf + 1, r.fv, r.ff, false⟩ else none

/-- Bounds that the steps keep. -/
structure Rd.Ok (r : Rd) : Prop where
  sv0 : 0 ≤ r.sv
  sv1 : r.sv ≤ 9999999999
  sf0 : 0 ≤ r.sf
  sf1 : r.sf ≤ 10
  fv0 : 0 ≤ r.fv
  fv1 : r.fv ≤ 999999999999
  ff0 : 0 ≤ r.ff
  ff1 : r.ff ≤ 12

set_option maxHeartbeats 400000 in
theorem frac_ok (sv sf fv ff at_ c : Int) (s : ByteArray) (pos : Nat) (w : World) (hZ : Zeros w) (h0 : 0 ≤ fv) (h1 : fv ≤ 999999999999) (h2 : 0 ≤ ff) (h3 : ff < 12) (hf : 0 ≤ figOf c) :
    Calls Tryd.prog 36 #[.pointer (some ⟨w.heap.size, 0, none⟩), .int .i64 at_, .int .i32 c]
      ((w.alloc (.cells #[.int .u64 sv, .int .i64 sf, .int .u64 fv, .int .i64 ff, .bool true] 71)).alloc (.stringIter s pos)) fun e w' => e = .returned (.tuple #[]) ∧ w' = ((w.alloc (.cells #[.int .u64 sv, .int .i64 sf, .int .u64 (fv * 10 + figOf c), .int .i64 (ff + 1), .bool true] 71)).alloc (.stringIter s pos)) := by
  have hle := figOf_le c
  have hZ' : Zeros ((w.alloc (.cells #[.int .u64 sv, .int .i64 sf, .int .u64 fv, .int .i64 ff, .bool true] 71)).alloc (.stringIter s pos)) := hZ.below (((Below.refl _ _).alloc (Nat.le_refl _) _).alloc (by simp) _)
  go_enter Tryd.func36, Tryd.ntmps36
  go_wp2_with (first | (go_at_call 63; refine (figure_yes _ _ _ hZ' hf).mono ?_; rintro e w' ⟨rfl, rfl⟩) | (go_at_call 51; go_in))
  go_end0
  exact ⟨rfl, rfl⟩
set_option maxHeartbeats 400000 in
theorem frac_full (sv sf fv ff at_ c : Int) (s : ByteArray) (pos : Nat) (w : World) (hZ : Zeros w) (h3 : (ff == 12) = true) (hf : 0 ≤ figOf c) :
    Calls Tryd.prog 36 #[.pointer (some ⟨w.heap.size, 0, none⟩), .int .i64 at_, .int .i32 c]
      ((w.alloc (.cells #[.int .u64 sv, .int .i64 sf, .int .u64 fv, .int .i64 ff, .bool true] 71)).alloc (.stringIter s pos)) fun e w' => e = .panicked (fault 6 at_) ∧ w' = ((w.alloc (.cells #[.int .u64 sv, .int .i64 sf, .int .u64 fv, .int .i64 ff, .bool true] 71)).alloc (.stringIter s pos)) := by
  have hle := figOf_le c
  have hZ' : Zeros ((w.alloc (.cells #[.int .u64 sv, .int .i64 sf, .int .u64 fv, .int .i64 ff, .bool true] 71)).alloc (.stringIter s pos)) := hZ.below (((Below.refl _ _).alloc (Nat.le_refl _) _).alloc (by simp) _)
  go_enter Tryd.func36, Tryd.ntmps36
  go_wp2_with (first | (go_at_call 63; refine (figure_yes _ _ _ hZ' hf).mono ?_; rintro e w' ⟨rfl, rfl⟩) | (go_at_call 51; go_in))
  exact ⟨rfl, rfl, rfl, rfl⟩
set_option maxHeartbeats 400000 in
theorem frac_no (sv sf fv ff at_ c : Int) (s : ByteArray) (pos : Nat) (w : World) (hZ : Zeros w) (hf : figOf c < 0) :
    Calls Tryd.prog 36 #[.pointer (some ⟨w.heap.size, 0, none⟩), .int .i64 at_, .int .i32 c]
      ((w.alloc (.cells #[.int .u64 sv, .int .i64 sf, .int .u64 fv, .int .i64 ff, .bool true] 71)).alloc (.stringIter s pos)) fun e w' => e = .panicked (fault 6 at_) ∧ w' = ((w.alloc (.cells #[.int .u64 sv, .int .i64 sf, .int .u64 fv, .int .i64 ff, .bool true] 71)).alloc (.stringIter s pos)) := by
  have hle := figOf_le c
  have hZ' : Zeros ((w.alloc (.cells #[.int .u64 sv, .int .i64 sf, .int .u64 fv, .int .i64 ff, .bool true] 71)).alloc (.stringIter s pos)) := hZ.below (((Below.refl _ _).alloc (Nat.le_refl _) _).alloc (by simp) _)
  go_enter Tryd.func36, Tryd.ntmps36
  go_wp2_with (first | (go_at_call 63; refine (figure_no _ _ _ hZ' hf).mono ?_; rintro e w' ⟨rfl, rfl⟩) | (go_at_call 51; go_in))
  exact ⟨rfl, rfl, rfl, rfl⟩
set_option maxHeartbeats 400000 in
theorem sec_ok (sv sf fv ff at_ c : Int) (s : ByteArray) (pos : Nat) (w : World) (hZ : Zeros w) (h0 : 0 ≤ sv) (h1 : sv ≤ 9999999999) (h2 : 0 ≤ sf) (h3 : sf < 10) (hc : (c == 46) = false) (hf : 0 ≤ figOf c) :
    Calls Tryd.prog 36 #[.pointer (some ⟨w.heap.size, 0, none⟩), .int .i64 at_, .int .i32 c]
      ((w.alloc (.cells #[.int .u64 sv, .int .i64 sf, .int .u64 fv, .int .i64 ff, .bool false] 71)).alloc (.stringIter s pos)) fun e w' => e = .returned (.tuple #[]) ∧ w' = ((w.alloc (.cells #[.int .u64 (sv * 10 + figOf c), .int .i64 (sf + 1), .int .u64 fv, .int .i64 ff, .bool false] 71)).alloc (.stringIter s pos)) := by
  have hle := figOf_le c
  have hZ' : Zeros ((w.alloc (.cells #[.int .u64 sv, .int .i64 sf, .int .u64 fv, .int .i64 ff, .bool false] 71)).alloc (.stringIter s pos)) := hZ.below (((Below.refl _ _).alloc (Nat.le_refl _) _).alloc (by simp) _)
  go_enter Tryd.func36, Tryd.ntmps36
  go_wp2_with (first | (go_at_call 63; refine (figure_yes _ _ _ hZ' hf).mono ?_; rintro e w' ⟨rfl, rfl⟩) | (go_at_call 51; go_in))
  go_end0
  exact ⟨rfl, rfl⟩
set_option maxHeartbeats 400000 in
theorem sec_full (sv sf fv ff at_ c : Int) (s : ByteArray) (pos : Nat) (w : World) (hZ : Zeros w) (h3 : (sf == 10) = true) (hc : (c == 46) = false) (hf : 0 ≤ figOf c) :
    Calls Tryd.prog 36 #[.pointer (some ⟨w.heap.size, 0, none⟩), .int .i64 at_, .int .i32 c]
      ((w.alloc (.cells #[.int .u64 sv, .int .i64 sf, .int .u64 fv, .int .i64 ff, .bool false] 71)).alloc (.stringIter s pos)) fun e w' => e = .panicked (fault 6 at_) ∧ w' = ((w.alloc (.cells #[.int .u64 sv, .int .i64 sf, .int .u64 fv, .int .i64 ff, .bool false] 71)).alloc (.stringIter s pos)) := by
  have hle := figOf_le c
  have hZ' : Zeros ((w.alloc (.cells #[.int .u64 sv, .int .i64 sf, .int .u64 fv, .int .i64 ff, .bool false] 71)).alloc (.stringIter s pos)) := hZ.below (((Below.refl _ _).alloc (Nat.le_refl _) _).alloc (by simp) _)
  go_enter Tryd.func36, Tryd.ntmps36
  go_wp2_with (first | (go_at_call 63; refine (figure_yes _ _ _ hZ' hf).mono ?_; rintro e w' ⟨rfl, rfl⟩) | (go_at_call 51; go_in))
  exact ⟨rfl, rfl, rfl, rfl⟩
set_option maxHeartbeats 400000 in
theorem sec_no (sv sf fv ff at_ c : Int) (s : ByteArray) (pos : Nat) (w : World) (hZ : Zeros w) (hc : (c == 46) = false) (hf : figOf c < 0) :
    Calls Tryd.prog 36 #[.pointer (some ⟨w.heap.size, 0, none⟩), .int .i64 at_, .int .i32 c]
      ((w.alloc (.cells #[.int .u64 sv, .int .i64 sf, .int .u64 fv, .int .i64 ff, .bool false] 71)).alloc (.stringIter s pos)) fun e w' => e = .panicked (fault 6 at_) ∧ w' = ((w.alloc (.cells #[.int .u64 sv, .int .i64 sf, .int .u64 fv, .int .i64 ff, .bool false] 71)).alloc (.stringIter s pos)) := by
  have hle := figOf_le c
  have hZ' : Zeros ((w.alloc (.cells #[.int .u64 sv, .int .i64 sf, .int .u64 fv, .int .i64 ff, .bool false] 71)).alloc (.stringIter s pos)) := hZ.below (((Below.refl _ _).alloc (Nat.le_refl _) _).alloc (by simp) _)
  go_enter Tryd.func36, Tryd.ntmps36
  go_wp2_with (first | (go_at_call 63; refine (figure_no _ _ _ hZ' hf).mono ?_; rintro e w' ⟨rfl, rfl⟩) | (go_at_call 51; go_in))
  exact ⟨rfl, rfl, rfl, rfl⟩
set_option maxHeartbeats 400000 in
theorem sec_none (sv sf fv ff at_ c : Int) (s : ByteArray) (pos : Nat) (w : World) (hZ : Zeros w) (hc : (c == 46) = true) (h : ¬ 0 < sf) (hf : figOf c < 0) :
    Calls Tryd.prog 36 #[.pointer (some ⟨w.heap.size, 0, none⟩), .int .i64 at_, .int .i32 c]
      ((w.alloc (.cells #[.int .u64 sv, .int .i64 sf, .int .u64 fv, .int .i64 ff, .bool false] 71)).alloc (.stringIter s pos)) fun e w' => e = .panicked (fault 6 at_) ∧ w' = ((w.alloc (.cells #[.int .u64 sv, .int .i64 sf, .int .u64 fv, .int .i64 ff, .bool false] 71)).alloc (.stringIter s pos)) := by
  have hle := figOf_le c
  have hZ' : Zeros ((w.alloc (.cells #[.int .u64 sv, .int .i64 sf, .int .u64 fv, .int .i64 ff, .bool false] 71)).alloc (.stringIter s pos)) := hZ.below (((Below.refl _ _).alloc (Nat.le_refl _) _).alloc (by simp) _)
  go_enter Tryd.func36, Tryd.ntmps36
  go_wp2_with (first | (go_at_call 63; refine (figure_no _ _ _ hZ' hf).mono ?_; rintro e w' ⟨rfl, rfl⟩) | (go_at_call 51; go_in))
  exact ⟨rfl, rfl, rfl, rfl⟩
set_option maxHeartbeats 400000 in
theorem point (sv sf fv ff at_ c : Int) (s : ByteArray) (pos : Nat) (w : World) (hZ : Zeros w) (hc : (c == 46) = true) (h : 0 < sf) :
    Calls Tryd.prog 36 #[.pointer (some ⟨w.heap.size, 0, none⟩), .int .i64 at_, .int .i32 c]
      ((w.alloc (.cells #[.int .u64 sv, .int .i64 sf, .int .u64 fv, .int .i64 ff, .bool false] 71)).alloc (.stringIter s pos)) fun e w' => e = .returned (.tuple #[]) ∧ w' = ((w.alloc (.cells #[.int .u64 sv, .int .i64 sf, .int .u64 fv, .int .i64 ff, .bool true] 71)).alloc (.stringIter s pos)) := by
  have hle := figOf_le c
  have hZ' : Zeros ((w.alloc (.cells #[.int .u64 sv, .int .i64 sf, .int .u64 fv, .int .i64 ff, .bool false] 71)).alloc (.stringIter s pos)) := hZ.below (((Below.refl _ _).alloc (Nat.le_refl _) _).alloc (by simp) _)
  go_enter Tryd.func36, Tryd.ntmps36
  go_wp2
  go_end0
  exact ⟨rfl, rfl⟩

abbrev Rd.obj (r : Rd) : Obj := .cells #[.int .u64 r.sv, .int .i64 r.sf, .int .u64 r.fv, .int .i64 r.ff, .bool r.bp] 71
theorem fig_point : figOf 46 = -1 := by decide
theorem take_ok (r r' : Rd) (at_ c : Int) (s : ByteArray) (pos : Nat) (w : World) (hZ : Zeros w) (hr : r.Ok) (h : stepR r c = some r') :
    Calls Tryd.prog 36 #[.pointer (some ⟨w.heap.size, 0, none⟩), .int .i64 at_, .int .i32 c]
      ((w.alloc r.obj).alloc (.stringIter s pos)) fun e w' => e = .returned (.tuple #[]) ∧ w' = (w.alloc r'.obj).alloc (.stringIter s pos) := by
  obtain ⟨sv, sf, fv, ff, bp⟩ := r
  obtain ⟨a1, a2, a3, a4, a5, a6, a7, a8⟩ := hr
  unfold stepR at h
  cases bp with
  | true =>
    rw [if_pos rfl] at h
    by_cases hc : 0 ≤ figOf c ∧ ff < 12
    · rw [if_pos hc] at h; cases h
      exact frac_ok sv sf fv ff at_ c s pos w hZ a5 a6 a7 hc.2 hc.1
    · rw [if_neg hc] at h; cases h
  | false =>
    rw [if_neg (by simp)] at h
    by_cases hp : c = 46 ∧ 0 < sf
    · rw [if_pos hp] at h; cases h
      exact point sv sf fv ff at_ c s pos w hZ (by simpa using hp.1) hp.2
    · rw [if_neg hp] at h
      by_cases hc : 0 ≤ figOf c ∧ sf < 10
      · rw [if_pos hc] at h; cases h
        have hne : c ≠ 46 := by rintro rfl; rw [fig_point] at hc; exact absurd hc.1 (by decide)
        exact sec_ok sv sf fv ff at_ c s pos w hZ a1 a2 a3 hc.2 (by simpa using hne) hc.1
      · rw [if_neg hc] at h; cases h
theorem take_no (r : Rd) (at_ c : Int) (s : ByteArray) (pos : Nat) (w : World) (hZ : Zeros w) (hr : r.Ok) (h : stepR r c = none) :
    Calls Tryd.prog 36 #[.pointer (some ⟨w.heap.size, 0, none⟩), .int .i64 at_, .int .i32 c]
      ((w.alloc r.obj).alloc (.stringIter s pos)) fun e w' => e = .panicked (fault 6 at_) ∧ w' = (w.alloc r.obj).alloc (.stringIter s pos) := by
  obtain ⟨sv, sf, fv, ff, bp⟩ := r
  obtain ⟨a1, a2, a3, a4, a5, a6, a7, a8⟩ := hr
  unfold stepR at h
  cases bp with
  | true =>
    rw [if_pos rfl] at h
    by_cases hc : 0 ≤ figOf c ∧ ff < 12
    · rw [if_pos hc] at h; cases h
    · by_cases hf : 0 ≤ figOf c
      · exact frac_full sv sf fv ff at_ c s pos w hZ (by simp only [beq_iff_eq] at *; omega) hf
      · exact frac_no sv sf fv ff at_ c s pos w hZ (by omega)
  | false =>
    rw [if_neg (by simp)] at h
    by_cases hp : c = 46 ∧ 0 < sf
    · rw [if_pos hp] at h; cases h
    · rw [if_neg hp] at h
      by_cases hc : 0 ≤ figOf c ∧ sf < 10
      · rw [if_pos hc] at h; cases h
      · by_cases hf : 0 ≤ figOf c
        · have hne : c ≠ 46 := by rintro rfl; rw [fig_point] at hf; exact absurd hf (by decide)
          exact sec_full sv sf fv ff at_ c s pos w hZ (by simp only [beq_iff_eq] at *; omega) (by simpa using hne) hf
        · by_cases he : c = 46
          · exact sec_none sv sf fv ff at_ c s pos w hZ (by simpa using he) (by omega) (by omega)
          · exact sec_no sv sf fv ff at_ c s pos w hZ (by simpa using he) (by omega)
end Go.Proofs.YtjdcnlggpfkopaaDoor
