/- Figures: the code's. -/
import Derived.Test.YtjdcnlggpfkopaaDoorRows
import Derived.WalkKit
import Derived.ProofKit
import Derived.OpenShut
import Derived.WalkLawsBesides
import Derived.Handy
namespace Go.Proofs.YtjdcnlggpfkopaaDoor
open Go.ChangeShapes Go.WideShapes Go.ChangeAt Go.RowKit
set_option linter.unusedVariables false

/-- The four rows' first figures, as the variable holds them. -/
def zeroCells : Array Value := #[.int .i32 48, .int .i32 1632, .int .i32 1776, .int .i32 65296]
def Zeros (w : World) : Prop := ∃ t fr, w.heap[2]? = some (.cells zeroCells t fr)
theorem Zeros.below {w w' : World} (h : Zeros w) (hb : Below w.heap.size w w') : Zeros w' := by
  obtain ⟨t, fr, h⟩ := h
  have hl : 2 < w.heap.size := by
    rcases Nat.lt_or_ge 2 w.heap.size with h' | h'
    · exact h'
    · rw [Array.getElem?_eq_none h'] at h; cases h
  exact ⟨t, fr, by rw [hb.block _ hl]; exact h⟩

/-- Which figure a rune stands for; -1: none. -/
def figOf (c : Int) : Int :=
  if 48 ≤ c ∧ c ≤ 57 then c - 48 else if 1632 ≤ c ∧ c ≤ 1641 then c - 1632 else if 1776 ≤ c ∧ c ≤ 1785 then c - 1776 else if 65296 ≤ c ∧ c ≤ 65305 then c - 65296 else -1

theorem ix0 (w : World) : (Instr.index 113 (.agg zeroCells) (.int .i64 0)).run Tryd.prog w = .ok (.int .i32 48) w := by kernel_rfl
theorem ix1 (w : World) : (Instr.index 113 (.agg zeroCells) (.int .i64 1)).run Tryd.prog w = .ok (.int .i32 1632) w := by kernel_rfl
theorem ix2 (w : World) : (Instr.index 113 (.agg zeroCells) (.int .i64 2)).run Tryd.prog w = .ok (.int .i32 1776) w := by kernel_rfl
theorem ix3 (w : World) : (Instr.index 113 (.agg zeroCells) (.int .i64 3)).run Tryd.prog w = .ok (.int .i32 65296) w := by kernel_rfl

/-- How a text gives up. -/
def fault (e p : Int) : List PanicEntry := [{ v := .iface 66 (.agg #[.int .i64 e, .int .i64 p]), recovered := false }]

set_option maxHeartbeats 400000 in
theorem figure_row0 (c at_ : Int) (w : World) (hZ : Zeros w) (h : 48 ≤ c) (h' : c ≤ 57) :
    Calls Tryd.prog 63 #[.int .i64 at_, .int .i32 c] w fun e w' => e = .returned (.int .u64 (c - 48)) ∧ w' = w := by
  obtain ⟨t, fr, hz⟩ := hZ
  have i0 := ix0
  have i1 := ix1
  have i2 := ix2
  have i3 := ix3
  go_enter Tryd.func63, Tryd.ntmps63
  go_wp2_with (refine wpList_load_row rfl 113 _ rfl 2 rfl t _ fr _ hz Tryd.underlying113 rfl (by kernel_rfl) ?_)
  go_rounds 5
  go_ret
  exact ⟨rfl, rfl⟩
set_option maxHeartbeats 400000 in
theorem figure_row1 (c at_ : Int) (w : World) (hZ : Zeros w) (h : 1632 ≤ c) (h' : c ≤ 1641) :
    Calls Tryd.prog 63 #[.int .i64 at_, .int .i32 c] w fun e w' => e = .returned (.int .u64 (c - 1632)) ∧ w' = w := by
  obtain ⟨t, fr, hz⟩ := hZ
  have i0 := ix0
  have i1 := ix1
  have i2 := ix2
  have i3 := ix3
  go_enter Tryd.func63, Tryd.ntmps63
  go_wp2_with (refine wpList_load_row rfl 113 _ rfl 2 rfl t _ fr _ hz Tryd.underlying113 rfl (by kernel_rfl) ?_)
  go_rounds 5
  go_ret
  exact ⟨rfl, rfl⟩
set_option maxHeartbeats 400000 in
theorem figure_row2 (c at_ : Int) (w : World) (hZ : Zeros w) (h : 1776 ≤ c) (h' : c ≤ 1785) :
    Calls Tryd.prog 63 #[.int .i64 at_, .int .i32 c] w fun e w' => e = .returned (.int .u64 (c - 1776)) ∧ w' = w := by
  obtain ⟨t, fr, hz⟩ := hZ
  have i0 := ix0
  have i1 := ix1
  have i2 := ix2
  have i3 := ix3
  go_enter Tryd.func63, Tryd.ntmps63
  go_wp2_with (refine wpList_load_row rfl 113 _ rfl 2 rfl t _ fr _ hz Tryd.underlying113 rfl (by kernel_rfl) ?_)
  go_rounds 5
  go_ret
  exact ⟨rfl, rfl⟩
set_option maxHeartbeats 400000 in
theorem figure_row3 (c at_ : Int) (w : World) (hZ : Zeros w) (h : 65296 ≤ c) (h' : c ≤ 65305) :
    Calls Tryd.prog 63 #[.int .i64 at_, .int .i32 c] w fun e w' => e = .returned (.int .u64 (c - 65296)) ∧ w' = w := by
  obtain ⟨t, fr, hz⟩ := hZ
  have i0 := ix0
  have i1 := ix1
  have i2 := ix2
  have i3 := ix3
  go_enter Tryd.func63, Tryd.ntmps63
  go_wp2_with (refine wpList_load_row rfl 113 _ rfl 2 rfl t _ fr _ hz Tryd.underlying113 rfl (by kernel_rfl) ?_)
  go_rounds 5
  go_ret
  exact ⟨rfl, rfl⟩
set_option maxHeartbeats 400000 in
theorem figure_gap0 (c at_ : Int) (w : World) (hZ : Zeros w) (h' : c < 48) :
    Calls Tryd.prog 63 #[.int .i64 at_, .int .i32 c] w fun e w' => e = .panicked (fault 6 at_) ∧ w' = w := by
  obtain ⟨t, fr, hz⟩ := hZ
  have i0 := ix0
  have i1 := ix1
  have i2 := ix2
  have i3 := ix3
  go_enter Tryd.func63, Tryd.ntmps63
  go_wp2_with (refine wpList_load_row rfl 113 _ rfl 2 rfl t _ fr _ hz Tryd.underlying113 rfl (by kernel_rfl) ?_)
  go_rounds 5
  exact ⟨rfl, rfl, rfl⟩
set_option maxHeartbeats 400000 in
theorem figure_gap1 (c at_ : Int) (w : World) (hZ : Zeros w) (h : 57 < c) (h' : c < 1632) :
    Calls Tryd.prog 63 #[.int .i64 at_, .int .i32 c] w fun e w' => e = .panicked (fault 6 at_) ∧ w' = w := by
  obtain ⟨t, fr, hz⟩ := hZ
  have i0 := ix0
  have i1 := ix1
  have i2 := ix2
  have i3 := ix3
  go_enter Tryd.func63, Tryd.ntmps63
  go_wp2_with (refine wpList_load_row rfl 113 _ rfl 2 rfl t _ fr _ hz Tryd.underlying113 rfl (by kernel_rfl) ?_)
  go_rounds 5
  exact ⟨rfl, rfl, rfl⟩
set_option maxHeartbeats 400000 in
theorem figure_gap2 (c at_ : Int) (w : World) (hZ : Zeros w) (h : 1641 < c) (h' : c < 1776) :
    Calls Tryd.prog 63 #[.int .i64 at_, .int .i32 c] w fun e w' => e = .panicked (fault 6 at_) ∧ w' = w := by
  obtain ⟨t, fr, hz⟩ := hZ
  have i0 := ix0
  have i1 := ix1
  have i2 := ix2
  have i3 := ix3
  go_enter Tryd.func63, Tryd.ntmps63
  go_wp2_with (refine wpList_load_row rfl 113 _ rfl 2 rfl t _ fr _ hz Tryd.underlying113 rfl (by kernel_rfl) ?_)
  go_rounds 5
  exact ⟨rfl, rfl, rfl⟩
set_option maxHeartbeats 400000 in
theorem figure_gap3 (c at_ : Int) (w : World) (hZ : Zeros w) (h : 1785 < c) (h' : c < 65296) :
    Calls Tryd.prog 63 #[.int .i64 at_, .int .i32 c] w fun e w' => e = .panicked (fault 6 at_) ∧ w' = w := by
  obtain ⟨t, fr, hz⟩ := hZ
  have i0 := ix0
  have i1 := ix1
  have i2 := ix2
  have i3 := ix3
  go_enter Tryd.func63, Tryd.ntmps63
  go_wp2_with (refine wpList_load_row rfl 113 _ rfl 2 rfl t _ fr _ hz Tryd.underlying113 rfl (by kernel_rfl) ?_)
  go_rounds 5
  exact ⟨rfl, rfl, rfl⟩
set_option maxHeartbeats 400000 in
theorem figure_gap4 (c at_ : Int) (w : World) (hZ : Zeros w) (h : 65305 < c) :
    Calls Tryd.prog 63 #[.int .i64 at_, .int .i32 c] w fun e w' => e = .panicked (fault 6 at_) ∧ w' = w := by
  obtain ⟨t, fr, hz⟩ := hZ
  have i0 := ix0
  have i1 := ix1
  have i2 := ix2
  have i3 := ix3
  go_enter Tryd.func63, Tryd.ntmps63
  go_wp2_with (refine wpList_load_row rfl 113 _ rfl 2 rfl t _ fr _ hz Tryd.underlying113 rfl (by kernel_rfl) ?_)
  go_rounds 5
  exact ⟨rfl, rfl, rfl⟩

theorem figure_yes (c at_ : Int) (w : World) (hZ : Zeros w) (h : 0 ≤ figOf c) :
    Calls Tryd.prog 63 #[.int .i64 at_, .int .i32 c] w fun e w' => e = .returned (.int .u64 (figOf c)) ∧ w' = w := by
  by_cases h0 : 48 ≤ c ∧ c ≤ 57
  · rw [show figOf c = c - 48 by simp [figOf, h0]]; exact figure_row0 c at_ w hZ h0.1 h0.2
  by_cases h1 : 1632 ≤ c ∧ c ≤ 1641
  · rw [show figOf c = c - 1632 by simp only [figOf, if_neg h0, if_pos h1]]; exact figure_row1 c at_ w hZ h1.1 h1.2
  by_cases h2 : 1776 ≤ c ∧ c ≤ 1785
  · rw [show figOf c = c - 1776 by simp only [figOf, if_neg h0, if_neg h1, if_pos h2]]; exact figure_row2 c at_ w hZ h2.1 h2.2
  by_cases h3 : 65296 ≤ c ∧ c ≤ 65305
  · rw [show figOf c = c - 65296 by simp only [figOf, if_neg h0, if_neg h1, if_neg h2, if_pos h3]]; exact figure_row3 c at_ w hZ h3.1 h3.2
  exfalso; simp only [figOf, if_neg h0, if_neg h1, if_neg h2, if_neg h3] at h; omega
theorem figure_no (c at_ : Int) (w : World) (hZ : Zeros w) (h : figOf c < 0) :
    Calls Tryd.prog 63 #[.int .i64 at_, .int .i32 c] w fun e w' => e = .panicked (fault 6 at_) ∧ w' = w := by
  by_cases h0 : c < 48
  · exact figure_gap0 c at_ w hZ h0
  by_cases h0' : c ≤ 57
  · exfalso; simp only [figOf, if_pos (show 48 ≤ c ∧ c ≤ 57 from ⟨by omega, h0'⟩)] at h; omega
  by_cases h1 : c < 1632
  · exact figure_gap1 c at_ w hZ (by omega) h1
  by_cases h1' : c ≤ 1641
  · exfalso; simp only [figOf, if_neg (show ¬ (48 ≤ c ∧ c ≤ 57) by omega), if_pos (show 1632 ≤ c ∧ c ≤ 1641 from ⟨by omega, h1'⟩)] at h; omega
  by_cases h2 : c < 1776
  · exact figure_gap2 c at_ w hZ (by omega) h2
  by_cases h2' : c ≤ 1785
  · exfalso; simp only [figOf, if_neg (show ¬ (48 ≤ c ∧ c ≤ 57) by omega), if_neg (show ¬ (1632 ≤ c ∧ c ≤ 1641) by omega), if_pos (show 1776 ≤ c ∧ c ≤ 1785 from ⟨by omega, h2'⟩)] at h; omega
  by_cases h3 : c < 65296
  · exact figure_gap3 c at_ w hZ (by omega) h3
  by_cases h3' : c ≤ 65305
  · exfalso; simp only [figOf, if_neg (show ¬ (48 ≤ c ∧ c ≤ 57) by omega), if_neg (show ¬ (1632 ≤ c ∧ c ≤ 1641) by omega), if_neg (show ¬ (1776 ≤ c ∧ c ≤ 1785) by omega), if_pos (show 65296 ≤ c ∧ c ≤ 65305 from ⟨by omega, h3'⟩)] at h; omega
  exact figure_gap4 c at_ w hZ (by omega)
theorem figOf_le (c : Int) : figOf c ≤ 9 ∧ -1 ≤ figOf c := by
  unfold figOf; split
  · omega
  split
  · omega
  split
  · omega
  split <;> omega
end Go.Proofs.YtjdcnlggpfkopaaDoor
