/- Many clocks, the document: how many allow a number. -/
import Derived.Test.YtjdcnlggpfkopaaSelD
import Derived.Deep.CutBlock
import Derived.Deep.DeepCutAuto
namespace Go.Proofs.Ytjdcnlggpfkopaa
open Go.ChangeShapes Go.WideShapes Go.ChangeAt Go.RowKit
set_option linter.unusedVariables false

theorem w64 (x : Int) (h0 : -9223372036854775808 ≤ x) (h1 : x ≤ 9223372036854775807) : IntKind.i64.wrap x = x := by rw [IntKind.wrap_i64]; omega
set_option maxRecDepth 100000 in
set_option maxHeartbeats 1600000 in
theorem allow_any (b off n c : Nat) (md fa : Nat → Int) (x : Int) (w : World) (hn : n ≤ 1000) (hT : TicksAt w b off n md fa) (hg : ∀ j, j < n → Tame md fa j) :
    Calls Try.prog 73 #[.slice (some ⟨b, off, none⟩) n c, .int .i64 x] w fun r w' => r = .returned (.int .i64 (countTo md fa x n)) ∧ Below w.heap.size w w' := by
  have HC : Hid (TicksAt w b off n md fa) := hT
  have HG : Hid (∀ j, j < n → Tame md fa j) := hg
  clear hT hg
  go_enter Try.func73, Try.ntmps73
  go_wp2
  go_loopw [5, 6] (fun cv i wr => ∃ k : Nat, k ≤ n ∧ i = .int .i64 k ∧ cv = .int .i64 (countTo md fa x k) ∧ Below w.heap.size w wr) (fun _ i _ => n - (intOf i).toNat)
  case atStart => exact ⟨0, by omega, rfl, rfl, Below.refl _ _⟩
  case round =>
    obtain ⟨k, hk, rfl, rfl, hbw⟩ := hrel
    have HW : Hid (Below w.heap.size w wr) := hbw
    clear hbw
    by_cases hlt : k < n
    · have hlt' : (k : Int) < n := by omega
      have hcl := countTo_le md fa x k
      have HS : Hid (countTo md fa x (k + 1) = if md k - fa k ≤ x ∧ x ≤ md k + fa k then countTo md fa x k + 1 else countTo md fa x k) := rfl
      generalize countTo md fa x k = C at hcl HS
      have hb : b < w.heap.size := HC.out.lt hlt
      have hbr : b < wr.heap.size := by have := HW.out.size; omega
      obtain ⟨g1, g2, g3, g4⟩ := HG.out k hlt
      obtain ⟨c1, c2⟩ := HC.out.below hb HW.out k hlt
      have hw1 := w64 (md k - fa k) (by omega) (by omega)
      have hw2 := w64 (md k + fa k) (by omega) (by omega)
      by_cases h1 : md k - fa k ≤ x
      · by_cases h2 : x ≤ md k + fa k
        · go_wp2
          refine region_stillS (by kernel_rfl) (by kernel_rfl) ?_
          repeat (apply StillS.step; intro K hK; constructor; go_simp; apply hK; clear hK K)
          apply StillS.nil
          go_wp2
          go_roundw
          case rel => exact ⟨k + 1, by omega, by go_num, by rw [HS.out, if_pos ⟨h1, h2⟩]; go_num, HW.out.drew⟩
          case measure => simp [intOf]; omega
        · go_wp2
          refine region_stillS (by kernel_rfl) (by kernel_rfl) ?_
          repeat (apply StillS.step; intro K hK; constructor; go_simp; apply hK; clear hK K)
          apply StillS.nil
          go_wp2
          go_roundw
          case rel => exact ⟨k + 1, by omega, by go_num, by rw [HS.out, if_neg (by omega)], HW.out.drew⟩
          case measure => simp [intOf]; omega
      · have hd : decide (md k - fa k ≤ x) = false := by simpa using h1
        go_wp2
        refine region_stillS (by kernel_rfl) (by kernel_rfl) ?_
        repeat (apply StillS.step; intro K hK; constructor; go_simp; apply hK; clear hK K)
        apply StillS.nil
        go_wp2
        go_roundw
        case rel => exact ⟨k + 1, by omega, by go_num, by rw [HS.out, if_neg (by omega)], HW.out.drew⟩
        case measure => simp [intOf]; omega
    · obtain rfl : k = n := by omega
      go_wp2
      go_ret
      exact ⟨rfl, HW.out⟩
end Go.Proofs.Ytjdcnlggpfkopaa
