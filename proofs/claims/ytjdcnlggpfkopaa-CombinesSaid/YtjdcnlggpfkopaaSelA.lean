/- Many clocks, the code: how many allow a number; are they in their bounds. -/
import Derived.Test.YtjdcnlggpfkopaaSelM
import Derived.Test.YtjdcnlggpfkopaaStill
import Derived.WalkKit
import Derived.ProofKit
import Derived.OpenShut
import Derived.WalkLawsBesides
import Derived.Deep.QuietTactic
import Derived.BigQuiet
namespace Go.Proofs.Ytjdcnlggpfkopaa
open Go.ChangeShapes Go.WideShapes Go.ChangeAt Go.RowKit
set_option linter.unusedVariables false

/-- The clocks lie there. -/
def TicksAt (w : World) (b off n : Nat) (md fa : Nat → Int) : Prop := ∀ j, j < n → w.cell? ⟨b, off + j * 2, none⟩ = some (.int .i64 (md j)) ∧ w.cell? ⟨b, off + j * 2 + 1, none⟩ = some (.int .i64 (fa j))
theorem TicksAt.below {w w' : World} {b off n B : Nat} {md fa : Nat → Int} (h : TicksAt w b off n md fa) (hb : b < B) (hw : Below B w w') : TicksAt w' b off n md fa := fun j hj => by
  rw [hw.cell (p := ⟨b, off + j * 2, none⟩) hb, hw.cell (p := ⟨b, off + j * 2 + 1, none⟩) hb]; exact h j hj
theorem TicksAt.lt {w : World} {b off n : Nat} {md fa : Nat → Int} (h : TicksAt w b off n md fa) {j : Nat} (hj : j < n) : b < w.heap.size := World.block_lt_of_cell? w _ (h j hj).1

set_option maxRecDepth 100000 in
set_option maxHeartbeats 800000 in
theorem allowing_any (b off n c : Nat) (md fa : Nat → Int) (x : Int) (w : World) (hn : n ≤ 1000) (hT : TicksAt w b off n md fa) (hg : ∀ j, j < n → Tame md fa j) :
    Calls Try.prog 89 #[.slice (some ⟨b, off, none⟩) n c, .int .i64 x] w fun r w' => r = .returned (.int .i64 (countTo md fa x n)) ∧ Below w.heap.size w w' := by
  have HC : Hid (TicksAt w b off n md fa) := hT
  have HG : Hid (∀ j, j < n → Tame md fa j) := hg
  clear hT hg
  go_enter Try.func89, Try.ntmps89
  go_wp2
  go_loopw [5, 10] (fun cv i wr => ∃ k : Nat, k ≤ n ∧ i = .int .i64 k ∧ cv = .int .i64 (countTo md fa x k) ∧ Below w.heap.size w wr) (fun _ i _ => n - (intOf i).toNat)
  case atStart => exact ⟨0, by omega, rfl, rfl, Below.refl _ _⟩
  case round =>
    obtain ⟨k, hk, rfl, rfl, hbw⟩ := hrel
    have HW : Hid (Below w.heap.size w wr) := hbw
    clear hbw
    by_cases hlt : k < n
    · have hlt' : (k : Int) < n := by omega
      have hcl := countTo_le md fa x k
      have HS : Hid (countTo md fa x (k + 1) = if md k - fa k ≤ x ∧ x ≤ md k + fa k then countTo md fa x k + 1 else countTo md fa x k) := rfl
      generalize countTo md fa x k = C at hcl HS
      have hb : b < w.heap.size := HC.out.lt hlt
      have hbr : b < wr.heap.size := by have := HW.out.size; omega
      obtain ⟨g1, g2, g3, g4⟩ := HG.out k hlt
      obtain ⟨c1, c2⟩ := HC.out.below hb HW.out k hlt
      have nb : ¬ b = wr.heap.size := by omega
      have B1 : Hid (Below w.heap.size w (wr.alloc (.cells #[.int .i64 (md k), .int .i64 (fa k)] 104))) := HW.out.alloc HW.out.size _
      by_cases h1 : md k - fa k ≤ x
      · by_cases h2 : x ≤ md k + fa k
        · go_wp2
          go_roundw
          case rel => exact ⟨k + 1, by omega, by go_num, by rw [HS.out, if_pos ⟨h1, h2⟩]; go_num, B1.out⟩
          case measure => simp [intOf]; omega
        · go_wp2
          go_roundw
          case rel => exact ⟨k + 1, by omega, by go_num, by rw [HS.out, if_neg (by omega)], B1.out⟩
          case measure => simp [intOf]; omega
      · go_wp2
        go_roundw
        case rel => exact ⟨k + 1, by omega, by go_num, by rw [HS.out, if_neg (by omega)], B1.out⟩
        case measure => simp [intOf]; omega
    · obtain rfl : k = n := by omega
      go_wp2
      go_ret
      exact ⟨rfl, HW.out⟩
end Go.Proofs.Ytjdcnlggpfkopaa
