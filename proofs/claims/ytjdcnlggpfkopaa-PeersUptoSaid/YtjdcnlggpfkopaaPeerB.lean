/- A peer: which sample has the least delay. -/
import Derived.Test.YtjdcnlggpfkopaaPeerT
namespace Go.Proofs.Ytjdcnlggpfkopaa
open Go.ChangeShapes Go.WideShapes Go.ChangeAt Go.RowKit
set_option linter.unusedVariables false

/-- The place of the least of the first k, of several the last. -/
def bestUpTo (dl : Nat → Int) : Nat → Nat
  | 0 => 0
  | k + 1 => if dl k ≤ dl (bestUpTo dl k) then k else bestUpTo dl k
theorem bestUpTo_lt (dl : Nat → Int) (n : Nat) (hn : 0 < n) : ∀ k, k ≤ n → bestUpTo dl k < n
  | 0, _ => hn
  | k + 1, h => by
    unfold bestUpTo
    split
    · omega
    · exact bestUpTo_lt dl n hn k (by omega)
set_option maxRecDepth 100000 in
set_option maxHeartbeats 800000 in
theorem least_any (b n : Nat) (of dl : Nat → Int) (w : World) (hn : n ≤ 8) (hcell : ∀ j, j < n → w.cell? ⟨b, 2 + j * 2, none⟩ = some (.int .i64 (of j)) ∧ w.cell? ⟨b, 2 + j * 2 + 1, none⟩ = some (.int .i64 (dl j))) :
    Calls Try.prog 86 #[.slice (some ⟨b, 2, none⟩) n 8] w fun r w' => r = .returned (.int .i64 (bestUpTo dl n)) ∧ Below w.heap.size w w' := by
  have HC : Hid (∀ j, j < n → w.cell? ⟨b, 2 + j * 2, none⟩ = some (.int .i64 (of j)) ∧ w.cell? ⟨b, 2 + j * 2 + 1, none⟩ = some (.int .i64 (dl j))) := hcell
  clear hcell
  go_enter Try.func86, Try.ntmps86
  go_wp2
  go_loopw [3, 8] (fun bv i wr => ∃ k : Nat, k ≤ n ∧ i = .int .i64 k ∧ bv = .int .i64 (bestUpTo dl k) ∧ Below w.heap.size w wr) (fun _ i _ => n - (intOf i).toNat)
  case atStart => exact ⟨0, by omega, rfl, rfl, Below.refl _ _⟩
  case round =>
    obtain ⟨k, hk, rfl, rfl, hbw⟩ := hrel
    have HW := hid_of hbw
    clear hbw
    by_cases hlt : k < n
    · have hlt' : (k : Int) < n := by omega
      have hB := bestUpTo_lt dl n (by omega) k hk
      have HS : Hid (bestUpTo dl (k + 1) = if dl k ≤ dl (bestUpTo dl k) then k else bestUpTo dl k) := rfl
      generalize bestUpTo dl k = B at hB HS
      have hb : b < w.heap.size := World.block_lt_of_cell? w _ (HC.out k hlt).1
      have hbr : b < wr.heap.size := by have := HW.out.size; omega
      have c1 : wr.cell? ⟨b, 2 + k * 2, none⟩ = some (.int .i64 (of k)) := by rw [HW.out.cell (p := ⟨b, 2 + k * 2, none⟩) hb]; exact (HC.out k hlt).1
      have c2 : wr.cell? ⟨b, 2 + k * 2 + 1, none⟩ = some (.int .i64 (dl k)) := by rw [HW.out.cell (p := ⟨b, 2 + k * 2 + 1, none⟩) hb]; exact (HC.out k hlt).2
      have c3 : wr.cell? ⟨b, 2 + B * 2, none⟩ = some (.int .i64 (of B)) := by rw [HW.out.cell (p := ⟨b, 2 + B * 2, none⟩) hb]; exact (HC.out B hB).1
      have c4 : wr.cell? ⟨b, 2 + B * 2 + 1, none⟩ = some (.int .i64 (dl B)) := by rw [HW.out.cell (p := ⟨b, 2 + B * 2 + 1, none⟩) hb]; exact (HC.out B hB).2
      have hB' : (B : Int) < n := by omega
      have nb : ¬ b = wr.heap.size := by omega
      go_wp2
      refine region_stillS (by kernel_rfl) (by kernel_rfl) ?_
      repeat (apply StillS.step; intro K hK; constructor; go_simp; apply hK; clear hK K)
      apply StillS.nil
      have B1 : Hid (Below w.heap.size w (wr.alloc (.cells #[.int .i64 (of k), .int .i64 (dl k)] 44))) := HW.out.alloc HW.out.size _
      by_cases hd : dl k ≤ dl B
      · go_wp2
        go_roundw
        case rel => exact ⟨k + 1, by omega, by go_num, by rw [HS.out, if_pos hd], B1.out.drew⟩
        case measure => simp [intOf]; omega
      · go_wp2
        go_roundw
        case rel => exact ⟨k + 1, by omega, by go_num, by rw [HS.out, if_neg hd], B1.out.drew⟩
        case measure => simp [intOf]; omega
    · obtain rfl : k = n := by omega
      go_wp2
      go_ret
      exact ⟨rfl, HW.out⟩
end Go.Proofs.Ytjdcnlggpfkopaa
