/- A peer: Best of several samples. -/
import Derived.Test.YtjdcnlggpfkopaaSpr
import Derived.Deep.RegionHeld3
import Derived.Deep.DeepCutAuto
namespace Go.Proofs.Ytjdcnlggpfkopaa
open Go.ChangeShapes Go.WideShapes Go.ChangeAt Go.RowKit
set_option linter.unusedVariables false

theorem keep_sets (W : World) (k b i j : Nat) (x y : Value) (h : b ≠ k) : ∀ o, ((W.setCell ⟨k, i, none⟩ x).setCell ⟨k, j, none⟩ y).cell? ⟨b, o, none⟩ = W.cell? ⟨b, o, none⟩ := fun o =>
  World.cell?_of_block (w := W) (a := ⟨b, o, none⟩) (by
    show ((W.setCell ⟨k, i, none⟩ x).setCell ⟨k, j, none⟩ y).heap[b]? = W.heap[b]?
    rw [heap_setCell_other _ _ _ _ (show b ≠ k from h), heap_setCell_other _ _ _ _ (show b ≠ k from h)])
set_option maxRecDepth 100000 in
set_option maxHeartbeats 800000 in
theorem peerBest_two (b : Nat) (wt : Bool) (t : Int) (sm : Nat → Int) (c : Nat) (w : World) (hP : PeerAt w b wt t sm c) (h2 : 2 ≤ c) (hc : c ≤ 8)
    :
    Calls Try.prog 68 #[.pointer (some ⟨b, 0, none⟩)] w fun q w' => q = .returned (.tuple #[.agg #[.int .i64 (offs sm (bestUpTo (dels sm) c)), .int .i64 (dels sm (bestUpTo (dels sm) c))], .float .f64 (spreadOf (offs sm) (bestUpTo (dels sm) c) c), .int .i64 0]) ∧ Below w.heap.size w w' := by
  have hb : b < w.heap.size := (Array.getElem?_eq_some_iff.1 hP).1
  have c18 : w.cell? ⟨b, 18, none⟩ = some (.int .i64 c) := by rw [cell_of_row w b 18 _ _ _ hP]; rfl
  have HP : Hid (PeerAt w b wt t sm c) := hP
  have h0 : 0 < c := by omega
  have hc1 : (c : Int) ≤ 8 := by omega
  have hc0 : ¬ (c : Int) = 0 := by omega
  clear hP
  go_enter Try.func68, Try.ntmps68
  go_wp2
  refine region_stillS (by kernel_rfl) (by kernel_rfl) ?_
  repeat (apply StillS.step; intro K hK; constructor; go_simp; apply hK; clear hK K)
  apply StillS.nil
  go_wp2_with fail
  have P1 : Hid (PeerAt (w.alloc (.cells #[.int .i64 0, .int .i64 0] 44)).drew b wt t sm c) := HP.out.below ((Below.refl _ _).alloc (Nat.le_refl _) _).drew
  refine (least_any b c (offs sm) (dels sm) _ hc (fun j hj => P1.out.cells j (by omega))).mono ?_
  rintro q w1 ⟨rfl, hb1⟩
  have B1 : Hid (Below w.heap.size w w1) := ((Below.refl _ _).alloc (Nat.le_refl _) _).drew.trans (hb1.mono (by simp))
  have r1 : w1.heap[w.heap.size]? = some (.cells #[.int .i64 0, .int .i64 0] 44 (0, 0)) := by rw [hb1.block w.heap.size (by simp)]; exact heap_alloc_new _ _
  have l1 : w.heap.size < w1.heap.size := (Array.getElem?_eq_some_iff.1 r1).1
  have cr0 : w1.cell? ⟨w.heap.size, 0, none⟩ = some (.int .i64 0) := by rw [cell_of_row w1 _ 0 _ _ _ r1]; rfl
  have cr1 : w1.cell? ⟨w.heap.size, 1, none⟩ = some (.int .i64 0) := by rw [cell_of_row w1 _ 1 _ _ _ r1]; rfl
  have fr : ∀ o, w1.frozen? ⟨w.heap.size, o, none⟩ = false := fun o => frozen_of_row w1 _ o _ _ r1
  have hBl := bestUpTo_lt (dels sm) c h0 c (Nat.le_refl _)
  generalize hBB : bestUpTo (dels sm) c = B at hBl
  have HBB := hid_of hBB
  have cb := (HP.out.below B1.out).cells B (by omega)
  have cb1 := cb.1
  have cb2 := cb.2
  have hB' : (B : Int) < c := by omega
  have HPC := hid_of (HP.out.below B1.out)
  clear hb1 r1 P1 hBB cb HP c18
  go_upto_region 5 with fail
  go_region_held3 (fun w' => ∀ o, w'.cell? ⟨b, o, none⟩ = w1.cell? ⟨b, o, none⟩) (first | exact fun o => rfl | exact keep_sets _ _ b _ _ _ _ (Nat.ne_of_lt hb)) (first | (go_at_call 87; refine (spread_any b c (offs sm) (dels sm) B w1.drew hc h2 hBl (fun j hj => HPC.out.cells j (by omega))).mono ?_; rintro e w' ⟨rfl, m, rfl⟩))
  all_goals
    go_wp2
    refine bodyPost_ret (v := .tuple #[.agg #[.int .i64 (offs sm B), .int .i64 (dels sm B)], .float .f64 (spreadOf (offs sm) B c), .int .i64 0]) (by simp [results, Try.results68, go_sem, cr0, cr1]) rfl ?_
    rw [HBB.out]
    exact ⟨rfl, Below.trans (Below.setCell (Below.setCell B1.out (Nat.le_refl _) _) (Nat.le_refl _) _) ⟨rfl, rfl, rfl, Nat.le_refl _, fun _ _ => rfl⟩⟩
end Go.Proofs.Ytjdcnlggpfkopaa
