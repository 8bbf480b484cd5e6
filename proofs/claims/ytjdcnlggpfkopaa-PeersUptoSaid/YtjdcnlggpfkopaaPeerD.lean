/- A peer: Best. -/
import Derived.Test.YtjdcnlggpfkopaaPeerB
namespace Go.Proofs.Ytjdcnlggpfkopaa
open Go.ChangeShapes Go.WideShapes Go.ChangeAt Go.RowKit
set_option linter.unusedVariables false

theorem spread_one (a : Option Addr) (cap : Nat) (i : Int) (w : World) :
    Calls Try.prog 87 #[.slice a 1 cap, .int .i64 i] w fun r w' => r = .returned (.float .f64 0) ∧ w' = w := by
  go_enter Try.func87, Try.ntmps87
  go_wp2
  go_ret
  exact ⟨rfl, rfl⟩
def offs (sm : Nat → Int) : Nat → Int := fun j => sm (2 * j)
def dels (sm : Nat → Int) : Nat → Int := fun j => sm (2 * j + 1)
theorem PeerAt.cells {w : World} {b : Nat} {wt : Bool} {t : Int} {sm : Nat → Int} {c : Int} (h : PeerAt w b wt t sm c) (j : Nat) (hj : j < 8) : w.cell? ⟨b, 2 + j * 2, none⟩ = some (.int .i64 (offs sm j)) ∧ w.cell? ⟨b, 2 + j * 2 + 1, none⟩ = some (.int .i64 (dels sm j)) := by
  refine ⟨?_, ?_⟩
  · rw [cell_of_row w b (2 + j * 2) _ _ _ h]
    match j, hj with
    | 0, _ => rfl
    | 1, _ => rfl
    | 2, _ => rfl
    | 3, _ => rfl
    | 4, _ => rfl
    | 5, _ => rfl
    | 6, _ => rfl
    | 7, _ => rfl
    | n + 8, h => omega
  · rw [cell_of_row w b (2 + j * 2 + 1) _ _ _ h]
    match j, hj with
    | 0, _ => rfl
    | 1, _ => rfl
    | 2, _ => rfl
    | 3, _ => rfl
    | 4, _ => rfl
    | 5, _ => rfl
    | 6, _ => rfl
    | 7, _ => rfl
    | n + 8, h => omega
set_option maxRecDepth 100000 in
set_option maxHeartbeats 800000 in
theorem peerBest_any (b : Nat) (wt : Bool) (t : Int) (sm : Nat → Int) (c : Nat) (F : Nat) (w : World) (hP : PeerAt w b wt t sm c) (h0 : 0 < c) (hc : c ≤ 8)
    (hS : ∀ W : World, Below w.heap.size w W → Calls Try.prog 87 #[.slice (some ⟨b, 2, none⟩) c 8, .int .i64 (bestUpTo (dels sm) c)] W fun r w' => r = .returned (.float .f64 F) ∧ w' = W) :
    Calls Try.prog 68 #[.pointer (some ⟨b, 0, none⟩)] w fun q w' => q = .returned (.tuple #[.agg #[.int .i64 (offs sm (bestUpTo (dels sm) c)), .int .i64 (dels sm (bestUpTo (dels sm) c))], .float .f64 F, .int .i64 0]) ∧ Below w.heap.size w w' := by
  have hb : b < w.heap.size := (Array.getElem?_eq_some_iff.1 hP).1
  have c18 : w.cell? ⟨b, 18, none⟩ = some (.int .i64 c) := by rw [cell_of_row w b 18 _ _ _ hP]; rfl
  have HP : Hid (PeerAt w b wt t sm c) := hP
  have HS := hid_of hS
  have hc1 : (c : Int) ≤ 8 := by omega
  have hc0 : ¬ (c : Int) = 0 := by omega
  clear hP hS
  go_enter Try.func68, Try.ntmps68
  go_wp2
  refine region_stillS (by kernel_rfl) (by kernel_rfl) ?_
  repeat (apply StillS.step; intro K hK; constructor; go_simp; apply hK; clear hK K)
  apply StillS.nil
  go_wp2_with fail
  have P1 : Hid (PeerAt (w.alloc (.cells #[.int .i64 0, .int .i64 0] 44)).drew b wt t sm c) := HP.out.below ((Below.refl _ _).alloc (Nat.le_refl _) _).drew
  refine (least_any b c (offs sm) (dels sm) _ hc (fun j hj => P1.out.cells j (by omega))).mono ?_
  rintro q w1 ⟨rfl, hb1⟩
  have B1 : Hid (Below w.heap.size w w1) := ((Below.refl _ _).alloc (Nat.le_refl _) _).drew.trans (hb1.mono (by simp))
  have r1 : w1.heap[w.heap.size]? = some (.cells #[.int .i64 0, .int .i64 0] 44 (0, 0)) := by rw [hb1.block w.heap.size (by simp)]; exact heap_alloc_new _ _
  have l1 : w.heap.size < w1.heap.size := (Array.getElem?_eq_some_iff.1 r1).1
  have cr0 : w1.cell? ⟨w.heap.size, 0, none⟩ = some (.int .i64 0) := by rw [cell_of_row w1 _ 0 _ _ _ r1]; rfl
  have cr1 : w1.cell? ⟨w.heap.size, 1, none⟩ = some (.int .i64 0) := by rw [cell_of_row w1 _ 1 _ _ _ r1]; rfl
  have fr : ∀ o, w1.frozen? ⟨w.heap.size, o, none⟩ = false := fun o => frozen_of_row w1 _ o _ _ r1
  have hBl := bestUpTo_lt (dels sm) c h0 c (Nat.le_refl _)
  generalize hBB : bestUpTo (dels sm) c = B at hBl HS
  have HBB := hid_of hBB
  have cb := (HP.out.below B1.out).cells B (by omega)
  have cb1 := cb.1
  have cb2 := cb.2
  have hB' : (B : Int) < c := by omega
  clear hb1 r1 P1 hBB cb HP c18
  go_wp2
  refine region_tailS 7 (by kernel_rfl) (by kernel_rfl) ?_
  simp only [List.take_succ_cons, List.take_zero, List.drop_succ_cons, List.drop_zero]
  repeat (apply StillS.step; intro K hK; constructor; go_simp; apply hK; clear hK K)
  apply StillS.step
  intro K hK
  constructor
  go_simp
  refine ⟨_, HS.out _ B1.out.drew, ?_⟩
  apply hK
  clear hK K
  apply StillS.nil
  go_wp2
  refine bodyPost_ret (v := .tuple #[.agg #[.int .i64 (offs sm B), .int .i64 (dels sm B)], .float .f64 F, .int .i64 0]) (by simp [results, Try.results68, go_sem, cr0, cr1]) rfl ?_
  rw [HBB.out]
  exact ⟨rfl, (Below.setCell (Below.setCell B1.out (Nat.le_refl _) _) (Nat.le_refl _) _).drew⟩
set_option maxRecDepth 100000 in
set_option maxHeartbeats 800000 in
theorem peerBest_none (b : Nat) (wt : Bool) (t : Int) (sm : Nat → Int) (w : World) (hP : PeerAt w b wt t sm 0) :
    Calls Try.prog 68 #[.pointer (some ⟨b, 0, none⟩)] w fun q w' => q = .returned (.tuple #[.agg #[.int .i64 0, .int .i64 0], .float .f64 0, .int .i64 10]) ∧ Below w.heap.size w w' := by
  have hb : b < w.heap.size := (Array.getElem?_eq_some_iff.1 hP).1
  have c18 : w.cell? ⟨b, 18, none⟩ = some (.int .i64 0) := by rw [cell_of_row w b 18 _ _ _ hP]; rfl
  clear hP
  go_enter Try.func68, Try.ntmps68
  go_wp2
  refine bodyPost_ret (v := .tuple #[.agg #[.int .i64 0, .int .i64 0], .float .f64 0, .int .i64 10]) (by simp [results, Try.results68, go_sem]) rfl ?_
  exact ⟨rfl, (Below.refl _ _).alloc (Nat.le_refl _) _⟩
set_option maxRecDepth 100000 in
set_option maxHeartbeats 800000 in
theorem best_of (b : Nat) (x y : Int) (F : Nat) (er : Int) (w : World)
    (h : ∀ W : World, Below w.heap.size w W → Calls Try.prog 68 #[.pointer (some ⟨b, 0, none⟩)] W fun q w' => q = .returned (.tuple #[.agg #[.int .i64 x, .int .i64 y], .float .f64 F, .int .i64 er]) ∧ Below W.heap.size W w') :
    Calls Try.prog 48 #[.pointer (some ⟨b, 0, none⟩)] w fun q w' => q = .returned (.tuple #[.agg #[.int .i64 x, .int .i64 y], .float .f64 F, .int .i64 er]) ∧ Below w.heap.size w w' := by
  have HH := hid_of h
  clear h
  go_enter Try.func48, Try.ntmps48
  go_wp2_with fail
  refine (HH.out _ ((Below.refl _ _).alloc (Nat.le_refl _) _)).mono ?_
  rintro q w1 ⟨rfl, hb1⟩
  have B1 : Hid (Below w.heap.size w w1) := ((Below.refl _ _).alloc (Nat.le_refl _) _).trans (hb1.mono (by simp))
  have r1 : w1.heap[w.heap.size]? = some (.cells #[.int .i64 0, .int .i64 0] 44 (0, 0)) := by rw [hb1.block w.heap.size (by simp)]; exact heap_alloc_new _ _
  have l1 : w.heap.size < w1.heap.size := (Array.getElem?_eq_some_iff.1 r1).1
  have cr0 : w1.cell? ⟨w.heap.size, 0, none⟩ = some (.int .i64 0) := by rw [cell_of_row w1 _ 0 _ _ _ r1]; rfl
  have cr1 : w1.cell? ⟨w.heap.size, 1, none⟩ = some (.int .i64 0) := by rw [cell_of_row w1 _ 1 _ _ _ r1]; rfl
  have fr : ∀ o, w1.frozen? ⟨w.heap.size, o, none⟩ = false := fun o => frozen_of_row w1 _ o _ _ r1
  clear hb1 r1 HH
  go_wp2
  refine bodyPost_ret (v := .tuple #[.agg #[.int .i64 x, .int .i64 y], .float .f64 F, .int .i64 er]) (by simp [results, Try.results48, go_sem, cr0, cr1]) rfl ?_
  exact ⟨rfl, Below.setCell (Below.setCell B1.out (Nat.le_refl _) _) (Nat.le_refl _) _⟩
end Go.Proofs.Ytjdcnlggpfkopaa
