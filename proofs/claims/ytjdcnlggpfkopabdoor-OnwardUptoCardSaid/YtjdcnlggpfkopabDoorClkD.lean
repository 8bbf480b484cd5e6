/- The landed clock: set. -/
import Derived.Test.YtjdcnlggpfkopabDoorClkC
namespace Go.Proofs.YtjdcnlggpfkopabDoor
open Go.ChangeShapes Go.WideShapes Go.ChangeAt Go.RowKit
set_option linter.unusedVariables false

theorem frozen_row (w : World) (b o : Nat) (cs : Array Value) (t : TypeId) (h : w.heap[b]? = some (.cells cs t (0, 0))) : w.frozen? ⟨b, o, none⟩ = false := by
  simp [World.frozen?, h]
/-- The clock's row and a box beside it, while the words change. -/
structure Chg (w w' : World) (b n : Nat) (v0 v1 v2 v3 x0 x1 x2 : Value) : Prop where
  row : w'.heap[b]? = some (.cells #[v0, v1, v2, v3] 65 (0, 0))
  box : w'.heap[n]? = some (.cells #[x0, x1, x2] 74 (0, 0))
  bel : Below b w w'
theorem Chg.drew {w w' : World} {b n : Nat} {v0 v1 v2 v3 x0 x1 x2 : Value} (h : Chg w w' b n v0 v1 v2 v3 x0 x1 x2) : Chg w w'.drew b n v0 v1 v2 v3 x0 x1 x2 := ⟨h.row, h.box, h.bel.drew⟩
theorem Chg.cells {w w' : World} {b n : Nat} {v0 v1 v2 v3 x0 x1 x2 : Value} (h : Chg w w' b n v0 v1 v2 v3 x0 x1 x2) :
    w'.cell? ⟨b, 0, none⟩ = some v0 ∧ w'.cell? ⟨b, 1, none⟩ = some v1 ∧ w'.cell? ⟨b, 2, none⟩ = some v2 ∧ w'.cell? ⟨b, 3, none⟩ = some v3 ∧ w'.cell? ⟨n, 0, none⟩ = some x0 ∧ w'.cell? ⟨n, 1, none⟩ = some x1 ∧ w'.cell? ⟨n, 2, none⟩ = some x2 :=
  ⟨by rw [cell_of_row w' b 0 _ _ _ h.row]; rfl, by rw [cell_of_row w' b 1 _ _ _ h.row]; rfl, by rw [cell_of_row w' b 2 _ _ _ h.row]; rfl, by rw [cell_of_row w' b 3 _ _ _ h.row]; rfl,
   by rw [cell_of_row w' n 0 _ _ _ h.box]; rfl, by rw [cell_of_row w' n 1 _ _ _ h.box]; rfl, by rw [cell_of_row w' n 2 _ _ _ h.box]; rfl⟩
theorem Chg.fz {w w' : World} {b n : Nat} {v0 v1 v2 v3 x0 x1 x2 : Value} (h : Chg w w' b n v0 v1 v2 v3 x0 x1 x2) (o : Nat) : w'.frozen? ⟨b, o, none⟩ = false := frozen_row w' b o _ _ h.row
theorem Chg.set {w w' : World} {b n : Nat} {v0 v1 v2 v3 x0 x1 x2 : Value} (h : Chg w w' b n v0 v1 v2 v3 x0 x1 x2) (hn : n ≠ b) (i : Nat) (v : Value) {u0 u1 u2 u3 : Value} (e : (#[v0, v1, v2, v3] : Array Value).setIfInBounds i v = #[u0, u1, u2, u3]) : Chg w (w'.setCell ⟨b, i, none⟩ v) b n u0 u1 u2 u3 x0 x1 x2 :=
  ⟨by rw [heap_setCell_same w' b i _ _ v h.row, e], by rw [Below.heap_setCell _ _ _ _ (by show n ≠ b; exact hn)]; exact h.box, Below.setCell (p := ⟨b, i, none⟩) h.bel (Nat.le_refl _) v⟩
set_option maxRecDepth 100000 in
set_option maxHeartbeats 800000 in
theorem set_any (b m : Nat) (kn : Bool) (cnt tm rt c t r : Int) (w : World) (hC : CkAt w b m kn cnt tm rt) (hm : m < 1000000000000) (c0 : 0 ≤ c) (c1 : c ≤ 18446744073709551615) (t0 : 0 ≤ t) (t1 : t ≤ 18446744073709551615) (r0 : -1000 ≤ r) (r1 : r ≤ 1000) :
    Calls Tryd.prog 31 #[.pointer (some ⟨b, 0, none⟩), .agg #[.int .u64 c, .int .u64 t, .int .i64 r]] w fun e w' => e = .returned (.tuple #[]) ∧ CkAt w' b (m + 1) true c t r ∧ Below b w w' := by
  have hb := hC.lt
  have hn : w.heap.size ≠ b := by omega
  have C0 : Hid (Chg w (w.alloc (.cells #[.int .u64 c, .int .u64 t, .int .i64 r] 74)) b w.heap.size (.int .u64 (2 * (m : Int))) (.int .u64 cnt) (.int .u64 tm) (.int .i64 rt) (.int .u64 c) (.int .u64 t) (.int .i64 r)) :=
    ⟨by rw [Below.heap_alloc _ _ _ hb]; exact hC.row, heap_alloc_new _ _, ((Below.refl _ _).alloc (Nat.le_refl _) _).mono (by omega)⟩
  clear hC
  go_enter Tryd.func31, Tryd.ntmps31
  go_wp2_with (go_at_call 49; refine (add_one b 0 (2 * (m : Int)) _ C0.out.cells.1 (C0.out.fz 0) (by omega) (by omega)).mono ?_; rintro e w1 ⟨rfl, h1⟩; have C1 := hid_here (C0.out.set hn 0 (.int .u64 (2 * (m : Int) + 1)) rfl); rw [← h1] at C1; clear h1 C0)
  have x1 := C1.out.cells.2.2.2.2.1
  refine region_tailS 5 (by kernel_rfl) (by kernel_rfl) ?_
  simp only [List.take_succ_cons, List.take_zero, List.drop_succ_cons, List.drop_zero]
  repeat (apply StillS.step; intro K hK; constructor; go_simp; apply hK; clear hK K)
  apply StillS.nil
  clear x1
  go_wp2_with (go_at_call 50; refine (store_u64 b 1 _ _ _ (C1.out.drew.cells.2.1) (C1.out.drew.fz 1)).mono ?_; rintro e w2 ⟨rfl, h1⟩; have C2 := hid_here (C1.out.drew.set hn 1 (.int .u64 c) rfl); rw [← h1] at C2; clear h1 C1)
  have x2 := C2.out.cells.2.2.2.2.2.1
  refine region_tailS 5 (by kernel_rfl) (by kernel_rfl) ?_
  simp only [List.take_succ_cons, List.take_zero, List.drop_succ_cons, List.drop_zero]
  repeat (apply StillS.step; intro K hK; constructor; go_simp; apply hK; clear hK K)
  apply StillS.nil
  clear x2
  go_wp2_with (go_at_call 50; refine (store_u64 b 2 _ _ _ (C2.out.drew.cells.2.2.1) (C2.out.drew.fz 2)).mono ?_; rintro e w3 ⟨rfl, h1⟩; have C3 := hid_here (C2.out.drew.set hn 2 (.int .u64 t) rfl); rw [← h1] at C3; clear h1 C2)
  have x3 := C3.out.cells.2.2.2.2.2.2
  refine region_tailS 5 (by kernel_rfl) (by kernel_rfl) ?_
  simp only [List.take_succ_cons, List.take_zero, List.drop_succ_cons, List.drop_zero]
  repeat (apply StillS.step; intro K hK; constructor; go_simp; apply hK; clear hK K)
  apply StillS.nil
  clear x3
  go_wp2_with (first | (go_at_call 49; refine (add_one b 0 (2 * (m : Int) + 1) _ C4.out.cells.1 (C4.out.fz 0) (by omega) (by omega)).mono ?_; rintro e w5 ⟨rfl, h1⟩; have C5 := hid_here (C4.out.set hn 0 (.int .u64 (2 * (m : Int) + 1 + 1)) rfl); rw [← h1] at C5; clear h1 C4) | (go_at_call 51; refine (store_i64 b 3 _ _ _ (C3.out.drew.cells.2.2.2.1) (C3.out.drew.fz 3)).mono ?_; rintro e w4 ⟨rfl, h1⟩; have C4 := hid_here (C3.out.drew.set hn 3 (.int .i64 r) rfl); rw [← h1] at C4; clear h1 C3))
  go_end0
  refine ⟨rfl, ⟨?_, by simp, by omega, c0, c1, t0, t1, r0, r1⟩, C5.out.bel⟩
  rw [C5.out.row, show 2 * (m : Int) + 1 + 1 = 2 * ((m + 1 : Nat) : Int) by omega]
end Go.Proofs.YtjdcnlggpfkopabDoor
