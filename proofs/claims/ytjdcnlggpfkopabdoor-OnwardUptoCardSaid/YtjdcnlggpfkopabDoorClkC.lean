/- The landed clock: its four words; read, set. -/
import Derived.Test.YtjdcnlggpfkopabDoorClkB
namespace Go.Proofs.YtjdcnlggpfkopabDoor
open Go.ChangeShapes Go.WideShapes Go.ChangeAt Go.RowKit
set_option linter.unusedVariables false

/-- The clock's four words at block b: m times it was set. -/
structure CkAt (w : World) (b m : Nat) (kn : Bool) (cnt tm rt : Int) : Prop where
  row : w.heap[b]? = some (.cells #[.int .u64 (2 * (m : Int)), .int .u64 cnt, .int .u64 tm, .int .i64 rt] 65 (0, 0))
  known : kn = decide (0 < m)
  small : m ≤ 1000000000000
  c0 : 0 ≤ cnt
  c1 : cnt ≤ 18446744073709551615
  t0 : 0 ≤ tm
  t1 : tm ≤ 18446744073709551615
  r0 : -1000 ≤ rt
  r1 : rt ≤ 1000
theorem CkAt.lt {w : World} {b m : Nat} {kn : Bool} {cnt tm rt : Int} (h : CkAt w b m kn cnt tm rt) : b < w.heap.size := (Array.getElem?_eq_some_iff.1 h.row).1
theorem CkAt.below {w W : World} {b m : Nat} {kn : Bool} {cnt tm rt : Int} (h : CkAt w b m kn cnt tm rt) (hb : Below w.heap.size w W) : CkAt W b m kn cnt tm rt :=
  ⟨by rw [hb.block b h.lt]; exact h.row, h.known, h.small, h.c0, h.c1, h.t0, h.t1, h.r0, h.r1⟩
theorem CkAt.cells {w : World} {b m : Nat} {kn : Bool} {cnt tm rt : Int} (h : CkAt w b m kn cnt tm rt) :
    w.cell? ⟨b, 0, none⟩ = some (.int .u64 (2 * (m : Int))) ∧ w.cell? ⟨b, 1, none⟩ = some (.int .u64 cnt) ∧ w.cell? ⟨b, 2, none⟩ = some (.int .u64 tm) ∧ w.cell? ⟨b, 3, none⟩ = some (.int .i64 rt) :=
  ⟨by rw [cell_of_row w b 0 _ _ _ h.row]; rfl, by rw [cell_of_row w b 1 _ _ _ h.row]; rfl, by rw [cell_of_row w b 2 _ _ _ h.row]; rfl, by rw [cell_of_row w b 3 _ _ _ h.row]; rfl⟩
set_option maxRecDepth 100000 in
set_option maxHeartbeats 800000 in
theorem read_none (b : Nat) (cnt tm rt : Int) (w : World) (hC : CkAt w b 0 false cnt tm rt) :
    Calls Tryd.prog 29 #[.pointer (some ⟨b, 0, none⟩)] w fun e w' => e = .returned (.tuple #[.agg #[.int .u64 0, .int .u64 0, .int .i64 0], .bool false]) ∧ Below w.heap.size w w' := by
  have HL : Hid (∀ W, Below w.heap.size w W → W.cell? ⟨b, 0, none⟩ = some (.int .u64 0)) := hid_here fun W hW => (hC.below hW).cells.1
  clear hC
  go_enter Tryd.func29, Tryd.ntmps29
  go_wp2
  refine wp_loop_rounds 1 ?_
  rw [rounds_succ]
  go_wp2_with (go_at_call 45; refine (load_u64 b 0 0 _ (HL.out _ ((Below.refl _ _).alloc (Nat.le_refl _) _))).mono ?_; rintro e w1 ⟨rfl, h1⟩; replace h1 := h1.symm; subst h1)
  refine bodyPost_ret (v := .tuple #[.agg #[.int .u64 0, .int .u64 0, .int .i64 0], .bool false]) (by simp [results, Tryd.results29, go_sem]) rfl ?_
  exact ⟨rfl, (Below.refl _ _).alloc (Nat.le_refl _) _⟩
set_option maxRecDepth 100000 in
set_option maxHeartbeats 800000 in
theorem read_set (b m : Nat) (cnt tm rt : Int) (w : World) (hC : CkAt w b m true cnt tm rt) :
    Calls Tryd.prog 29 #[.pointer (some ⟨b, 0, none⟩)] w fun e w' => e = .returned (.tuple #[.agg #[.int .u64 cnt, .int .u64 tm, .int .i64 rt], .bool true]) ∧ Below w.heap.size w w' := by
  have hb := hC.lt
  have hm : 0 < m := by have := hC.known; simpa using this
  have hs := hC.small
  have hne : ¬ (2 * (m : Int)) = 0 := by omega
  have hod : (2 * (m : Int)).tmod 2 = 0 := by rw [Int.tmod_eq_emod_of_nonneg (by omega)]; omega
  have HC : Hid (∀ W, Below w.heap.size w W → W.cell? ⟨b, 0, none⟩ = some (.int .u64 (2 * (m : Int))) ∧ W.cell? ⟨b, 1, none⟩ = some (.int .u64 cnt) ∧ W.cell? ⟨b, 2, none⟩ = some (.int .u64 tm) ∧ W.cell? ⟨b, 3, none⟩ = some (.int .i64 rt)) := hid_here fun W hW => (hC.below hW).cells
  clear hC
  generalize 2 * (m : Int) = V at *
  go_enter Tryd.func29, Tryd.ntmps29
  go_wp2
  refine wp_loop_rounds 1 ?_
  rw [rounds_succ]
  go_wp2_with (go_at_call 45; refine (load_u64 b 0 V _ (HC.out _ ((Below.refl _ _).alloc (Nat.le_refl _) _)).1).mono ?_; rintro e w1 ⟨rfl, h1⟩; replace h1 := h1.symm; subst h1)
  refine region_tailS 13 (by kernel_rfl) (by kernel_rfl) ?_
  simp only [List.take_succ_cons, List.take_zero, List.drop_succ_cons, List.drop_zero]
  have B1 := hid_here (((Below.refl w.heap.size w).alloc (Nat.le_refl _) (.cells #[.int .u64 0, .int .u64 0, .int .i64 0] 74)).drew)
  repeat (apply StillS.step; intro K hK; constructor; go_simp; apply hK; clear hK K)
  apply StillS.step
  intro K hK
  constructor
  go_simp
  refine ⟨_, load_u64 b 1 cnt _ (HC.out _ B1.out).2.1, ?_⟩
  apply hK
  clear hK K
  repeat (apply StillS.step; intro K hK; constructor; go_simp; apply hK; clear hK K)
  apply StillS.step
  intro K hK
  constructor
  go_simp
  refine ⟨_, load_u64 b 2 tm _ (HC.out _ B1.out).2.2.1, ?_⟩
  apply hK
  clear hK K
  repeat (apply StillS.step; intro K hK; constructor; go_simp; apply hK; clear hK K)
  apply StillS.step
  intro K hK
  constructor
  go_simp
  refine ⟨_, load_i64 b 3 rt _ (HC.out _ B1.out).2.2.2, ?_⟩
  apply hK
  clear hK K
  repeat (apply StillS.step; intro K hK; constructor; go_simp; apply hK; clear hK K)
  apply StillS.nil
  go_wp2_with (go_at_call 45; refine (load_u64 b 0 V _ (HC.out _ ((Below.refl _ _).alloc (Nat.le_refl _) _).drew).1).mono ?_; rintro e w1 ⟨rfl, h1⟩; replace h1 := h1.symm; subst h1)
  refine bodyPost_ret (v := .tuple #[.agg #[.int .u64 cnt, .int .u64 tm, .int .i64 rt], .bool true]) (by simp [results, Tryd.results29, go_sem]) rfl ?_
  exact ⟨rfl, ((Below.refl _ _).alloc (Nat.le_refl _) _).drew⟩
end Go.Proofs.YtjdcnlggpfkopabDoor
