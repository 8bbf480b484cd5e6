/- A peer: a ninth sample drives the first one out. -/
import Derived.Test.YtjdcnlggpfkopaaPeerE
import Derived.Laws.CopyOwn
import Derived.Laws.Tables
namespace Go.Proofs.Ytjdcnlggpfkopaa
open Go.ChangeShapes Go.WideShapes Go.ChangeAt Go.RowKit
set_option linter.unusedVariables false

/-- The samples moved on by one. -/
def moved (sm : Nat → Int) : Nat → Int := fun j => if j < 14 then sm (j + 2) else sm j
def tail14 (sm : Nat → Int) : List Value := [.int .i64 (sm 2), .int .i64 (sm 3), .int .i64 (sm 4), .int .i64 (sm 5), .int .i64 (sm 6), .int .i64 (sm 7), .int .i64 (sm 8), .int .i64 (sm 9), .int .i64 (sm 10), .int .i64 (sm 11), .int .i64 (sm 12), .int .i64 (sm 13), .int .i64 (sm 14), .int .i64 (sm 15)]
theorem smSize : (Try.prog.info? 44).map (·.size) = some 2 := by kernel_rfl
theorem moved_cells (wt : Bool) (t : Int) (sm : Nat → Int) (c : Int) : ((pcells wt t sm c).toList.take (2 + 0) ++ tail14 sm ++ (pcells wt t sm c).toList.drop (2 + 0 + (tail14 sm).length)).toArray = pcells wt t (moved sm) c := rfl
theorem run_copy_peer (b : Nat) (wt : Bool) (t : Int) (sm : Nat → Int) (c : Int) (w : World) (hP : PeerAt w b wt t sm c) (ty : TypeId) :
    (Builtin.copy_ #[54, 54] ty #[.slice (some ⟨b, 2, none⟩) 8 8, .slice (some ⟨b, 4, none⟩) 7 7]).run Try.prog w = .ok (.int .i64 7) (w.setRow b (pcells wt t (moved sm) c)) := by
  have hl := run_loadCells_list (P := Try.prog) w ⟨b, 4, none⟩ (tail14 sm) (fun j u hu => by
    have hj : j < 14 := by
      rcases Nat.lt_or_ge j 14 with h | h
      · exact h
      · rw [List.getElem?_eq_none (show (tail14 sm).length ≤ j from h)] at hu; cases hu
    rw [Addr.add_lit b 4 j, cell_of_row w b (4 + j) _ _ _ hP, ← hu]
    match j, hj with
    | 0, _ => rfl
    | 1, _ => rfl
    | 2, _ => rfl
    | 3, _ => rfl
    | 4, _ => rfl
    | 5, _ => rfl
    | 6, _ => rfl
    | 7, _ => rfl
    | 8, _ => rfl
    | 9, _ => rfl
    | 10, _ => rfl
    | 11, _ => rfl
    | 12, _ => rfl
    | 13, _ => rfl
    | n + 14, h => omega)
  have hst := run_storeCells_at Try.prog b 2 _ (tail14 sm) 0 _ w hP (by simp [tail14]) (by intro v hv; simp only [tail14, List.mem_cons, List.not_mem_nil, or_false] at hv; rcases hv with rfl | rfl | rfl | rfl | rfl | rfl | rfl | rfl | rfl | rfl | rfl | rfl | rfl | rfl <;> rfl)
  rw [moved_cells] at hst
  have hu := Try.underlying54
  cases hq : Try.prog.info? 44 with
  | none => have := smSize; simp [hq] at this
  | some i =>
    have hi : i.size = 2 := by have := smSize; simpa [hq] using this
    have hl' : (loadCells ⟨b, 4, none⟩ 14).run Try.prog w = .ok (tail14 sm).toArray w := hl
    simp [Builtin.copy_, run_underlying hu, Builtin.lenOf, Builtin.firstCells, sizeOf, typeInfo, hq, hi, hl', hst, goInt]
set_option maxRecDepth 100000 in
set_option maxHeartbeats 800000 in
theorem keep_full (b : Nat) (wt : Bool) (t : Int) (sm : Nat → Int) (x y : Int) (w : World) (hP : PeerAt w b wt t sm 8) :
    Calls Try.prog 95 #[.pointer (some ⟨b, 0, none⟩), .agg #[.int .i64 x, .int .i64 y]] w fun r w' => r = .returned (.tuple #[]) ∧ PeerAt w' b wt t (upd (moved sm) 7 x y) 8 ∧ Turned w w' b := by
  have hb : b < w.heap.size := (Array.getElem?_eq_some_iff.1 hP).1
  have c18 : w.cell? ⟨b, 18, none⟩ = some (.int .i64 8) := by rw [cell_of_row w b 18 _ _ _ hP]; rfl
  obtain ⟨W, hW⟩ : ∃ W, W = (w.alloc (.cells #[.int .i64 x, .int .i64 y] 44)).drew := ⟨_, rfl⟩
  have PW : PeerAt W b wt t sm 8 := by rw [hW]; exact hP.below ((Below.refl _ _).alloc (Nat.le_refl _) _).drew
  have hcp := run_copy_peer b wt t sm 8 W PW
  rw [hW] at hcp
  have HP := hid_of hP
  have HPW := hid_of PW
  have HW := hid_of hW
  clear hP PW hW
  go_enter Try.func95, Try.ntmps95
  go_wp2
  refine region_tailS 8 (by kernel_rfl) (by kernel_rfl) ?_
  simp only [List.take_succ_cons, List.take_zero, List.drop_succ_cons, List.drop_zero]
  repeat (apply StillS.step; intro K hK; constructor; go_simp; apply hK; clear hK K)
  apply StillS.nil
  go_upto_region 3 with fail
  obtain ⟨Wc, hWc⟩ : ∃ Wc, Wc = (w.alloc (.cells #[.int .i64 x, .int .i64 y] 44)).drew.setRow b (pcells wt t (moved sm) 8) := ⟨_, rfl⟩
  have hPc : PeerAt Wc b wt t (moved sm) 8 := by
    rw [hWc]
    have := HPW.out
    rw [HW.out] at this
    exact setRow_heap _ b _ _ _ _ this
  have hTc : Turned w Wc b := by
    rw [hWc]
    refine ⟨below_setRow ((Below.refl _ _).alloc (by omega) _).drew (Nat.le_refl _) _, fun k h1 h2 => ?_⟩
    rw [setRow_other _ _ _ _ (by omega)]
    exact Below.heap_alloc _ _ _ h2
  have hSc : Wc.heap[w.heap.size]? = some (.cells #[.int .i64 x, .int .i64 y] 44 (0, 0)) := by
    rw [hWc, setRow_other _ _ _ _ (by omega)]
    exact heap_alloc_new _ _
  rw [← hWc]
  have hlc : w.heap.size < Wc.heap.size := (Array.getElem?_eq_some_iff.1 hSc).1
  have hbc : b < Wc.heap.size := by omega
  have d18 : Wc.cell? ⟨b, 18, none⟩ = some (.int .i64 8) := by rw [cell_of_row Wc b 18 _ _ _ hPc]; rfl
  have d16 : Wc.cell? ⟨b, 16, none⟩ = some (.int .i64 (moved sm 14)) := by rw [cell_of_row Wc b 16 _ _ _ hPc]; rfl
  have d17 : Wc.cell? ⟨b, 17, none⟩ = some (.int .i64 (moved sm 15)) := by rw [cell_of_row Wc b 17 _ _ _ hPc]; rfl
  have ds0 : Wc.cell? ⟨w.heap.size, 0, none⟩ = some (.int .i64 x) := by rw [cell_of_row Wc _ 0 _ _ _ hSc]; rfl
  have ds1 : Wc.cell? ⟨w.heap.size, 1, none⟩ = some (.int .i64 y) := by rw [cell_of_row Wc _ 1 _ _ _ hSc]; rfl
  have f0 : ∀ o, Wc.frozen? ⟨b, o, none⟩ = false := fun o => frozen_of_row Wc b o _ _ hPc
  have nb : ¬ w.heap.size = b := by omega
  have nb' : ¬ b = w.heap.size := by omega
  have HPc := hid_of hPc
  have HTc := hid_of hTc
  clear hWc hPc hTc hSc hcp c18 HP HPW HW
  go_wp2
  refine region_tailS 9 (by kernel_rfl) (by kernel_rfl) ?_
  simp only [List.take_succ_cons, List.take_zero, List.drop_succ_cons, List.drop_zero]
  repeat (apply StillS.step; intro K hK; constructor; go_simp; apply hK; clear hK K)
  apply StillS.nil
  go_wp2
  go_end0
  have h1 := heap_setCell_same _ b 18 _ _ (.int .i64 8) (heap_setCell_same _ b 17 _ _ (.int .i64 y) (heap_setCell_same _ b 16 _ _ (.int .i64 x) (heap_setCell_same Wc b 18 _ _ (.int .i64 7) HPc.out)))
  have h2 : Turned w ((((Wc.setCell ⟨b, 18, none⟩ (.int .i64 7)).setCell ⟨b, 16, none⟩ (.int .i64 x)).setCell ⟨b, 17, none⟩ (.int .i64 y)).setCell ⟨b, 18, none⟩ (.int .i64 8)) b := (((HTc.out.set _ _).set _ _).set _ _).set _ _
  exact ⟨rfl, h1, h2.bel.drew, h2.rest⟩
/-- A sample is kept: the last eight count. -/
def keepS (sm : Nat → Int) (c : Nat) (x y : Int) : Nat → Int := if c = 8 then upd (moved sm) 7 x y else upd sm c x y
def keepN (c : Nat) : Nat := if c = 8 then 8 else c + 1
theorem keep_any (b : Nat) (wt : Bool) (t : Int) (sm : Nat → Int) (c : Nat) (x y : Int) (w : World) (hP : PeerAt w b wt t sm c) (hc : c ≤ 8) :
    Calls Try.prog 95 #[.pointer (some ⟨b, 0, none⟩), .agg #[.int .i64 x, .int .i64 y]] w fun r w' => r = .returned (.tuple #[]) ∧ PeerAt w' b wt t (keepS sm c x y) ((keepN c : Nat) : Int) ∧ Turned w w' b := by
  unfold keepS keepN
  by_cases h : c = 8
  · subst h
    rw [if_pos rfl, if_pos rfl]
    exact keep_full b wt t sm x y w hP
  · rw [if_neg h, if_neg h]
    exact keep_lt b wt t sm c x y w hP (by omega)
end Go.Proofs.Ytjdcnlggpfkopaa
