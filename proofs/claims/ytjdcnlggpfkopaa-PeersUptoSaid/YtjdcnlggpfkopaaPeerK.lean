/- A peer: a sample is kept. -/
import Derived.Test.YtjdcnlggpfkopaaPeerC
namespace Go.Proofs.Ytjdcnlggpfkopaa
open Go.ChangeShapes Go.WideShapes Go.ChangeAt Go.RowKit
set_option linter.unusedVariables false

/-- The samples with one more, the c-th. -/
def upd (sm : Nat → Int) (c : Nat) (x y : Int) : Nat → Int := fun j => if j = 2 * c then x else if j = 2 * c + 1 then y else sm j
theorem pc_upd (wt : Bool) (t : Int) (sm : Nat → Int) (c : Nat) (x y : Int) (hc : c < 8) : (((pcells wt t sm c).setIfInBounds (2 + c * 2) (.int .i64 x)).setIfInBounds (2 + c * 2 + 1) (.int .i64 y)).setIfInBounds 18 (.int .i64 ((c : Int) + 1)) = pcells wt t (upd sm c x y) ((c + 1 : Nat) : Int) := by
  match c, hc with
  | 0, _ => rfl
  | 1, _ => rfl
  | 2, _ => rfl
  | 3, _ => rfl
  | 4, _ => rfl
  | 5, _ => rfl
  | 6, _ => rfl
  | 7, _ => rfl
  | n + 8, h => omega
set_option maxRecDepth 100000 in
set_option maxHeartbeats 800000 in
theorem keep_lt (b : Nat) (wt : Bool) (t : Int) (sm : Nat → Int) (c : Nat) (x y : Int) (w : World) (hP : PeerAt w b wt t sm c) (hc : c < 8) :
    Calls Try.prog 95 #[.pointer (some ⟨b, 0, none⟩), .agg #[.int .i64 x, .int .i64 y]] w fun r w' => r = .returned (.tuple #[]) ∧ PeerAt w' b wt t (upd sm c x y) ((c + 1 : Nat) : Int) ∧ Turned w w' b := by
  have hb : b < w.heap.size := (Array.getElem?_eq_some_iff.1 hP).1
  have c18 : w.cell? ⟨b, 18, none⟩ = some (.int .i64 c) := by rw [cell_of_row w b 18 _ _ _ hP]; rfl
  obtain ⟨u1, cu1⟩ : ∃ u, w.cell? ⟨b, 2 + c * 2, none⟩ = some u := ⟨_, by rw [cell_of_row w b (2 + c * 2) _ _ _ hP]; exact Array.getElem?_eq_getElem (by simp; omega)⟩
  obtain ⟨u2, cu2⟩ : ∃ u, w.cell? ⟨b, 2 + c * 2 + 1, none⟩ = some u := ⟨_, by rw [cell_of_row w b (2 + c * 2 + 1) _ _ _ hP]; exact Array.getElem?_eq_getElem (by simp; omega)⟩
  have f0 : ∀ o, w.frozen? ⟨b, o, none⟩ = false := fun o => frozen_of_row w b o _ _ hP
  have HP : Hid (PeerAt w b wt t sm c) := hP
  have hc' : (c : Int) < 8 := by omega
  clear hP
  go_enter Try.func95, Try.ntmps95
  go_wp2
  refine region_tailS 9 (by kernel_rfl) (by kernel_rfl) ?_
  simp only [List.take_succ_cons, List.take_zero, List.drop_succ_cons, List.drop_zero]
  repeat (apply StillS.step; intro K hK; constructor; go_simp; apply hK; clear hK K)
  apply StillS.nil
  go_wp2
  go_end0
  have h1 := heap_setCell_same _ b 18 _ _ (.int .i64 ((c : Int) + 1)) (heap_setCell_same _ b (2 + c * 2 + 1) _ _ (.int .i64 y) (heap_setCell_same w b (2 + c * 2) _ _ (.int .i64 x) HP.out))
  rw [pc_upd wt t sm c x y hc] at h1
  refine ⟨rfl, ?_, ?_⟩
  · show (World.alloc _ _).heap[b]? = _
    rw [Below.heap_alloc _ _ _ (by simp; exact hb)]
    exact h1
  · have h2 : Turned w (((w.setCell ⟨b, 2 + c * 2, none⟩ (.int .i64 x)).setCell ⟨b, 2 + c * 2 + 1, none⟩ (.int .i64 y)).setCell ⟨b, 18, none⟩ (.int .i64 ((c : Int) + 1))) b := (((Turned.refl w b).set _ _).set _ _).set _ _
    exact h2.trans (Turned.of_below ((Below.refl _ _).alloc (Nat.le_refl _) _).drew (by simp; omega))
end Go.Proofs.Ytjdcnlggpfkopaa
