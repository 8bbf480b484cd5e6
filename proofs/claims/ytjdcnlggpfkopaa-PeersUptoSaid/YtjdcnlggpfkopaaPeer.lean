/- A peer: NewPeer, Ask; what is checked; what is kept. -/
import Derived.Test.YtjdcnlggpfkopaaRep
import Derived.Test.YtjdcnlggpfkopaaStill
namespace Go.Proofs.Ytjdcnlggpfkopaa
open Go.ChangeShapes Go.WideShapes Go.ChangeAt Go.RowKit
set_option linter.unusedVariables false

/-- A peer's cells: does it wait, for what, its samples (offset and delay in turn), how many. -/
abbrev pcells (wt : Bool) (t : Int) (sm : Nat → Int) (c : Int) : Array Value := #[.bool wt, .int .u64 t, .int .i64 (sm 0), .int .i64 (sm 1), .int .i64 (sm 2), .int .i64 (sm 3), .int .i64 (sm 4), .int .i64 (sm 5), .int .i64 (sm 6), .int .i64 (sm 7), .int .i64 (sm 8), .int .i64 (sm 9), .int .i64 (sm 10), .int .i64 (sm 11), .int .i64 (sm 12), .int .i64 (sm 13), .int .i64 (sm 14), .int .i64 (sm 15), .int .i64 c]
/-- The peer at block b. -/
def PeerAt (w : World) (b : Nat) (wt : Bool) (t : Int) (sm : Nat → Int) (c : Int) : Prop := w.heap[b]? = some (.cells (pcells wt t sm c) 96 (0, 0))
/-- All other blocks stay. -/
structure Turned (w w' : World) (b : Nat) : Prop where
  bel : Below b w w'
  rest : ∀ k, b < k → k < w.heap.size → w'.heap[k]? = w.heap[k]?
theorem Turned.refl (w : World) (b : Nat) : Turned w w b := ⟨Below.refl _ _, fun _ _ _ => rfl⟩
theorem Turned.trans {w w1 w2 : World} {b : Nat} (h : Turned w w1 b) (k : Turned w1 w2 b) : Turned w w2 b := ⟨h.bel.trans k.bel, fun j h1 h2 => by rw [k.rest j h1 (Nat.lt_of_lt_of_le h2 h.bel.size), h.rest j h1 h2]⟩
theorem Turned.of_below {w w1 : World} {b : Nat} (h : Below w.heap.size w w1) (hb : b ≤ w.heap.size) : Turned w w1 b := ⟨h.mono hb, fun k _ h2 => h.block k h2⟩
theorem Turned.set {w w1 : World} {b : Nat} (h : Turned w w1 b) (i : Nat) (v : Value) : Turned w (w1.setCell ⟨b, i, none⟩ v) b :=
  h.trans ⟨Below.setCell (p := ⟨b, i, none⟩) (Below.refl _ _) (Nat.le_refl _) v, fun k h1 _ => Below.heap_setCell _ _ _ _ (by show k ≠ b; omega)⟩
theorem Turned.block {w w1 : World} {b k : Nat} (h : Turned w w1 b) (hk : k ≠ b) (hs : k < w.heap.size) : w1.heap[k]? = w.heap[k]? := by
  rcases Nat.lt_or_gt_of_ne hk with h1 | h1
  · exact h.bel.block k h1
  · exact h.rest k h1 hs

theorem frozen_of_row (w : World) (b o : Nat) (cs : Array Value) (t : TypeId) (h : w.heap[b]? = some (.cells cs t (0, 0))) : w.frozen? ⟨b, o, none⟩ = false := by
  simp [World.frozen?, h]

theorem newPeer_any (w : World) :
    Calls Try.prog 23 #[] w fun r w' => r = .returned (.pointer (some ⟨w.heap.size, 0, none⟩)) ∧ w' = w.alloc (.cells (pcells false 0 (fun _ => 0) 0) 96) := by
  go_enter Try.func23, Try.ntmps23
  go_wp2
  go_ret
  exact ⟨rfl, rfl⟩

/-- The bytes of a question. -/
def askList (t : Int) : List Int := formList (0 * 64 + 4 * 8 + 3) (0 % 256) (0 % 256) (0 % 256) 0 0 0 0 0 0 t
set_option maxRecDepth 100000 in
set_option maxHeartbeats 800000 in
theorem peerAsk_any (b : Nat) (wt : Bool) (t0 t : Int) (sm : Nat → Int) (c : Int) (w : World) (hP : PeerAt w b wt t0 sm c) (ht : 0 ≤ t ∧ t ≤ 18446744073709551615) :
    Calls Try.prog 65 #[.pointer (some ⟨b, 0, none⟩), .int .u64 t] w fun r w' => ∃ s, r = .returned s ∧ Formed w w' s 0 (askList t) ∧ PeerAt w' b true t sm c ∧ Turned w w' b := by
  have hb : b < w.heap.size := (Array.getElem?_eq_some_iff.1 hP).1
  have c0 : w.cell? ⟨b, 0, none⟩ = some (.bool wt) := by rw [cell_of_row w b 0 _ _ _ hP]; rfl
  have c1 : w.cell? ⟨b, 1, none⟩ = some (.int .u64 t0) := by rw [cell_of_row w b 1 _ _ _ hP]; rfl
  have f0 : ∀ o, w.frozen? ⟨b, o, none⟩ = false := fun o => frozen_of_row w b o _ _ hP
  have HF : Hid (Fits 0 4 3 0 0 0 0 0 0 0 0 0 t) := ⟨by decide, by decide, by decide, by decide, by decide, by decide, ht⟩
  have HP : Hid (PeerAt w b wt t0 sm c) := hP
  clear ht hP
  go_enter Try.func65, Try.ntmps65
  go_wp2_with fail
  have H2 : Hid (PeerAt ((w.setCell ⟨b, 0, none⟩ (.bool true)).setCell ⟨b, 1, none⟩ (.int .u64 t)) b true t sm c) := heap_setCell_same _ b 1 _ _ (.int .u64 t) (heap_setCell_same w b 0 _ _ (.bool true) HP.out)
  have T2 : Hid (Turned w ((w.setCell ⟨b, 0, none⟩ (.bool true)).setCell ⟨b, 1, none⟩ (.int .u64 t)) b) := ((Turned.refl w b).set 0 _).set 1 _
  have Z2 : Hid (((w.setCell ⟨b, 0, none⟩ (.bool true)).setCell ⟨b, 1, none⟩ (.int .u64 t)).heap.size = w.heap.size) := by show _ = _; simp
  refine (packetForm_any 0 4 3 0 0 0 0 0 0 0 0 0 t _ HF.out).mono ?_
  generalize (w.setCell ⟨b, 0, none⟩ (.bool true)).setCell ⟨b, 1, none⟩ (.int .u64 t) = w2 at H2 T2 Z2
  rw [show formErr 0 4 3 0 0 0 = 0 by decide]
  rintro r w3 ⟨s, rfl, hf, hb3⟩
  have H3 : Hid (Formed w w3 s 0 (askList t) ∧ PeerAt w3 b true t sm c ∧ Turned w w3 b) := ⟨hf.more (by rw [Z2.out]; exact Nat.le_refl _), by unfold PeerAt; rw [hb3.block b (by rw [Z2.out]; exact hb)]; exact H2.out, T2.out.trans (Turned.of_below hb3 (by rw [Z2.out]; omega))⟩
  clear hf hb3 H2 T2 Z2 HP HF
  go_wp2
  go_ret
  exact ⟨_, rfl, H3.out⟩
theorem ask_any (b : Nat) (wt : Bool) (t0 t : Int) (sm : Nat → Int) (c : Int) (w : World) (hP : PeerAt w b wt t0 sm c) (ht : 0 ≤ t ∧ t ≤ 18446744073709551615) :
    Calls Try.prog 44 #[.pointer (some ⟨b, 0, none⟩), .int .u64 t] w fun r w' => ∃ s, r = .returned s ∧ Formed w w' s 0 (askList t) ∧ PeerAt w' b true t sm c ∧ Turned w w' b := by
  have HP : Hid (PeerAt w b wt t0 sm c) := hP
  clear hP
  go_enter Try.func44, Try.ntmps44
  go_wp2_with fail
  refine (peerAsk_any b wt t0 t sm c w HP.out ht).mono ?_
  rintro r w1 ⟨s, rfl, h1⟩
  have H1 := hid_of h1
  clear h1
  go_wp2
  go_ret
  exact ⟨_, rfl, H1.out⟩

end Go.Proofs.Ytjdcnlggpfkopaa
