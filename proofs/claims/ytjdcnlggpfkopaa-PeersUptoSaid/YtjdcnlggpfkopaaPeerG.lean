/- A peer: Take, with any number of samples. -/
import Derived.Test.YtjdcnlggpfkopaaPeerF
namespace Go.Proofs.Ytjdcnlggpfkopaa
open Go.ChangeShapes Go.WideShapes Go.ChangeAt Go.RowKit
set_option linter.unusedVariables false

set_option maxRecDepth 100000 in
set_option maxHeartbeats 2000000 in
theorem peerTake_ok (b : Nat) (wt : Bool) (t : Int) (sm : Nat → Int) (c : Nat) (o : Option Addr) (n cap : Nat) (z : Nat → Int) (u : Int) (w : World) (hP : PeerAt w b wt t sm c) (hB : Bytes48 w o n cap z) (r : Pk × Int) (hr : r = parseOf n z) (hc : c ≤ 8) (he : takeErr r wt t = 0) :
    Calls Try.prog 85 #[.pointer (some ⟨b, 0, none⟩), .slice o n cap, .int .u64 u] w fun q w' => q = .returned (.tuple #[.agg #[.int .i64 (takeX r u), .int .i64 (takeY r u)], .int .i64 0]) ∧ PeerAt w' b false t (keepS sm c (takeX r u) (takeY r u)) ((keepN c : Nat) : Int) ∧ Turned w w' b := by
  have HP : Hid (PeerAt w b wt t sm c) := hP
  have HB : Hid (Bytes48 w o n cap z) := hB
  have HR : Hid (r = parseOf n z) := hr
  have HE : Hid (takeErr r wt t = 0) := he
  clear hP hB hr he
  have hb : b < w.heap.size := (Array.getElem?_eq_some_iff.1 HP.out).1
  go_enter Try.func85, Try.ntmps85
  go_wp2_with fail
  refine (packetParse_any o n cap z _ (HB.out.alloc _) r HR.out).mono ?_
  rintro q w1 ⟨rfl, hb1⟩
  have B1 : Hid (Below w.heap.size w w1) := ((Below.refl _ _).alloc (Nat.le_refl _) _).trans (hb1.mono (by simp))
  have l1 : w.heap.size < w1.heap.size := by have := hb1.size; simp at this; omega
  have R1 : Hid (w1.heap[w.heap.size]? = some (.cells #[.int .i64 0, .int .i64 0] 44 (0, 0))) := by show _ = _; rw [hb1.block w.heap.size (by simp)]; exact heap_alloc_new _ _
  clear hb1 HB HR
  obtain ⟨⟨x1, x2, x3, x4, x5, x6, x7, x8, x9, x10, x11, x12, x13⟩, xe⟩ := r
  simp only [Pk.cells]
  obtain rfl : xe = 0 := by
    have h0 := HE.out
    unfold takeErr at h0
    by_cases h : xe = 0
    · exact h
    · rw [if_pos h] at h0; exact absurd h0 h
  have HN : Hid (checkOf wt t x1 x3 x4 x11 x12 x13 = 0) := by have := HE.out; unfold takeErr at this; rw [if_neg (by simp)] at this; exact this
  have HXY : Hid (takeX (⟨x1, x2, x3, x4, x5, x6, x7, x8, x9, x10, x11, x12, x13⟩, 0) u = offsetOf x11 x12 x13 u ∧ takeY (⟨x1, x2, x3, x4, x5, x6, x7, x8, x9, x10, x11, x12, x13⟩, 0) u = delayOf x11 x12 x13 u) := ⟨rfl, rfl⟩
  clear HE
  go_wp2_with fail
  have P1 : Hid (PeerAt (w1.alloc (.cells #[.int .i64 x1, .int .i64 x2, .int .i64 x3, .int .i64 x4, .int .i64 x5, .int .i64 x6, .int .u32 x7, .int .u32 x8, .int .u32 x9, .int .u64 x10, .int .u64 x11, .int .u64 x12, .int .u64 x13] 26)) b wt t sm c) := (HP.out.below B1.out).below ((Below.refl _ _).alloc (Nat.le_refl _) _)
  refine (check_any b wt t sm c _ P1.out x1 x2 x3 x4 x5 x6 x7 x8 x9 x10 x11 x12 x13).mono ?_
  rw [HN.out]
  rintro q w2 ⟨rfl, hb2⟩
  have l2 : w1.heap.size < w2.heap.size := by have := hb2.size; simp at this; omega
  have P2 : Hid (PeerAt w2 b wt t sm c) := P1.out.below hb2
  have T2 : Hid (Below w.heap.size w w2) := B1.out.trans (((Below.refl _ _).alloc (by omega) _).trans (hb2.mono (by simp; omega)))
  have R2 : Hid (w2.heap[w.heap.size]? = some (.cells #[.int .i64 0, .int .i64 0] 44 (0, 0))) := by show _ = _; rw [hb2.block w.heap.size (by simp; omega), Below.heap_alloc _ _ _ l1]; exact R1.out
  have c2 : ∀ o, w2.cell? ⟨w1.heap.size, o, none⟩ = (w1.alloc (.cells #[.int .i64 x1, .int .i64 x2, .int .i64 x3, .int .i64 x4, .int .i64 x5, .int .i64 x6, .int .u32 x7, .int .u32 x8, .int .u32 x9, .int .u64 x10, .int .u64 x11, .int .u64 x12, .int .u64 x13] 26)).cell? ⟨w1.heap.size, o, none⟩ := fun o => hb2.cell (p := ⟨w1.heap.size, o, none⟩) (by simp)
  have cb : w2.cell? ⟨b, 0, none⟩ = some (.bool wt) := by rw [cell_of_row w2 b 0 _ _ _ P2.out]; rfl
  have fb : w2.frozen? ⟨b, 0, none⟩ = false := frozen_of_row w2 b 0 _ _ P2.out
  have hb' : b < w2.heap.size := by omega
  have nb : ¬ b = w1.heap.size := by omega
  have nb' : ¬ w1.heap.size = b := by omega
  clear hb2 R1 B1 P1 HP HN
  go_wp2_with fail
  have P3 : Hid (PeerAt (w2.setCell ⟨b, 0, none⟩ (.bool false)) b false t sm c) := heap_setCell_same w2 b 0 _ _ (.bool false) P2.out
  have T3 : Hid (Turned w (w2.setCell ⟨b, 0, none⟩ (.bool false)) b) := (Turned.of_below T2.out (by omega)).set 0 _
  have R3 : Hid ((w2.setCell ⟨b, 0, none⟩ (.bool false)).heap[w.heap.size]? = some (.cells #[.int .i64 0, .int .i64 0] 44 (0, 0))) := by show _ = _; rw [heap_setCell_other _ _ _ _ (show w.heap.size ≠ b by omega)]; exact R2.out
  have Z3 : Hid (w.heap.size + 1 < (w2.setCell ⟨b, 0, none⟩ (.bool false)).heap.size) := by show _ < _; simp; omega
  refine (spanMeasure_any x11 x12 x13 u _).mono ?_
  generalize w2.setCell ⟨b, 0, none⟩ (.bool false) = w3 at P3 T3 R3 Z3
  rintro q w4 ⟨rfl, hb4⟩
  have P4 : Hid (PeerAt w4 b false t sm c) := P3.out.below hb4
  have T4 : Hid (Turned w w4 b) := T3.out.trans (Turned.of_below hb4 (by have := Z3.out; omega))
  have R4 : Hid (w4.heap[w.heap.size]? = some (.cells #[.int .i64 0, .int .i64 0] 44 (0, 0))) := by show _ = _; rw [hb4.block w.heap.size (by have := Z3.out; omega)]; exact R3.out
  have l4 : w.heap.size < w4.heap.size := (Array.getElem?_eq_some_iff.1 R4.out).1
  clear hb4 P3 T3 R3 Z3 P2 R2 T2 c2 cb fb hb' nb nb' l1 l2
  generalize offsetOf x11 x12 x13 u = X at HXY
  generalize delayOf x11 x12 x13 u = Y at HXY
  go_wp2_with fail
  have P5 : Hid (PeerAt (w4.alloc (.cells #[.int .i64 X, .int .i64 Y] 44)) b false t sm c) := P4.out.below ((Below.refl _ _).alloc (Nat.le_refl _) _)
  refine (keep_any b false t sm c X Y _ P5.out hc).mono ?_
  rintro q w6 ⟨rfl, p6, t6⟩
  have P6 := hid_of p6
  have T6 : Hid (Turned w w6 b) := (T4.out.trans (Turned.of_below ((Below.refl _ _).alloc (Nat.le_refl _) _) (by omega))).trans t6
  have l6 : w4.heap.size < w6.heap.size := by have := t6.bel.size; simp at this; omega
  have l6' : w.heap.size < w6.heap.size := by omega
  have r6 : w6.heap[w.heap.size]? = some (.cells #[.int .i64 0, .int .i64 0] 44 (0, 0)) := by rw [t6.block (by omega) (by simp; omega), Below.heap_alloc _ _ _ l4]; exact R4.out
  have s6 : w6.heap[w4.heap.size]? = some (.cells #[.int .i64 X, .int .i64 Y] 44 (0, 0)) := by rw [t6.block (by omega) (by simp)]; exact heap_alloc_new _ _
  have cr0 : w6.cell? ⟨w.heap.size, 0, none⟩ = some (.int .i64 0) := by rw [cell_of_row w6 _ 0 _ _ _ r6]; rfl
  have cr1 : w6.cell? ⟨w.heap.size, 1, none⟩ = some (.int .i64 0) := by rw [cell_of_row w6 _ 1 _ _ _ r6]; rfl
  have cs0 : w6.cell? ⟨w4.heap.size, 0, none⟩ = some (.int .i64 X) := by rw [cell_of_row w6 _ 0 _ _ _ s6]; rfl
  have cs1 : w6.cell? ⟨w4.heap.size, 1, none⟩ = some (.int .i64 Y) := by rw [cell_of_row w6 _ 1 _ _ _ s6]; rfl
  have fr : ∀ o, w6.frozen? ⟨w.heap.size, o, none⟩ = false := fun o => frozen_of_row w6 _ o _ _ r6
  have hb6 : b < w.heap.size := hb
  clear p6 t6 P5 P4 T4 R4 r6 s6
  go_wp2
  refine bodyPost_ret (v := .tuple #[.agg #[.int .i64 X, .int .i64 Y], .int .i64 0]) (by simp [results, Try.results85, go_sem, cr0, cr1]) rfl ?_
  rw [HXY.out.1, HXY.out.2]
  refine ⟨rfl, ?_, ?_⟩
  · unfold PeerAt
    rw [heap_setCell_other _ _ _ _ (show b ≠ w.heap.size by omega), heap_setCell_other _ _ _ _ (show b ≠ w.heap.size by omega)]
    exact P6.out
  · refine ⟨Below.setCell (Below.setCell T6.out.bel (by show b ≤ w.heap.size; omega) _) (by show b ≤ w.heap.size; omega) _, fun k h1 h2 => ?_⟩
    rw [heap_setCell_other _ _ _ _ (show k ≠ w.heap.size by omega), heap_setCell_other _ _ _ _ (show k ≠ w.heap.size by omega)]
    exact T6.out.rest k h1 h2

set_option maxRecDepth 100000 in
set_option maxHeartbeats 800000 in
theorem take_ok (b : Nat) (wt : Bool) (t : Int) (sm : Nat → Int) (c : Nat) (o : Option Addr) (n cap : Nat) (z : Nat → Int) (u : Int) (w : World) (hP : PeerAt w b wt t sm c) (hB : Bytes48 w o n cap z) (r : Pk × Int) (hr : r = parseOf n z) (hc : c ≤ 8) (he : takeErr r wt t = 0) :
    Calls Try.prog 66 #[.pointer (some ⟨b, 0, none⟩), .slice o n cap, .int .u64 u] w fun q w' => q = .returned (.tuple #[.agg #[.int .i64 (takeX r u), .int .i64 (takeY r u)], .int .i64 0]) ∧ PeerAt w' b false t (keepS sm c (takeX r u) (takeY r u)) ((keepN c : Nat) : Int) ∧ Turned w w' b := by
  have hb : b < w.heap.size := (Array.getElem?_eq_some_iff.1 hP).1
  have HP : Hid (PeerAt w b wt t sm c) := hP
  have HB : Hid (Bytes48 w o n cap z) := hB
  have HR : Hid (r = parseOf n z) := hr
  have HE : Hid (takeErr r wt t = 0) := he
  clear hP hB hr he
  go_enter Try.func66, Try.ntmps66
  go_wp2_with fail
  refine (peerTake_ok b wt t sm c o n cap z u _ (HP.out.below ((Below.refl _ _).alloc (Nat.le_refl _) _)) (HB.out.alloc _) r HR.out hc HE.out).mono ?_
  generalize hX : takeX r u = X
  generalize hY : takeY r u = Y
  have HX := hid_of hX
  have HY := hid_of hY
  clear hX hY
  rintro q w1 ⟨rfl, p1, t1⟩
  have P1 := hid_of p1
  have T1 : Hid (Turned w w1 b) := (Turned.of_below ((Below.refl _ _).alloc (Nat.le_refl _) _) (by omega)).trans t1
  have l1 : w.heap.size < w1.heap.size := by have := t1.bel.size; simp at this; omega
  have r1 : w1.heap[w.heap.size]? = some (.cells #[.int .i64 0, .int .i64 0] 44 (0, 0)) := by rw [t1.block (by omega) (by simp)]; exact heap_alloc_new _ _
  have cr0 : w1.cell? ⟨w.heap.size, 0, none⟩ = some (.int .i64 0) := by rw [cell_of_row w1 _ 0 _ _ _ r1]; rfl
  have cr1 : w1.cell? ⟨w.heap.size, 1, none⟩ = some (.int .i64 0) := by rw [cell_of_row w1 _ 1 _ _ _ r1]; rfl
  have fr : ∀ o, w1.frozen? ⟨w.heap.size, o, none⟩ = false := fun o => frozen_of_row w1 _ o _ _ r1
  clear p1 t1 r1 HP HB HR HE
  go_wp2
  refine bodyPost_ret (v := .tuple #[.agg #[.int .i64 X, .int .i64 Y], .int .i64 0]) (by simp [results, Try.results66, go_sem, cr0, cr1]) rfl ?_
  rw [HX.out, HY.out]
  refine ⟨rfl, ?_, ?_⟩
  · unfold PeerAt
    rw [heap_setCell_other _ _ _ _ (show b ≠ w.heap.size by omega), heap_setCell_other _ _ _ _ (show b ≠ w.heap.size by omega)]
    exact P1.out
  · refine ⟨Below.setCell (Below.setCell T1.out.bel (by show b ≤ w.heap.size; omega) _) (by show b ≤ w.heap.size; omega) _, fun k h1 h2 => ?_⟩
    rw [heap_setCell_other _ _ _ _ (show k ≠ w.heap.size by omega), heap_setCell_other _ _ _ _ (show k ≠ w.heap.size by omega)]
    exact T1.out.rest k h1 h2

/-- What Best answers: offset and delay, how much they differ, the error. -/
def bestOf (sm : Nat → Int) (c : Nat) : (Int × Int) × Nat × Int := if c = 0 then ((0, 0), 0, 10) else ((offs sm (bestUpTo (dels sm) c), dels sm (bestUpTo (dels sm) c)), (if c = 1 then 0 else spreadOf (offs sm) (bestUpTo (dels sm) c) c), 0)
theorem best_pos (sm : Nat → Int) (c : Nat) (hc : c ≤ 8) : PosF (bestOf sm c).2.1 := by
  unfold bestOf
  split
  · exact zero_pos
  · simp only
    split
    · exact zero_pos
    · exact spread_pos _ _ _ (by omega) hc
theorem peerBest_all (b : Nat) (wt : Bool) (t : Int) (sm : Nat → Int) (c : Nat) (w : World) (hP : PeerAt w b wt t sm c) (hc : c ≤ 8) :
    Calls Try.prog 68 #[.pointer (some ⟨b, 0, none⟩)] w fun q w' => q = .returned (.tuple #[.agg #[.int .i64 (bestOf sm c).1.1, .int .i64 (bestOf sm c).1.2], .float .f64 (bestOf sm c).2.1, .int .i64 (bestOf sm c).2.2]) ∧ Below w.heap.size w w' := by
  unfold bestOf
  by_cases h0 : c = 0
  · subst h0
    rw [if_pos rfl]
    exact peerBest_none b wt t sm w hP
  · rw [if_neg h0]
    by_cases h1 : c = 1
    · subst h1
      rw [if_pos rfl]
      exact peerBest_any b wt t sm 1 0 w hP (by decide) (by decide) (fun W' _ => spread_one _ _ _ W')
    · rw [if_neg h1]
      exact peerBest_two b wt t sm c w hP (by omega) hc
theorem best_all (b : Nat) (wt : Bool) (t : Int) (sm : Nat → Int) (c : Nat) (w : World) (hP : PeerAt w b wt t sm c) (hc : c ≤ 8) :
    Calls Try.prog 48 #[.pointer (some ⟨b, 0, none⟩)] w fun q w' => q = .returned (.tuple #[.agg #[.int .i64 (bestOf sm c).1.1, .int .i64 (bestOf sm c).1.2], .float .f64 (bestOf sm c).2.1, .int .i64 (bestOf sm c).2.2]) ∧ Below w.heap.size w w' :=
  best_of b _ _ _ _ w fun W hb => peerBest_all b wt t sm c W (hP.below hb) hc
end Go.Proofs.Ytjdcnlggpfkopaa
