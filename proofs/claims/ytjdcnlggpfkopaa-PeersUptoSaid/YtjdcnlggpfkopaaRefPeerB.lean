/- A peer of the document's own: an answer that is taken. -/
import Derived.Test.YtjdcnlggpfkopaaRefPeer
import Derived.Deep.RegionLaw
import Derived.Deep.AppendLies
import Derived.Deep.Cut
namespace Go.Proofs.Ytjdcnlggpfkopaa
open Go.ChangeShapes Go.WideShapes Go.ChangeAt Go.RowKit
set_option linter.unusedVariables false

/-- All that was there stays, but for the blocks of S. -/
structure Moved (w w' : World) (S : Nat → Prop) : Prop where
  os : w'.os = w.os
  tape : w'.tape = w.tape
  output : w'.output = w.output
  size : w.heap.size ≤ w'.heap.size
  block : ∀ k, k < w.heap.size → ¬ S k → w'.heap[k]? = w.heap[k]?
theorem Moved.refl (w : World) (S : Nat → Prop) : Moved w w S := ⟨rfl, rfl, rfl, Nat.le_refl _, fun _ _ _ => rfl⟩
theorem Moved.trans {w w1 w2 : World} {S : Nat → Prop} (h : Moved w w1 S) (k : Moved w1 w2 S) : Moved w w2 S :=
  ⟨k.os.trans h.os, k.tape.trans h.tape, k.output.trans h.output, Nat.le_trans h.size k.size, fun j h1 h2 => by rw [k.block j (Nat.lt_of_lt_of_le h1 h.size) h2, h.block j h1 h2]⟩
theorem Moved.mono {w w1 : World} {S S' : Nat → Prop} (h : Moved w w1 S) (hs : ∀ k, S k → S' k) : Moved w w1 S' := ⟨h.os, h.tape, h.output, h.size, fun k h1 h2 => h.block k h1 (fun h3 => h2 (hs k h3))⟩
theorem Moved.of_below {w w1 : World} {S : Nat → Prop} (h : Below w.heap.size w w1) : Moved w w1 S := ⟨h.os, h.tape, h.output, h.size, fun k h1 _ => h.block k h1⟩
theorem Moved.of_turned {w w1 : World} {b : Nat} {S : Nat → Prop} (h : Turned w w1 b) (hb : S b) : Moved w w1 S := ⟨h.bel.os, h.bel.tape, h.bel.output, h.bel.size, fun k h1 h2 => h.block (fun e => h2 (by rw [e]; exact hb)) h1⟩
theorem Moved.of_grown {w w1 : World} {row : Option Nat} {S : Nat → Prop} (h : w.grownBy w1 row) (hr : ∀ k, row = some k → S k) : Moved w w1 S := ⟨h.os, h.tape, h.output, h.size, fun k h1 h2 => h.block k h1 (fun e => h2 (hr k e.symm))⟩
theorem Moved.set {w : World} {S : Nat → Prop} (b i : Nat) (v : Value) (hb : S b) : Moved w (w.setCell ⟨b, i, none⟩ v) S :=
  ⟨rfl, rfl, rfl, by simp, fun k _ h2 => heap_setCell_other _ _ _ _ (fun e => h2 (by rw [e]; exact hb))⟩
theorem Moved.setNew {w W : World} {S : Nat → Prop} (h : Moved w W S) (k i : Nat) (v : Value) (hk : w.heap.size ≤ k) : Moved w (W.setCell ⟨k, i, none⟩ v) S :=
  ⟨h.os, h.tape, h.output, by rw [World.size_setCell]; exact h.size, fun j h1 h2 => by rw [heap_setCell_other _ _ _ _ (show j ≠ k by omega)]; exact h.block j h1 h2⟩
theorem Moved.setIn {w W : World} {S : Nat → Prop} (h : Moved w W S) (k i : Nat) (v : Value) (hk : S k) : Moved w (W.setCell ⟨k, i, none⟩ v) S :=
  ⟨h.os, h.tape, h.output, by rw [World.size_setCell]; exact h.size, fun j h1 h2 => by rw [heap_setCell_other _ _ _ _ (show j ≠ k from fun e => h2 (by rw [e]; exact hk))]; exact h.block j h1 h2⟩
/-- The cells of samples. -/
def smCells : List (Int × Int) → List Value
  | [] => []
  | (x, y) :: l => .int .i64 x :: .int .i64 y :: smCells l
theorem smCells_app (a b : List (Int × Int)) : smCells (a ++ b) = smCells a ++ smCells b := by
  induction a with
  | nil => rfl
  | cons p a ih => obtain ⟨x, y⟩ := p; simp [smCells, ih]
theorem smRow : (Try.prog.info? 44).map (fun i => (i.zero, i.size, i.bytes)) = some (some (.agg #[.int .i64 0, .int .i64 0]), 2, 16) := by kernel_rfl
theorem owns_moved {w w' : World} {base : Nat} {e : TypeId} {size : Nat} {v : Value} {n : Nat} {xs : List Value} {S : Nat → Prop} (h : w.ownsRow base e size v n xs) (hm : Moved w w' S) (hs : ∀ k, v.ownBlock = some k → ¬ S k) : w'.ownsRow base e size v n xs := by
  obtain ⟨h1, h2⟩ := h
  refine ⟨h1, ?_⟩
  rcases h2 with h | ⟨g, cap, cur, rfl, hg, hr, h3⟩
  · exact Or.inl h
  · exact Or.inr ⟨g, cap, cur, rfl, hg, by rw [hm.block g (Array.getElem?_eq_some_iff.1 hr).1 (hs g rfl)]; exact hr, h3⟩
theorem owns_ne {w : World} {base : Nat} {v : Value} {n : Nat} {xs : List Value} (h : w.ownsRow base 44 2 v n xs) {b : Nat} {cs : Array Value} {ty : TypeId} {fr : Nat × Nat} (hb : w.heap[b]? = some (.cells cs ty fr)) (hty : ty ≠ 44) : ∀ k, v.ownBlock = some k → k ≠ b := by
  intro k hk e
  subst e
  rcases h.2 with ⟨rfl, _⟩ | ⟨g, cap, cur, rfl, _, hr, _⟩
  · cases hk
  · simp [Value.ownBlock] at hk
    subst hk
    rw [hr] at hb
    cases hb
    exact hty rfl

set_option maxRecDepth 100000 in
set_option maxHeartbeats 4000000 in
theorem refTake_ok (b : Nat) (wt : Bool) (t : Int) (a : Option Addr) (N c : Nat) (ss : List (Int × Int)) (base : Nat) (o : Option Addr) (n cap : Nat) (z : Nat → Int) (u : Int) (w : World) (hP : RefAt w b wt t (.slice a N c)) (hO : w.ownsRow base 44 2 (.slice a N c) N (smCells ss)) (hN : N ≤ 10000000) (hbase : base ≤ w.heap.size) (hB : Bytes48 w o n cap z) (r : Pk × Int) (hr : r = parseOf n z) (he : takeErr r wt t = 0) :
    Calls Try.prog 67 #[.pointer (some ⟨b, 0, none⟩), .slice o n cap, .int .u64 u] w fun q w' => q = .returned (.tuple #[.agg #[.int .i64 (takeX r u), .int .i64 (takeY r u)], .int .i64 0]) ∧ (∃ a' c', RefAt w' b false t (.slice a' (N + 1) c') ∧ w'.ownsRow base 44 2 (.slice a' (N + 1) c') (N + 1) (smCells (ss ++ [(takeX r u, takeY r u)])) ∧ ∀ k, (Value.slice a' (N + 1) c').ownBlock = some k → (Value.slice a N c).ownBlock = some k ∨ w.heap.size ≤ k) ∧ Moved w w' (fun k => k = b ∨ (Value.slice a N c).ownBlock = some k) := by
  have hb : b < w.heap.size := (Array.getElem?_eq_some_iff.1 hP).1
  have HP : Hid (RefAt w b wt t (.slice a N c)) := hP
  have HO := hid_of hO
  have HB : Hid (Bytes48 w o n cap z) := hB
  have HR : Hid (r = parseOf n z) := hr
  have HE : Hid (takeErr r wt t = 0) := he
  have HBS := hid_of hbase
  have HLT : Hid (∀ k, (Value.slice a N c).ownBlock = some k → k < w.heap.size) := fun k hk => (hO.lt k hk).2
  clear hP hB hr he hO hbase
  go_enter Try.func67, Try.ntmps67
  go_wp2_with fail
  refine (refParse_any o n cap z _ (HB.out.alloc _) r HR.out).mono ?_
  rintro q w1 ⟨rfl, hb1⟩
  have B1 : Hid (Below w.heap.size w w1) := ((Below.refl _ _).alloc (Nat.le_refl _) _).trans (hb1.mono (by simp))
  have l1 : w.heap.size < w1.heap.size := by have := hb1.size; simp at this; omega
  have R1 : Hid (w1.heap[w.heap.size]? = some (.cells #[.int .i64 0, .int .i64 0] 44 (0, 0))) := by show _ = _; rw [hb1.block w.heap.size (by simp)]; exact heap_alloc_new _ _
  have P1 := hid_of (HP.out.below B1.out)
  have c0 : w1.cell? ⟨b, 0, none⟩ = some (.bool wt) := by rw [cell_of_row w1 b 0 _ _ _ P1.out]; rfl
  have c1 : w1.cell? ⟨b, 1, none⟩ = some (.int .u64 t) := by rw [cell_of_row w1 b 1 _ _ _ P1.out]; rfl
  have fb : ∀ o, w1.frozen? ⟨b, o, none⟩ = false := fun o => frozen_of_row w1 b o _ _ P1.out
  have hb1' : b < w1.heap.size := by omega
  have nb : ¬ b = w1.heap.size := by omega
  clear hb1 HB HR HP
  obtain ⟨⟨x1, x2, x3, x4, x5, x6, x7, x8, x9, x10, x11, x12, x13⟩, xe⟩ := r
  simp only [Pk.cells]
  obtain rfl : xe = 0 := by
    have h0 := HE.out
    unfold takeErr at h0
    by_cases h : xe = 0
    · exact h
    · rw [if_pos h] at h0; exact absurd h0 h
  have HN : Hid (checkOf wt t x1 x3 x4 x11 x12 x13 = 0) := by have := HE.out; unfold takeErr at this; rw [if_neg (by simp)] at this; exact this
  obtain ⟨k1, k2, k3, k4, k5, k6, k7⟩ : x3 = 4 ∧ wt = true ∧ x11 = t ∧ ¬ x4 < 1 ∧ ¬ 15 < x4 ∧ ¬ x1 = 3 ∧ ¬ diff x13 x12 < 0 := by
    have h := HN.out
    unfold checkOf at h
    by_cases e1 : x3 = 4
    · rw [if_neg (by simp [e1])] at h
      by_cases e2 : wt = false
      · rw [if_pos e2] at h; cases h
      · rw [if_neg e2] at h
        by_cases e3 : x11 = t
        · rw [if_neg (by simp [e3])] at h
          by_cases e4 : x4 < 1
          · rw [if_pos e4] at h; cases h
          · rw [if_neg e4] at h
            by_cases e5 : 15 < x4
            · rw [if_pos e5] at h; cases h
            · rw [if_neg e5] at h
              by_cases e6 : x1 = 3
              · rw [if_pos e6] at h; cases h
              · rw [if_neg e6] at h
                by_cases e7 : diff x13 x12 < 0
                · rw [if_pos e7] at h; cases h
                · exact ⟨e1, by simpa using e2, e3, e4, e5, e6, e7⟩
        · rw [if_pos e3] at h; cases h
    · rw [if_pos e1] at h; cases h
  subst k1 k2 k3
  have k6' : (x1 == 3) = false := by simp [k6]
  have HXY : Hid (takeX (⟨x1, x2, 4, x4, x5, x6, x7, x8, x9, x10, x11, x12, x13⟩, 0) u = offsetOf x11 x12 x13 u ∧ takeY (⟨x1, x2, 4, x4, x5, x6, x7, x8, x9, x10, x11, x12, x13⟩, 0) u = delayOf x11 x12 x13 u) := ⟨rfl, rfl⟩
  clear HE HN
  go_wp2
  refine region_stillS (by kernel_rfl) (by kernel_rfl) ?_
  repeat (apply StillS.step; intro K hK; constructor; go_simp; apply hK; clear hK K)
  apply StillS.nil
  go_wp2_with (first | (refine (refDifference_any x13 x12 _).mono ?_; rintro e w2 ⟨rfl, rfl⟩) | fail)
  obtain ⟨W2, hW2⟩ : ∃ W2, W2 = ((w1.setCell ⟨b, 0, none⟩ (.bool false)).alloc (.cells #[.int .i64 x1, .int .i64 x2, .int .i64 4, .int .i64 x4, .int .i64 x5, .int .i64 x6, .int .u32 x7, .int .u32 x8, .int .u32 x9, .int .u64 x10, .int .u64 x11, .int .u64 x12, .int .u64 x13] 26)).drew := ⟨_, rfl⟩
  rw [← hW2]
  have P2 : Hid (RefAt W2 b false x11 (.slice a N c)) := by
    have h := heap_setCell_same w1 b 0 _ _ (.bool false) P1.out
    rw [hW2]
    show (World.alloc _ _).heap[b]? = _
    rw [Below.heap_alloc _ _ _ (by simp; omega)]
    exact h
  have M2 : Hid (Moved w W2 (fun k => k = b ∨ (Value.slice a N c).ownBlock = some k)) := by
    rw [hW2]
    exact (Moved.of_below B1.out).trans ((Moved.set b 0 _ (Or.inl rfl)).trans (Moved.of_below ((Below.refl _ _).alloc (Nat.le_refl _) _).drew))
  have R2 : Hid (W2.heap[w.heap.size]? = some (.cells #[.int .i64 0, .int .i64 0] 44 (0, 0))) := by
    rw [hW2]
    show (World.alloc _ _).heap[w.heap.size]? = _
    rw [Below.heap_alloc _ _ _ (by simp; omega), heap_setCell_other _ _ _ _ (show w.heap.size ≠ b by omega)]
    exact R1.out
  have O2 : Hid (W2.ownsRow base 44 2 (.slice a N c) N (smCells ss)) := by
    have hne := owns_ne (owns_moved (S := fun _ => False) HO.out (Moved.of_below B1.out) (fun _ _ h => h)) P1.out (by decide)
    rw [hW2]
    exact owns_moved (S := fun k => k = b) HO.out ((Moved.of_below B1.out).trans ((Moved.set (S := fun k => k = b) b 0 _ rfl).trans (Moved.of_below ((Below.refl _ _).alloc (Nat.le_refl _) _).drew))) hne
  clear hW2 P1 R1 HO B1 c0 c1 fb hb1' nb l1
  refine (refMeasure_any x11 x12 x13 u _).mono ?_
  rintro q w3 ⟨rfl, hb3⟩
  have P3 := hid_of (P2.out.below hb3)
  have M3 : Hid (Moved w w3 (fun k => k = b ∨ (Value.slice a N c).ownBlock = some k)) := M2.out.trans (Moved.of_below hb3)
  have r3 : w3.heap[w.heap.size]? = some (.cells #[.int .i64 0, .int .i64 0] 44 (0, 0)) := by rw [hb3.block _ (Array.getElem?_eq_some_iff.1 R2.out).1]; exact R2.out
  have O3 := hid_of (owns_moved (S := fun _ => False) O2.out (Moved.of_below hb3) (fun _ _ h => h))
  have l3 : w.heap.size < w3.heap.size := (Array.getElem?_eq_some_iff.1 r3).1
  have R3 := hid_of r3
  have d2 : w3.cell? ⟨b, 2, none⟩ = some (.slice a N c) := by rw [cell_of_row w3 b 2 _ _ _ P3.out]; rfl
  have hb3' : b < w3.heap.size := by omega
  clear hb3 r3 P2 M2 R2 O2
  generalize offsetOf x11 x12 x13 u = X at HXY
  generalize delayOf x11 x12 x13 u = Y at HXY
  obtain ⟨i0, hi0, hz0, hz1, hz2⟩ := info_parts smRow
  have fb3 : ∀ o, w3.frozen? ⟨b, o, none⟩ = false := fun o => frozen_of_row w3 b o _ _ P3.out
  have hne : (Value.slice a N c).ownBlock ≠ some b := fun e => owns_ne O3.out P3.out (by decide) b e rfl
  have hne3 : (Value.slice a N c).ownBlock ≠ some w3.heap.size := fun e => by have := (O3.out.lt _ e).2; omega
  have hbs3 : base ≤ w3.heap.size := by have := HBS.out; omega
  go_wp2
  go_region_law
    ((refine step_append_lies _ (by rfl) _ _ _ (by rfl) base 44 i0 _ 2 16 Try.underlying54 hi0 hz0 hz1 hz2 rfl (by omega) (.slice a N c) N (smCells ss) (by rfl) (((O3.out.alloc _).alloc _).drew)
        ⟨w3.heap.size + 1, 0, none⟩ 1 1 [.int .i64 X, .int .i64 Y] (by rfl) (by rfl) (World.news_of_block (cs := #[.int .i64 X, .int .i64 Y]) (t := 44) (fr := (0, 0)) (by have := heap_alloc_new (w3.alloc (.cells #[.int .i64 X, .int .i64 Y] 44)) (.cells #[.int .i64 X, .int .i64 Y] 44); rw [World.size_alloc] at this; exact this)) (by simp [Value.oneCell'])
        (by omega) (by unfold maxLen; omega) (by omega) (by simp; omega) (w3.heap.size + 1 + 1) (by simp) ?_; intro gg cap5 w5 hown5 hgrow hat hlt; have e2 : w5.cell? ⟨b, 2, none⟩ = some (.slice a N c) := (hgrow.cell_far ⟨b, 2, none⟩ (by simp; omega) (Ne.symm hne)).trans (by simp [go_sem, d2, hb3']); have g2 : w5.frozen? ⟨b, 2, none⟩ = false := (hgrow.frozen_far ⟨b, 2, none⟩ (by simp; omega) (Ne.symm hne)).trans (by simp [go_sem, fb3, hb3'])))
  all_goals
    have hneR : (Value.slice a N c).ownBlock ≠ some w.heap.size := fun e => by have := HLT.out _ e; omega
    have s0 : w5.cell? ⟨w3.heap.size, 0, none⟩ = some (.int .i64 X) := (hgrow.cell_far ⟨w3.heap.size, 0, none⟩ (by simp; omega) (Ne.symm hne3)).trans (by simp [go_sem])
    have s1 : w5.cell? ⟨w3.heap.size, 1, none⟩ = some (.int .i64 Y) := (hgrow.cell_far ⟨w3.heap.size, 1, none⟩ (by simp; omega) (Ne.symm hne3)).trans (by simp [go_sem])
    have d0 : w3.cell? ⟨w.heap.size, 0, none⟩ = some (.int .i64 0) := by rw [cell_of_row w3 _ 0 _ _ _ R3.out]; rfl
    have d1 : w3.cell? ⟨w.heap.size, 1, none⟩ = some (.int .i64 0) := by rw [cell_of_row w3 _ 1 _ _ _ R3.out]; rfl
    have df : ∀ o, w3.frozen? ⟨w.heap.size, o, none⟩ = false := fun o => frozen_of_row w3 _ o _ _ R3.out
    have r0 : w5.cell? ⟨w.heap.size, 0, none⟩ = some (.int .i64 0) := (hgrow.cell_far ⟨w.heap.size, 0, none⟩ (by simp; omega) (Ne.symm hneR)).trans (by simp [go_sem, d0, l3])
    have r1 : w5.cell? ⟨w.heap.size, 1, none⟩ = some (.int .i64 0) := (hgrow.cell_far ⟨w.heap.size, 1, none⟩ (by simp; omega) (Ne.symm hneR)).trans (by simp [go_sem, d1, l3])
    have rf0 : w5.frozen? ⟨w.heap.size, 0, none⟩ = false := (hgrow.frozen_far ⟨w.heap.size, 0, none⟩ (by simp; omega) (Ne.symm hneR)).trans (by simp [go_sem, df, l3])
    have rf1 : w5.frozen? ⟨w.heap.size, 1, none⟩ = false := (hgrow.frozen_far ⟨w.heap.size, 1, none⟩ (by simp; omega) (Ne.symm hneR)).trans (by simp [go_sem, df, l3])
    have l5 : w3.heap.size + 2 ≤ w5.heap.size := by have := hgrow.size; simp at this; omega
    have nb1 : ¬ b = w.heap.size := by omega
    have nb2 : ¬ w.heap.size = b := by omega
    have nb3 : ¬ w3.heap.size = b := by omega
    have nb4 : ¬ b = w3.heap.size := by omega
    have lb5 : b < w5.heap.size := by omega
    have lw5 : w.heap.size < w5.heap.size := by omega
    have ls5 : w3.heap.size < w5.heap.size := by omega
    have HG := hid_of hgrow
    have HOW := hid_of hown5
    clear hgrow hown5 d0 d1 df d2 fb3
    go_wp2
    refine bodyPost_ret (v := .tuple #[.agg #[.int .i64 X, .int .i64 Y], .int .i64 0]) (by simp [results, Try.results67, go_sem, r0, r1]) rfl ?_
    rw [HXY.out.1, HXY.out.2]
    have hrow5 : w5.heap[b]? = some (.cells #[.bool false, .int .u64 x11, .slice a N c] 56 (0, 0)) := by
      rw [HG.out.block b (by simp; omega) (Ne.symm hne)]
      show ((w3.alloc _).alloc _).heap[b]? = _
      rw [Below.heap_alloc _ _ _ (by simp; omega), Below.heap_alloc _ _ _ hb3']
      exact P3.out
    have hgb : gg ≠ b := by rcases hat with h | h; (exact fun e => hne (by rw [h, e])); omega
    have hgw : gg ≠ w.heap.size := by rcases hat with h | h; (exact fun e => hneR (by rw [h, e])); omega
    have M5 : Moved w w5 (fun k => k = b ∨ (Value.slice a N c).ownBlock = some k) := (M3.out.trans (Moved.of_below (((Below.refl _ _).alloc (Nat.le_refl _) _).alloc (by simp) _).drew)).trans (Moved.of_grown HG.out (fun k hk => Or.inr hk))
    refine ⟨rfl, ⟨some ⟨gg, 0, none⟩, cap5, ?_, ?_, fun k hk => ?_⟩, ?_⟩
    · have h := heap_setCell_same w5 b 2 _ _ (.slice (some ⟨gg, 0, none⟩) (N + 1) cap5) hrow5
      show (World.setCell (World.setCell _ _ _) _ _).heap[b]? = _
      rw [heap_setCell_other _ _ _ _ (show b ≠ w.heap.size from nb1), heap_setCell_other _ _ _ _ (show b ≠ w.heap.size from nb1)]
      exact h
    · rw [smCells_app]
      exact owns_moved (S := fun k => k = b ∨ k = w.heap.size) HOW.out (((Moved.set b 2 _ (Or.inl rfl)).setIn w.heap.size 0 _ (Or.inr rfl)).setIn w.heap.size 1 _ (Or.inr rfl)) (fun k hk => by
        simp [Value.ownBlock] at hk
        subst hk
        omega)
    · simp [Value.ownBlock] at hk
      subst hk
      rcases hat with h | h
      · exact Or.inl h
      · exact Or.inr (by omega)
    · exact ((M5.setIn b 2 _ (Or.inl rfl)).setNew w.heap.size 0 _ (Nat.le_refl _)).setNew w.heap.size 1 _ (Nat.le_refl _)
end Go.Proofs.Ytjdcnlggpfkopaa
