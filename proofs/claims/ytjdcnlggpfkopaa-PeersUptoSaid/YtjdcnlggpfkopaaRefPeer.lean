/- A peer of the document's own: Ask, and an answer that is not taken. -/
import Derived.Test.YtjdcnlggpfkopaaPeerG
import Derived.Test.YtjdcnlggpfkopaaRefRep
namespace Go.Proofs.Ytjdcnlggpfkopaa
open Go.ChangeShapes Go.WideShapes Go.ChangeAt Go.RowKit
set_option linter.unusedVariables false

/-- The document's peer at block b. -/
def RefAt (w : World) (b : Nat) (wt : Bool) (t : Int) (sv : Value) : Prop := w.heap[b]? = some (.cells #[.bool wt, .int .u64 t, sv] 56 (0, 0))
theorem RefAt.below {w w' : World} {b : Nat} {wt : Bool} {t : Int} {sv : Value} (h : RefAt w b wt t sv) (hb : Below w.heap.size w w') : RefAt w' b wt t sv := by
  unfold RefAt; rw [hb.block b (Array.getElem?_eq_some_iff.1 h).1]; exact h
set_option maxRecDepth 100000 in
set_option maxHeartbeats 800000 in
theorem refAsk_any (b : Nat) (wt : Bool) (t0 t : Int) (sv : Value) (w : World) (hP : RefAt w b wt t0 sv) (ht : 0 ≤ t ∧ t ≤ 18446744073709551615) :
    Calls Try.prog 45 #[.pointer (some ⟨b, 0, none⟩), .int .u64 t] w fun r w' => ∃ s, r = .returned s ∧ RefFormed w w' s 0 (askList t) ∧ RefAt w' b true t sv ∧ Turned w w' b := by
  have hb : b < w.heap.size := (Array.getElem?_eq_some_iff.1 hP).1
  have c0 : w.cell? ⟨b, 0, none⟩ = some (.bool wt) := by rw [cell_of_row w b 0 _ _ _ hP]; rfl
  have c1 : w.cell? ⟨b, 1, none⟩ = some (.int .u64 t0) := by rw [cell_of_row w b 1 _ _ _ hP]; rfl
  have f0 : ∀ o, w.frozen? ⟨b, o, none⟩ = false := fun o => frozen_of_row w b o _ _ hP
  have HF : Hid (Fits 0 4 3 0 0 0 0 0 0 0 0 0 t) := ⟨by decide, by decide, by decide, by decide, by decide, by decide, ht⟩
  have HP : Hid (RefAt w b wt t0 sv) := hP
  clear ht hP
  go_enter Try.func45, Try.ntmps45
  go_wp2_with fail
  have H2 : Hid (RefAt ((w.setCell ⟨b, 0, none⟩ (.bool true)).setCell ⟨b, 1, none⟩ (.int .u64 t)) b true t sv) := heap_setCell_same _ b 1 _ _ (.int .u64 t) (heap_setCell_same w b 0 _ _ (.bool true) HP.out)
  have T2 : Hid (Turned w ((w.setCell ⟨b, 0, none⟩ (.bool true)).setCell ⟨b, 1, none⟩ (.int .u64 t)) b) := ((Turned.refl w b).set 0 _).set 1 _
  have Z2 : Hid (((w.setCell ⟨b, 0, none⟩ (.bool true)).setCell ⟨b, 1, none⟩ (.int .u64 t)).heap.size = w.heap.size) := by show _ = _; simp
  refine (refForm_any 0 4 3 0 0 0 0 0 0 0 0 0 t _ HF.out).mono ?_
  generalize (w.setCell ⟨b, 0, none⟩ (.bool true)).setCell ⟨b, 1, none⟩ (.int .u64 t) = w2 at H2 T2 Z2
  rw [show formErr 0 4 3 0 0 0 = 0 by decide]
  rintro r w3 ⟨s, rfl, hf, hb3⟩
  have H3 : Hid (RefFormed w w3 s 0 (askList t) ∧ RefAt w3 b true t sv ∧ Turned w w3 b) := ⟨hf.more (by rw [Z2.out]; exact Nat.le_refl _), by unfold RefAt; rw [hb3.block b (by rw [Z2.out]; exact hb)]; exact H2.out, T2.out.trans (Turned.of_below hb3 (by rw [Z2.out]; omega))⟩
  clear hf hb3 H2 T2 Z2 HP HF
  go_wp2
  go_ret
  exact ⟨_, rfl, H3.out⟩
set_option maxRecDepth 100000 in
set_option maxHeartbeats 4000000 in
theorem refTake_bad (b : Nat) (wt : Bool) (t : Int) (sv : Value) (o : Option Addr) (n cap : Nat) (z : Nat → Int) (u : Int) (w : World) (hP : RefAt w b wt t sv) (hB : Bytes48 w o n cap z) (r : Pk × Int) (hr : r = parseOf n z) (he : takeErr r wt t ≠ 0) :
    Calls Try.prog 67 #[.pointer (some ⟨b, 0, none⟩), .slice o n cap, .int .u64 u] w fun q w' => q = .returned (.tuple #[.agg #[.int .i64 0, .int .i64 0], .int .i64 (takeErr r wt t)]) ∧ Below w.heap.size w w' := by
  have hb : b < w.heap.size := (Array.getElem?_eq_some_iff.1 hP).1
  have HP : Hid (RefAt w b wt t sv) := hP
  have HB : Hid (Bytes48 w o n cap z) := hB
  have HR : Hid (r = parseOf n z) := hr
  have HE : Hid (takeErr r wt t ≠ 0) := he
  clear hP hB hr he
  go_enter Try.func67, Try.ntmps67
  go_wp2_with fail
  refine (refParse_any o n cap z _ (HB.out.alloc _) r HR.out).mono ?_
  rintro q w1 ⟨rfl, hb1⟩
  have B1 : Hid (Below w.heap.size w w1) := ((Below.refl _ _).alloc (Nat.le_refl _) _).trans (hb1.mono (by simp))
  have l1 : w.heap.size < w1.heap.size := by have := hb1.size; simp at this; omega
  have r1 : w1.heap[w.heap.size]? = some (.cells #[.int .i64 0, .int .i64 0] 44 (0, 0)) := by rw [hb1.block w.heap.size (by simp)]; exact heap_alloc_new _ _
  have cz0 : w1.cell? ⟨w.heap.size, 0, none⟩ = some (.int .i64 0) := by rw [cell_of_row w1 _ 0 _ _ _ r1]; rfl
  have cz1 : w1.cell? ⟨w.heap.size, 1, none⟩ = some (.int .i64 0) := by rw [cell_of_row w1 _ 1 _ _ _ r1]; rfl
  have fz : ∀ o, w1.frozen? ⟨w.heap.size, o, none⟩ = false := fun o => frozen_of_row w1 _ o _ _ r1
  have P1 := HP.out.below B1.out
  have c0 : w1.cell? ⟨b, 0, none⟩ = some (.bool wt) := by rw [cell_of_row w1 b 0 _ _ _ P1]; rfl
  have c1 : w1.cell? ⟨b, 1, none⟩ = some (.int .u64 t) := by rw [cell_of_row w1 b 1 _ _ _ P1]; rfl
  have hb1' : b < w1.heap.size := by omega
  have nb : ¬ b = w1.heap.size := by omega
  clear hb1 HB HR r1 P1
  obtain ⟨⟨x1, x2, x3, x4, x5, x6, x7, x8, x9, x10, x11, x12, x13⟩, xe⟩ := r
  simp only [Pk.cells]
  by_cases h1 : xe = 0
  · subst h1
    by_cases h2 : x3 = 4
    · subst h2
      cases wt with
      | false =>
        have HX : Hid (takeErr (⟨x1, x2, 4, x4, x5, x6, x7, x8, x9, x10, x11, x12, x13⟩, 0) false t = 7) := by show _ = _; unfold takeErr checkOf; rw [if_neg (by simp), if_neg (by simp), if_pos rfl]
        clear HE
        go_wp2
        refine region_stillS (by kernel_rfl) (by kernel_rfl) ?_
        repeat (apply StillS.step; intro K hK; constructor; go_simp; apply hK; clear hK K)
        apply StillS.nil
        go_wp2
        refine bodyPost_ret (v := .tuple #[.agg #[.int .i64 0, .int .i64 0], .int .i64 7]) (by simp [results, Try.results67, go_sem, cz0, cz1, l1]) rfl ?_
        rw [HX.out]
        exact ⟨rfl, (((Below.setCell (Below.setCell B1.out (Nat.le_refl _) _) (Nat.le_refl _) _).alloc (by simp; omega) _).drew)⟩
      | true =>
        by_cases h3 : x11 = t
        · subst h3
          by_cases h4 : x4 < 1
          · skip
            have HX : Hid (takeErr (⟨x1, x2, 4, x4, x5, x6, x7, x8, x9, x10, x11, x12, x13⟩, 0) true x11 = 8) := by show _ = _; unfold takeErr checkOf; rw [if_neg (by simp), if_neg (by simp), if_neg (by simp), if_neg (by simp), if_pos h4]
            clear HE
            go_wp2
            refine region_stillS (by kernel_rfl) (by kernel_rfl) ?_
            repeat (apply StillS.step; intro K hK; constructor; go_simp; apply hK; clear hK K)
            apply StillS.nil
            go_wp2
            refine bodyPost_ret (v := .tuple #[.agg #[.int .i64 0, .int .i64 0], .int .i64 8]) (by simp [results, Try.results67, go_sem, cz0, cz1, l1]) rfl ?_
            rw [HX.out]
            exact ⟨rfl, (((Below.setCell (Below.setCell B1.out (Nat.le_refl _) _) (Nat.le_refl _) _).alloc (by simp; omega) _).drew)⟩
          · by_cases h5 : 15 < x4
            · skip
              have HX : Hid (takeErr (⟨x1, x2, 4, x4, x5, x6, x7, x8, x9, x10, x11, x12, x13⟩, 0) true x11 = 8) := by show _ = _; unfold takeErr checkOf; rw [if_neg (by simp), if_neg (by simp), if_neg (by simp), if_neg (by simp), if_neg h4, if_pos h5]
              clear HE
              go_wp2
              refine region_stillS (by kernel_rfl) (by kernel_rfl) ?_
              repeat (apply StillS.step; intro K hK; constructor; go_simp; apply hK; clear hK K)
              apply StillS.nil
              go_wp2
              refine bodyPost_ret (v := .tuple #[.agg #[.int .i64 0, .int .i64 0], .int .i64 8]) (by simp [results, Try.results67, go_sem, cz0, cz1, l1]) rfl ?_
              rw [HX.out]
              exact ⟨rfl, (((Below.setCell (Below.setCell B1.out (Nat.le_refl _) _) (Nat.le_refl _) _).alloc (by simp; omega) _).drew)⟩
            · by_cases h6 : x1 = 3
              · skip
                have HX : Hid (takeErr (⟨x1, x2, 4, x4, x5, x6, x7, x8, x9, x10, x11, x12, x13⟩, 0) true x11 = 8) := by show _ = _; unfold takeErr checkOf; rw [if_neg (by simp), if_neg (by simp), if_neg (by simp), if_neg (by simp), if_neg h4, if_neg h5, if_pos h6]
                clear HE
                go_wp2
                refine region_stillS (by kernel_rfl) (by kernel_rfl) ?_
                repeat (apply StillS.step; intro K hK; constructor; go_simp; apply hK; clear hK K)
                apply StillS.nil
                go_wp2
                refine bodyPost_ret (v := .tuple #[.agg #[.int .i64 0, .int .i64 0], .int .i64 8]) (by simp [results, Try.results67, go_sem, cz0, cz1, l1]) rfl ?_
                rw [HX.out]
                exact ⟨rfl, (((Below.setCell (Below.setCell B1.out (Nat.le_refl _) _) (Nat.le_refl _) _).alloc (by simp; omega) _).drew)⟩
              · have h6' : (x1 == 3) = false := by simp [h6]
                by_cases h7 : diff x13 x12 < 0
                · skip
                  have HX : Hid (takeErr (⟨x1, x2, 4, x4, x5, x6, x7, x8, x9, x10, x11, x12, x13⟩, 0) true x11 = 9) := by show _ = _; unfold takeErr checkOf; rw [if_neg (by simp), if_neg (by simp), if_neg (by simp), if_neg (by simp), if_neg h4, if_neg h5, if_neg h6, if_pos h7]
                  clear HE
                  go_wp2
                  refine region_stillS (by kernel_rfl) (by kernel_rfl) ?_
                  repeat (apply StillS.step; intro K hK; constructor; go_simp; apply hK; clear hK K)
                  apply StillS.nil
                  go_wp2_with (refine (refDifference_any x13 x12 _).mono ?_; rintro e w2 ⟨rfl, rfl⟩)
                  refine bodyPost_ret (v := .tuple #[.agg #[.int .i64 0, .int .i64 0], .int .i64 9]) (by simp [results, Try.results67, go_sem, cz0, cz1, l1]) rfl ?_
                  rw [HX.out]
                  exact ⟨rfl, (((Below.setCell (Below.setCell B1.out (Nat.le_refl _) _) (Nat.le_refl _) _).alloc (by simp; omega) _).drew)⟩
                · exact absurd (by unfold takeErr checkOf; rw [if_neg (by simp), if_neg (by simp), if_neg (by simp), if_neg (by simp), if_neg h4, if_neg h5, if_neg h6, if_neg h7]) HE.out
        · skip
          have HX : Hid (takeErr (⟨x1, x2, 4, x4, x5, x6, x7, x8, x9, x10, x11, x12, x13⟩, 0) true t = 7) := by show _ = _; unfold takeErr checkOf; rw [if_neg (by simp), if_neg (by simp), if_neg (by simp), if_pos h3]
          clear HE
          go_wp2
          refine region_stillS (by kernel_rfl) (by kernel_rfl) ?_
          repeat (apply StillS.step; intro K hK; constructor; go_simp; apply hK; clear hK K)
          apply StillS.nil
          go_wp2
          refine bodyPost_ret (v := .tuple #[.agg #[.int .i64 0, .int .i64 0], .int .i64 7]) (by simp [results, Try.results67, go_sem, cz0, cz1, l1]) rfl ?_
          rw [HX.out]
          exact ⟨rfl, (((Below.setCell (Below.setCell B1.out (Nat.le_refl _) _) (Nat.le_refl _) _).alloc (by simp; omega) _).drew)⟩
    · skip
      have HX : Hid (takeErr (⟨x1, x2, x3, x4, x5, x6, x7, x8, x9, x10, x11, x12, x13⟩, 0) wt t = 4) := by show _ = _; unfold takeErr checkOf; rw [if_neg (by simp), if_pos h2]
      clear HE
      go_wp2
      refine bodyPost_ret (v := .tuple #[.agg #[.int .i64 0, .int .i64 0], .int .i64 4]) (by simp [results, Try.results67, go_sem, cz0, cz1, l1]) rfl ?_
      rw [HX.out]
      exact ⟨rfl, (((Below.setCell (Below.setCell B1.out (Nat.le_refl _) _) (Nat.le_refl _) _).alloc (by simp; omega) _))⟩
  · skip
    have HX : Hid (takeErr (⟨x1, x2, x3, x4, x5, x6, x7, x8, x9, x10, x11, x12, x13⟩, xe) wt t = xe) := by show _ = _; unfold takeErr; rw [if_pos h1]
    clear HE
    go_wp2
    refine bodyPost_ret (v := .tuple #[.agg #[.int .i64 0, .int .i64 0], .int .i64 xe]) (by simp [results, Try.results67, go_sem, cz0, cz1, l1]) rfl ?_
    rw [HX.out]
    exact ⟨rfl, (((Below.setCell (Below.setCell B1.out (Nat.le_refl _) _) (Nat.le_refl _) _).alloc (by simp; omega) _))⟩
end Go.Proofs.Ytjdcnlggpfkopaa
