/- Many clocks, the document: the choice with so many that may be wrong. -/
import Derived.Test.YtjdcnlggpfkopaaRefSel
import Derived.Deep.RegionHeld3
namespace Go.Proofs.Ytjdcnlggpfkopaa
open Go.ChangeShapes Go.WideShapes Go.ChangeAt Go.RowKit
set_option linter.unusedVariables false

/-- The result's box is empty, the choice's box holds this. -/
structure Mem3 (w wr : World) (x y z : Value) : Prop where
  z0 : wr.heap[w.heap.size]? = some (.cells #[.int .i64 0, .int .i64 0, .slice none 0 0] 67 (0, 0))
  box : wr.heap[w.heap.size + 1]? = some (.cells #[x, y, z] 67 (0, 0))
  bel : Below w.heap.size w wr
  sz : w.heap.size + 2 ≤ wr.heap.size
theorem Mem3.start (w : World) : Mem3 w ((w.alloc (.cells #[.int .i64 0, .int .i64 0, .slice none 0 0] 67)).alloc (.cells #[.int .i64 0, .int .i64 0, .slice none 0 0] 67)) (.int .i64 0) (.int .i64 0) (.slice none 0 0) := by
  have h1 : Below (w.heap.size + 1) (w.alloc (.cells #[.int .i64 0, .int .i64 0, .slice none 0 0] 67)) ((w.alloc (.cells #[.int .i64 0, .int .i64 0, .slice none 0 0] 67)).alloc (.cells #[.int .i64 0, .int .i64 0, .slice none 0 0] 67)) := (Below.refl _ _).alloc (by simp) _
  refine ⟨box3 h1, ?_, fit3 _ h1, by simp⟩
  have := heap_alloc_new (w.alloc (.cells #[.int .i64 0, .int .i64 0, .slice none 0 0] 67)) (.cells #[.int .i64 0, .int .i64 0, .slice none 0 0] 67)
  simpa using this
theorem Mem3.below {w wr w' : World} {x y z : Value} (h : Mem3 w wr x y z) (hb : Below wr.heap.size wr w') : Mem3 w w' x y z := by
  have hs := h.sz
  exact ⟨by rw [hb.block _ (by omega)]; exact h.z0, by rw [hb.block _ (by omega)]; exact h.box, h.bel.trans (hb.mono (by omega)), by have := hb.size; omega⟩
theorem Mem3.drew {w wr : World} {x y z : Value} (h : Mem3 w wr x y z) : Mem3 w wr.drew x y z := h.below (Below.refl _ _).drew
theorem Mem3.alloc {w wr : World} {x y z : Value} (h : Mem3 w wr x y z) (o : Obj) : Mem3 w (wr.alloc o) x y z := h.below ((Below.refl _ _).alloc (Nat.le_refl _) _)
theorem Mem3.low {w wr : World} {x y z : Value} (h : Mem3 w wr x y z) (v : Value) : Mem3 w (wr.setCell ⟨w.heap.size + 1, 0, none⟩ v) v y z := by
  refine ⟨by rw [heap_setCell_other _ _ _ _ (show w.heap.size ≠ w.heap.size + 1 by omega)]; exact h.z0, ?_, h.bel.setCell (by simp) _, by rw [World.size_setCell]; exact h.sz⟩
  have := heap_setCell_same wr _ 0 _ _ v h.box
  simpa using this
theorem Mem3.high {w wr : World} {x y z : Value} (h : Mem3 w wr x y z) (v : Value) : Mem3 w (wr.setCell ⟨w.heap.size + 1, 1, none⟩ v) x v z := by
  refine ⟨by rw [heap_setCell_other _ _ _ _ (show w.heap.size ≠ w.heap.size + 1 by omega)]; exact h.z0, ?_, h.bel.setCell (by simp) _, by rw [World.size_setCell]; exact h.sz⟩
  have := heap_setCell_same wr _ 1 _ _ v h.box
  simpa using this
theorem Mem3.who {w wr : World} {x y z : Value} (h : Mem3 w wr x y z) (v : Value) : Mem3 w (wr.setCell ⟨w.heap.size + 1, 2, none⟩ v) x y v := by
  refine ⟨by rw [heap_setCell_other _ _ _ _ (show w.heap.size ≠ w.heap.size + 1 by omega)]; exact h.z0, ?_, h.bel.setCell (by simp) _, by rw [World.size_setCell]; exact h.sz⟩
  have := heap_setCell_same wr _ 2 _ _ v h.box
  simpa using this
theorem Mem3.grown {w wr w' : World} {x y z : Value} {row : Option Nat} (h : Mem3 w wr x y z) (g : wr.grownBy w' row) (hr : ∀ k, row = some k → w.heap.size + 2 ≤ k) : Mem3 w w' x y z := by
  have hs := h.sz
  exact ⟨by rw [g.block _ (by omega) (fun e => by have := hr _ e.symm; omega)]; exact h.z0, by rw [g.block _ (by omega) (fun e => by have := hr _ e.symm; omega)]; exact h.box, below_grown h.bel (by omega) g (fun k hk => by have := hr k hk; omega), by have := g.size; omega⟩
theorem keep3 (W : World) (k b : Nat) (x y z : Value) (h : b ≠ k) : ∀ o, (((W.setCell ⟨k, 0, none⟩ x).setCell ⟨k, 1, none⟩ y).setCell ⟨k, 2, none⟩ z).cell? ⟨b, o, none⟩ = W.cell? ⟨b, o, none⟩ := fun o =>
  World.cell?_of_block (w := W) (a := ⟨b, o, none⟩) (by
    show (((W.setCell ⟨k, 0, none⟩ x).setCell ⟨k, 1, none⟩ y).setCell ⟨k, 2, none⟩ z).heap[b]? = W.heap[b]?
    rw [heap_setCell_other _ _ _ _ (show b ≠ k from h), heap_setCell_other _ _ _ _ (show b ≠ k from h), heap_setCell_other _ _ _ _ (show b ≠ k from h)])
/-- What the first loop knows at the k-th clock. -/
def ChAt (md fa : Nat → Int) (n : Nat) (e : Int) (w : World) (k : Nat) (av : Value) (wr : World) : Prop :=
  ∃ any so cl ch wa wc, av = .bool any ∧ Mem3 w wr (.int .i64 cl) (.int .i64 ch) (.slice wa (Bool.toNat so) wc) ∧ LowSt md fa n e k any cl ∧ HighSt md fa n e k so ch
set_option maxRecDepth 100000 in
set_option maxHeartbeats 4000000 in
theorem choice_any (b off n c f : Nat) (md fa : Nat → Int) (w : World) (hn0 : 0 < n) (hn : n ≤ 32) (hf : 2 * f < n) (hT : TicksAt w b off n md fa) (hg : ∀ j, j < n → Tame md fa j) :
    Calls Try.prog 51 #[.slice (some ⟨b, off, none⟩) n c, .int .i64 f] w fun r w' => ∃ cl ch wa wn wc, r = .returned (.tuple #[.agg #[.int .i64 cl, .int .i64 ch, .slice wa wn wc], .bool (okAt md fa n f)]) ∧ (okAt md fa n f = true → cl = lowTo md fa n ((n : Int) - f) n ∧ ch = highTo md fa n ((n : Int) - f) n ∧ w'.ownsRow (w.heap.size + 1) 3 1 (.slice wa wn wc) (whoOf md fa n f).length (ints (whoOf md fa n f))) ∧ Below w.heap.size w w' := by
  have hb : b < w.heap.size := hT.lt hn0
  have HC : Hid (TicksAt w b off n md fa) := hT
  have HG : Hid (∀ j, j < n → Tame md fa j) := hg
  have M0 : Hid (Mem3 w _ _ _ _) := Mem3.start w
  obtain ⟨i0, hi0, hz0, hz1, hz2⟩ := info_of infi64
  have HI : Hid (Try.prog.info? 3 = some i0) := hi0
  clear hi0
  clear hT hg
  go_enter Try.func51, Try.ntmps51
  go_wp2
  go_loopw [7, 8] (fun av i wr => ∃ k : Nat, k ≤ n ∧ i = .int .i64 k ∧ ChAt md fa n ((n : Int) - f) w k av wr) (fun _ i _ => n - (intOf i).toNat)
  case atStart => exact ⟨0, by omega, rfl, false, false, 0, 0, none, 0, rfl, M0.out, Or.inl ⟨rfl, rfl⟩, Or.inl ⟨rfl, rfl⟩⟩
  case round =>
    clear M0
    obtain ⟨k, hk, rfl, any, so, cl, ch, wa, wc, rfl, hM, hL, hH⟩ := hrel
    have HM : Hid (Mem3 w wr (.int .i64 cl) (.int .i64 ch) (.slice wa (Bool.toNat so) wc)) := hM
    have HL : Hid (LowSt md fa n ((n : Int) - f) k any cl) := hL
    have HH : Hid (HighSt md fa n ((n : Int) - f) k so ch) := hH
    clear hM hL hH
    by_cases hlt : k < n
    · have hlt' : (k : Int) < n := by omega
      obtain ⟨g1, g2, g3, g4⟩ := HG.out k hlt
      have hw1 := w64 (md k - fa k) (by omega) (by omega)
      have hw2 := w64 (md k + fa k) (by omega) (by omega)
      obtain ⟨c1, c2⟩ := HC.out.below hb HM.out.bel k hlt
      have hc1 := countTo_le md fa (md k - fa k) n
      have hc2 := countTo_le md fa (md k + fa k) n
      have hbr : b < wr.heap.size := by have := HM.out.bel.size; omega
      go_wp2
      refine region_stillS (by kernel_rfl) (by kernel_rfl) ?_
      repeat (apply StillS.step; intro K hK; constructor; go_simp; apply hK; clear hK K)
      apply StillS.nil
      go_wp2
      refine region_stillS (by kernel_rfl) (by kernel_rfl) ?_
      repeat (apply StillS.step; intro K hK; constructor; go_simp; apply hK; clear hK K)
      apply StillS.nil
      have M1 : Hid (Mem3 w wr.drew.drew (.int .i64 cl) (.int .i64 ch) (.slice wa (Bool.toNat so) wc)) := HM.out.drew.drew
      have T1 : Hid (TicksAt wr.drew.drew b off n md fa) := HC.out.below hb M1.out.bel
      go_upto_region 10 with (first
        | (go_at_call 73; refine (allow_any b off n c md fa _ _ (by omega) T1.out HG.out).mono ?_; rintro r1 w1 ⟨rfl, hb1⟩; have M2 : Hid (Mem3 w w1 (.int .i64 cl) (.int .i64 ch) (.slice wa (Bool.toNat so) wc)) := M1.out.below hb1; have T2 : Hid (TicksAt w1 b off n md fa) := HC.out.below hb M2.out.bel; clear hb1)
        | (go_at_call 73; refine (allow_any b off n c md fa _ _ (by omega) T2.out HG.out).mono ?_; rintro r2 w2 ⟨rfl, hb2⟩; have M3 : Hid (Mem3 w w2 (.int .i64 cl) (.int .i64 ch) (.slice wa (Bool.toNat so) wc)) := M2.out.below hb2; clear hb2; obtain ⟨x1, x2, x3, x4, x5, x6⟩ := box3_cells M3.out.box))
      clear hlt c1 c2 hw1 hw2 HM M1 M2 T1 T2
      have hz : w.heap.size + 1 < w2.heap.size := by have := M3.out.sz; omega
      have nb : ¬ w.heap.size + 1 = w2.heap.size := by omega
      by_cases h1 : (n : Int) - f ≤ (countTo md fa (md k - fa k) n : Int)
      · cases any with
        | false =>
          have HLN : Hid (LowSt md fa n ((n : Int) - f) (k + 1) true (md k - fa k)) := low_new HL.out ⟨g1, g2, g3, g4⟩ h1 (Or.inl rfl)
          by_cases h2 : (n : Int) - f ≤ (countTo md fa (md k + fa k) n : Int)
          · cases so with
            | false =>
              have HHN : Hid (HighSt md fa n ((n : Int) - f) (k + 1) true (md k + fa k)) := high_new HH.out ⟨g1, g2, g3, g4⟩ h2 (Or.inl rfl)
              go_wp2
              go_roundw
              case rel => exact ⟨k + 1, by omega, by go_num, true, true, _, _, _, _, rfl, ((((M3.out.low _).high _).who _).alloc _), HLN.out, HHN.out⟩
              case measure => simp [intOf]; omega
            | true =>
              by_cases h4 : ch < md k + fa k
              · have HHN : Hid (HighSt md fa n ((n : Int) - f) (k + 1) true (md k + fa k)) := high_new HH.out ⟨g1, g2, g3, g4⟩ h2 (Or.inr h4)
                go_wp2
                go_roundw
                case rel => exact ⟨k + 1, by omega, by go_num, true, true, _, _, _, _, rfl, ((((M3.out.low _).high _).who _).alloc _), HLN.out, HHN.out⟩
                case measure => simp [intOf]; omega
              · have HHN : Hid (HighSt md fa n ((n : Int) - f) (k + 1) true ch) := high_old HH.out h2 rfl h4
                go_wp2
                go_roundw
                case rel => exact ⟨k + 1, by omega, by go_num, true, true, _, _, _, _, rfl, (M3.out.low _), HLN.out, HHN.out⟩
                case measure => simp [intOf]; omega
          · have HHN : Hid (HighSt md fa n ((n : Int) - f) (k + 1) so ch) := high_no HH.out h2
            go_wp2
            go_roundw
            case rel => exact ⟨k + 1, by omega, by go_num, true, so, _, _, _, _, rfl, (M3.out.low _), HLN.out, HHN.out⟩
            case measure => simp [intOf]; omega
        | true =>
          by_cases h3 : md k - fa k < cl
          · have HLN : Hid (LowSt md fa n ((n : Int) - f) (k + 1) true (md k - fa k)) := low_new HL.out ⟨g1, g2, g3, g4⟩ h1 (Or.inr h3)
            by_cases h2 : (n : Int) - f ≤ (countTo md fa (md k + fa k) n : Int)
            · cases so with
              | false =>
                have HHN : Hid (HighSt md fa n ((n : Int) - f) (k + 1) true (md k + fa k)) := high_new HH.out ⟨g1, g2, g3, g4⟩ h2 (Or.inl rfl)
                go_wp2
                go_roundw
                case rel => exact ⟨k + 1, by omega, by go_num, true, true, _, _, _, _, rfl, ((((M3.out.low _).high _).who _).alloc _), HLN.out, HHN.out⟩
                case measure => simp [intOf]; omega
              | true =>
                by_cases h4 : ch < md k + fa k
                · have HHN : Hid (HighSt md fa n ((n : Int) - f) (k + 1) true (md k + fa k)) := high_new HH.out ⟨g1, g2, g3, g4⟩ h2 (Or.inr h4)
                  go_wp2
                  go_roundw
                  case rel => exact ⟨k + 1, by omega, by go_num, true, true, _, _, _, _, rfl, ((((M3.out.low _).high _).who _).alloc _), HLN.out, HHN.out⟩
                  case measure => simp [intOf]; omega
                · have HHN : Hid (HighSt md fa n ((n : Int) - f) (k + 1) true ch) := high_old HH.out h2 rfl h4
                  go_wp2
                  go_roundw
                  case rel => exact ⟨k + 1, by omega, by go_num, true, true, _, _, _, _, rfl, (M3.out.low _), HLN.out, HHN.out⟩
                  case measure => simp [intOf]; omega
            · have HHN : Hid (HighSt md fa n ((n : Int) - f) (k + 1) so ch) := high_no HH.out h2
              go_wp2
              go_roundw
              case rel => exact ⟨k + 1, by omega, by go_num, true, so, _, _, _, _, rfl, (M3.out.low _), HLN.out, HHN.out⟩
              case measure => simp [intOf]; omega
          · have HLN : Hid (LowSt md fa n ((n : Int) - f) (k + 1) true cl) := low_old HL.out h1 rfl h3
            by_cases h2 : (n : Int) - f ≤ (countTo md fa (md k + fa k) n : Int)
            · cases so with
              | false =>
                have HHN : Hid (HighSt md fa n ((n : Int) - f) (k + 1) true (md k + fa k)) := high_new HH.out ⟨g1, g2, g3, g4⟩ h2 (Or.inl rfl)
                go_wp2
                go_roundw
                case rel => exact ⟨k + 1, by omega, by go_num, true, true, _, _, _, _, rfl, (((M3.out.high _).who _).alloc _), HLN.out, HHN.out⟩
                case measure => simp [intOf]; omega
              | true =>
                by_cases h4 : ch < md k + fa k
                · have HHN : Hid (HighSt md fa n ((n : Int) - f) (k + 1) true (md k + fa k)) := high_new HH.out ⟨g1, g2, g3, g4⟩ h2 (Or.inr h4)
                  go_wp2
                  go_roundw
                  case rel => exact ⟨k + 1, by omega, by go_num, true, true, _, _, _, _, rfl, (((M3.out.high _).who _).alloc _), HLN.out, HHN.out⟩
                  case measure => simp [intOf]; omega
                · have HHN : Hid (HighSt md fa n ((n : Int) - f) (k + 1) true ch) := high_old HH.out h2 rfl h4
                  go_wp2
                  go_roundw
                  case rel => exact ⟨k + 1, by omega, by go_num, true, true, _, _, _, _, rfl, M3.out, HLN.out, HHN.out⟩
                  case measure => simp [intOf]; omega
            · have HHN : Hid (HighSt md fa n ((n : Int) - f) (k + 1) so ch) := high_no HH.out h2
              go_wp2
              go_roundw
              case rel => exact ⟨k + 1, by omega, by go_num, true, so, _, _, _, _, rfl, M3.out, HLN.out, HHN.out⟩
              case measure => simp [intOf]; omega
      · have HLN : Hid (LowSt md fa n ((n : Int) - f) (k + 1) any cl) := low_no HL.out h1
        by_cases h2 : (n : Int) - f ≤ (countTo md fa (md k + fa k) n : Int)
        · cases so with
          | false =>
            have HHN : Hid (HighSt md fa n ((n : Int) - f) (k + 1) true (md k + fa k)) := high_new HH.out ⟨g1, g2, g3, g4⟩ h2 (Or.inl rfl)
            go_wp2
            go_roundw
            case rel => exact ⟨k + 1, by omega, by go_num, any, true, _, _, _, _, rfl, (((M3.out.high _).who _).alloc _), HLN.out, HHN.out⟩
            case measure => simp [intOf]; omega
          | true =>
            by_cases h4 : ch < md k + fa k
            · have HHN : Hid (HighSt md fa n ((n : Int) - f) (k + 1) true (md k + fa k)) := high_new HH.out ⟨g1, g2, g3, g4⟩ h2 (Or.inr h4)
              go_wp2
              go_roundw
              case rel => exact ⟨k + 1, by omega, by go_num, any, true, _, _, _, _, rfl, (((M3.out.high _).who _).alloc _), HLN.out, HHN.out⟩
              case measure => simp [intOf]; omega
            · have HHN : Hid (HighSt md fa n ((n : Int) - f) (k + 1) true ch) := high_old HH.out h2 rfl h4
              go_wp2
              go_roundw
              case rel => exact ⟨k + 1, by omega, by go_num, any, true, _, _, _, _, rfl, M3.out, HLN.out, HHN.out⟩
              case measure => simp [intOf]; omega
        · have HHN : Hid (HighSt md fa n ((n : Int) - f) (k + 1) so ch) := high_no HH.out h2
          go_wp2
          go_roundw
          case rel => exact ⟨k + 1, by omega, by go_num, any, so, _, _, _, _, rfl, M3.out, HLN.out, HHN.out⟩
          case measure => simp [intOf]; omega
    · obtain rfl : k = n := by omega
      have hlt' : ¬ (k : Int) < k := by omega
      have nb : ¬ w.heap.size = w.heap.size + 1 := by omega
      obtain ⟨x1, x2, x3, x4, x5, x6⟩ := box3_cells HM.out.box
      obtain ⟨y1, y2, y3, y4, y5, y6⟩ := box3_cells HM.out.z0
      have M5 : Hid (Mem3 w (wr.setCell ⟨w.heap.size + 1, 2, none⟩ (.slice none 0 0)) (.int .i64 cl) (.int .i64 ch) (.slice none 0 0)) := HM.out.who _
      cases any with
      | false =>
        have HOK : Hid (okAt md fa k f = false) := by
          show _ = _
          rcases HL.out with ⟨_, h⟩ | ⟨h, _⟩
          · unfold okAt whoOf
            rw [h, who_none _ _ _ _ (fun j hj => by have := HG.out j hj; unfold Tame at this; omega)]
            simp; omega
          · cases h
        go_wp2
        refine bodyPost_ret (v := .tuple #[.agg #[.int .i64 cl, .int .i64 ch, .slice none 0 0], .bool false]) (by simp [results, Try.results51, go_sem, y1, y2, y3]) rfl ⟨cl, ch, none, 0, 0, by rw [HOK.out], (fun h => by rw [HOK.out] at h; cases h), ?_⟩
        exact set3 M5.out.bel (Nat.le_refl _)
      | true =>
        have HLE : Hid (cl = lowTo md fa k ((k : Int) - f) k) := by
          rcases HL.out with ⟨h, _⟩ | ⟨_, h, _⟩
          · cases h
          · exact h
        have HHE : Hid (ch = highTo md fa k ((k : Int) - f) k) := by
          have hne := both_ends (e := (k : Int) - f) HG.out (by omega) (by
            rcases HL.out with ⟨h, _⟩ | ⟨_, h, h2⟩
            · cases h
            · omega)
          rcases HH.out with ⟨_, h⟩ | ⟨_, h, _⟩
          · exact absurd h hne
          · exact h
        have HOKD : Hid (okAt md fa k f = decide (k - (whoTo md cl ch k).length ≤ f)) := by
          show _ = _
          unfold okAt whoOf
          rw [← HLE.out, ← HHE.out]
        have HWO : Hid (whoOf md fa k f = whoTo md cl ch k) := by
          show _ = _
          unfold whoOf
          rw [← HLE.out, ← HHE.out]
        clear HL HH
        go_wp2
        go_loopw [13] (fun i wx => ∃ j : Nat, j ≤ k ∧ i = .int .i64 j ∧ ∃ v, Mem3 w wx (.int .i64 cl) (.int .i64 ch) v ∧ wx.ownsRow (w.heap.size + 2) 3 1 v (whoTo md cl ch j).length (ints (whoTo md cl ch j))) (fun i _ => k - (intOf i).toNat)
        case atStart => exact ⟨0, by omega, rfl, _, M5.out, World.ownsRow_nil _ _ _ _⟩
        case round =>
          clear x1 x2 x3 x4 x5 x6 y1 y2 y3 y4 y5 y6 HM M5
          obtain ⟨j, hj, rfl, v, hM, hO⟩ := hrel
          obtain ⟨av, cv, rfl⟩ := slice_of hO
          have HM : Hid (Mem3 w wr (.int .i64 cl) (.int .i64 ch) (.slice av (whoTo md cl ch j).length cv)) := hM
          have HO : Hid (wr.ownsRow (w.heap.size + 2) 3 1 (.slice av (whoTo md cl ch j).length cv) (whoTo md cl ch j).length (ints (whoTo md cl ch j))) := hO
          clear hM hO
          obtain ⟨x1, x2, x3, x4, x5, x6⟩ := box3_cells HM.out.box
          have hwl := whoTo_len md cl ch j
          by_cases hlt2 : j < k
          · have hlt3 : (j : Int) < k := by omega
            have HS : Hid (whoTo md cl ch (j + 1) = if cl ≤ md j ∧ md j ≤ ch then whoTo md cl ch j ++ [j] else whoTo md cl ch j) := rfl
            generalize whoTo md cl ch j = L at *
            obtain ⟨c1, c2⟩ := HC.out.below hb HM.out.bel j hlt2
            have hbr : b < wr.heap.size := by have := HM.out.bel.size; omega
            have hz : w.heap.size + 1 < wr.heap.size := by have := HM.out.sz; omega
            have nb2 : ¬ w.heap.size + 1 = wr.heap.size := by omega
            have M6 : Hid (Mem3 w wr.drew (.int .i64 cl) (.int .i64 ch) (.slice av L.length cv)) := HM.out.drew
            have HO6 : Hid (wr.drew.ownsRow (w.heap.size + 2) 3 1 (.slice av L.length cv) L.length (ints L)) := own_keep HO.out (fun _ _ => rfl)
            by_cases h1 : cl ≤ md j
            · by_cases h2 : md j ≤ ch
              · go_wp2
                refine region_stillS (by kernel_rfl) (by kernel_rfl) ?_
                repeat (apply StillS.step; intro K hK; constructor; go_simp; apply hK; clear hK K)
                apply StillS.nil
                go_wp2_with (
                  (refine wpList_append_own_at _ rfl (.tmp 117) (.tmp 119) 65 rfl (w.heap.size + 2) 3 i0 (.int .i64 0) 1 8 Try.underlying65 HI.out hz0 hz1 hz2 rfl (by decide) (.slice av L.length cv) L.length (ints L) rfl (HO6.out.alloc _) ⟨wr.heap.size, 0, none⟩ 1 1 [.int .i64 (j : Int)] rfl rfl (cell_one_new _ _ _) (by simp [Value.oneCell']) (by unfold maxLen; omega) (by omega) (by have := (M6.out.alloc (.cells #[.int .i64 (j : Int)] 3)).sz; exact this) ?_
                   intro v4 w4 ho4 hg4 _ _
                   have M7 : Hid (Mem3 w w4 (.int .i64 cl) (.int .i64 ch) (.slice av L.length cv)) := (M6.out.alloc _).grown hg4 (fun q hq => (HO6.out.lt q hq).1)
                   have HO4 : Hid (w4.ownsRow (w.heap.size + 2) 3 1 v4 (L.length + 1) (ints L ++ [.int .i64 (j : Int)])) := ho4
                   obtain ⟨a4, c4, rfl⟩ := slice_of ho4
                   clear ho4 hg4
                   obtain ⟨z1, z2, z3, z4, z5, z6⟩ := box3_cells M7.out.box))
                go_roundw
                case rel => exact ⟨j + 1, by omega, by go_num, _, M7.out.who _, by
                  rw [HS.out, if_pos ⟨h1, h2⟩, List.length_append, ← ints_snoc]
                  refine own_keep HO4.out (fun q hq => ?_)
                  have := (HO4.out.lt q hq).1
                  rw [heap_setCell_other _ _ _ _ (show q ≠ w.heap.size + 1 by omega)]⟩
                case measure => simp [intOf]; omega
              · have hd2 : decide (md j ≤ ch) = false := by simpa using h2
                go_wp2
                refine region_stillS (by kernel_rfl) (by kernel_rfl) ?_
                repeat (apply StillS.step; intro K hK; constructor; go_simp; apply hK; clear hK K)
                apply StillS.nil
                go_wp2
                go_roundw
                case rel => exact ⟨j + 1, by omega, by go_num, _, M6.out, by rw [HS.out, if_neg (by omega)]; exact HO6.out⟩
                case measure => simp [intOf]; omega
            · have hd1 : decide (cl ≤ md j) = false := by simpa using h1
              go_wp2
              refine region_stillS (by kernel_rfl) (by kernel_rfl) ?_
              repeat (apply StillS.step; intro K hK; constructor; go_simp; apply hK; clear hK K)
              apply StillS.nil
              go_wp2
              go_roundw
              case rel => exact ⟨j + 1, by omega, by go_num, _, M6.out, by rw [HS.out, if_neg (by omega)]; exact HO6.out⟩
              case measure => simp [intOf]; omega
          · obtain rfl : j = k := by omega
            have hlt3 : ¬ (j : Int) < j := by omega
            obtain ⟨y1, y2, y3, y4, y5, y6⟩ := box3_cells HM.out.z0
            have hw3 := w64 ((j : Int) - (whoTo md cl ch j).length) (by omega) (by omega)
            by_cases hok : okAt md fa j f = true
            · have hle : (j : Int) - (whoTo md cl ch j).length ≤ f := by
                rw [HOKD.out, decide_eq_true_eq] at hok
                omega
              have HK : Hid (okAt md fa j f = true) := hok
              clear hok
              go_upto_region 24 with fail
              go_region_held3 (fun w' => ∀ o, w'.cell? ⟨w.heap.size + 1, o, none⟩ = wr.cell? ⟨w.heap.size + 1, o, none⟩) (first | exact fun o => rfl | exact keep3 _ _ _ _ _ _ (by omega)) (fail)
              go_wp2
              refine bodyPost_ret (v := .tuple #[.agg #[.int .i64 cl, .int .i64 ch, .slice av (whoTo md cl ch j).length cv], .bool true]) (by simp [results, Try.results51, go_sem, y1, y2, y3]) rfl ⟨cl, ch, av, _, cv, by rw [HK.out], (fun _ => ⟨HLE.out, HHE.out, ?_⟩), ?_⟩
              · rw [HWO.out]
                refine own_keep (own_base HO.out (by omega)) (fun q hq => ?_)
                have := (HO.out.lt q hq).1
                show (((wr.setCell ⟨w.heap.size, 0, none⟩ _).setCell ⟨w.heap.size, 1, none⟩ _).setCell ⟨w.heap.size, 2, none⟩ _).heap[q]? = wr.heap[q]?
                rw [heap_setCell_other _ _ _ _ (show q ≠ w.heap.size by omega), heap_setCell_other _ _ _ _ (show q ≠ w.heap.size by omega), heap_setCell_other _ _ _ _ (show q ≠ w.heap.size by omega)]
              · exact (set3 HM.out.bel (Nat.le_refl _)).drew
            · have hnl : ¬ (j : Int) - (whoTo md cl ch j).length ≤ f := by
                intro hle
                apply hok
                rw [HOKD.out, decide_eq_true_eq]
                omega
              have hnd : decide ((j : Int) - (whoTo md cl ch j).length ≤ f) = false := by simpa using hnl
              have HK : Hid (okAt md fa j f = false) := by show _ = _; simpa using hok
              clear hok
              go_upto_region 24 with fail
              go_region_held3 (fun w' => ∀ o, w'.cell? ⟨w.heap.size + 1, o, none⟩ = wr.cell? ⟨w.heap.size + 1, o, none⟩) (first | exact fun o => rfl | exact keep3 _ _ _ _ _ _ (by omega)) (fail)
              go_wp2
              refine bodyPost_ret (v := .tuple #[.agg #[.int .i64 cl, .int .i64 ch, .slice av (whoTo md cl ch j).length cv], .bool false]) (by simp [results, Try.results51, go_sem, y1, y2, y3]) rfl ⟨cl, ch, av, _, cv, by rw [HK.out], (fun h => by rw [HK.out] at h; cases h), ?_⟩
              exact (set3 HM.out.bel (Nat.le_refl _)).drew
end Go.Proofs.Ytjdcnlggpfkopaa
