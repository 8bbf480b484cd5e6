/- Many clocks, the document: Select. -/
import Derived.Test.YtjdcnlggpfkopaaRefSelB
namespace Go.Proofs.Ytjdcnlggpfkopaa
open Go.ChangeShapes Go.WideShapes Go.ChangeAt Go.RowKit
set_option linter.unusedVariables false

theorem set3_alloc {W : World} {bo : Nat} {x y z : Value} {t : TypeId} (h : W.heap[bo]? = some (.cells #[x, y, z] t (0, 0))) (a b c : Value) (o : Obj) :
    ((((W.setCell ⟨bo, 0, none⟩ a).setCell ⟨bo, 1, none⟩ b).setCell ⟨bo, 2, none⟩ c).alloc o).heap[bo]? = some (.cells #[a, b, c] t (0, 0)) := by
  have hlt : bo < W.heap.size := (Array.getElem?_eq_some_iff.1 h).1
  rw [Below.block (B := bo + 1) ((Below.refl _ _).alloc (by rw [World.size_setCell, World.size_setCell, World.size_setCell]; omega) _) bo (by omega)]
  have h1 := heap_setCell_same W bo 0 _ _ a h
  have h2 := heap_setCell_same _ bo 1 _ _ b h1
  have h3 := heap_setCell_same _ bo 2 _ _ c h2
  simpa using h3
theorem refSelect_arg (ao : Option Addr) (n c : Nat) (md fa : Nat → Int) (w : World) (hn : n ≤ maxLen) (h : n = 0 ∨ 32 < n) :
    Calls Try.prog 27 #[.slice ao n c] w (Chosen (outOf md fa n) w) := by
  have HA : Hid (outOf md fa n = ⟨0, 0, [], 11⟩) := out_arg h
  unfold maxLen at hn
  rcases h with rfl | h
  · go_enter Try.func27, Try.ntmps27
    go_wp2
    refine bodyPost_ret (v := .tuple #[.agg #[.int .i64 0, .int .i64 0, .slice none 0 0], .int .i64 11]) (by simp [results, Try.results27, go_sem]) rfl ⟨.slice none 0 0, by rw [HA.out], by rw [HA.out]; exact World.ownsRow_nil _ _ _ _, ?_⟩
    exact (Below.refl _ _).alloc (Nat.le_refl _) _
  · have h1 : ¬ n = 0 := by omega
    have h2 : ¬ (n : Int) = 0 := by omega
    have h3 : (32 : Int) < n := by omega
    go_enter Try.func27, Try.ntmps27
    go_wp2
    refine bodyPost_ret (v := .tuple #[.agg #[.int .i64 0, .int .i64 0, .slice none 0 0], .int .i64 11]) (by simp [results, Try.results27, go_sem]) rfl ⟨.slice none 0 0, by rw [HA.out], by rw [HA.out]; exact World.ownsRow_nil _ _ _ _, ?_⟩
    exact (Below.refl _ _).alloc (Nat.le_refl _) _
set_option maxRecDepth 100000 in
set_option maxHeartbeats 4000000 in
theorem refSelect_any (b off n c : Nat) (md fa : Nat → Int) (w : World) (hn0 : 0 < n) (hn : n ≤ 32) (hT : TicksAt w b off n md fa) :
    Calls Try.prog 27 #[.slice (some ⟨b, off, none⟩) n c] w (Chosen (outOf md fa n) w) := by
  have hb : b < w.heap.size := hT.lt hn0
  have HT : Hid (TicksAt w b off n md fa) := hT
  clear hT
  have h1 : ¬ n = 0 := by omega
  have h2 : ¬ (n : Int) = 0 := by omega
  have h3 : ¬ (32 : Int) < n := by omega
  go_enter Try.func27, Try.ntmps27
  go_wp2
  go_loopw [4] (fun i wr => ∃ k : Nat, k ≤ n ∧ i = .int .i64 k ∧ (∀ j, j < k → Tame md fa j) ∧ Below (w.heap.size + 1) (w.alloc (.cells #[.int .i64 0, .int .i64 0, .slice none 0 0] 67)) wr) (fun i _ => n - (intOf i).toNat)
  case atStart => exact ⟨0, by omega, rfl, fun j hj => by omega, Below.refl _ _⟩
  case round =>
    obtain ⟨k, hk, rfl, hgd, hbw⟩ := hrel
    have HW : Hid (Below (w.heap.size + 1) (w.alloc (.cells #[.int .i64 0, .int .i64 0, .slice none 0 0] 67)) wr) := hbw
    have HG : Hid (∀ j, j < k → Tame md fa j) := hgd
    clear hbw hgd
    have HWB : Hid (Below w.heap.size w wr) := fit3 _ HW.out
    by_cases hlt : k < n
    · have hlt' : (k : Int) < n := by omega
      obtain ⟨c1, c2⟩ := HT.out.below hb HWB.out k hlt
      have HBAD : Hid (¬ Tame md fa k → outOf md fa n = ⟨0, 0, [], 5⟩) := fun hx => out_range hn0 hn (fun hall => hx (hall k hlt))
      obtain ⟨x1, x2, x3, x4, x5, x6⟩ := box3_cells (box3 HW.out)
      by_cases hgood : Tame md fa k
      · have HGK : Hid (Tame md fa k) := hgood
        obtain ⟨g1, g2, g3, g4⟩ := hgood
        have d1 : decide (md k < -2305843009213693952) = false := by simp; omega
        have d2 : decide (2305843009213693952 < md k) = false := by simp; omega
        have d3 : decide (fa k < 0) = false := by simp; omega
        have d4 : decide (2305843009213693952 < fa k) = false := by simp; omega
        have e1 : ¬ md k < -2305843009213693952 := by omega
        have e2 : ¬ 2305843009213693952 < md k := by omega
        have e3 : ¬ fa k < 0 := by omega
        have e4 : ¬ 2305843009213693952 < fa k := by omega
        clear g1 g2 g3 g4
        go_wp2
        go_roundw
        case rel => exact ⟨k + 1, by omega, by go_num, fun j hj => by
          rcases Nat.lt_or_ge j k with h | h
          · exact HG.out j h
          · rw [show j = k by omega]; exact HGK.out, HW.out⟩
        case measure => simp [intOf]; omega
      · have HA : Hid (outOf md fa n = ⟨0, 0, [], 5⟩) := HBAD.out hgood
        by_cases g1 : md k < -2305843009213693952
        · go_wp2
          refine bodyPost_ret (v := .tuple #[.agg #[.int .i64 0, .int .i64 0, .slice none 0 0], .int .i64 5]) (by simp [results, Try.results27, go_sem, x1, x2, x3]) rfl ⟨.slice none 0 0, by rw [HA.out], by rw [HA.out]; exact World.ownsRow_nil _ _ _ _, ?_⟩
          exact set3 HWB.out (Nat.le_refl _)
        have d1 : decide (md k < -2305843009213693952) = false := by simpa using g1
        by_cases g2 : 2305843009213693952 < md k
        · go_wp2
          refine bodyPost_ret (v := .tuple #[.agg #[.int .i64 0, .int .i64 0, .slice none 0 0], .int .i64 5]) (by simp [results, Try.results27, go_sem, x1, x2, x3]) rfl ⟨.slice none 0 0, by rw [HA.out], by rw [HA.out]; exact World.ownsRow_nil _ _ _ _, ?_⟩
          exact set3 HWB.out (Nat.le_refl _)
        have d2 : decide (2305843009213693952 < md k) = false := by simpa using g2
        by_cases g3 : fa k < 0
        · go_wp2
          refine bodyPost_ret (v := .tuple #[.agg #[.int .i64 0, .int .i64 0, .slice none 0 0], .int .i64 5]) (by simp [results, Try.results27, go_sem, x1, x2, x3]) rfl ⟨.slice none 0 0, by rw [HA.out], by rw [HA.out]; exact World.ownsRow_nil _ _ _ _, ?_⟩
          exact set3 HWB.out (Nat.le_refl _)
        have d3 : decide (fa k < 0) = false := by simpa using g3
        have g4 : 2305843009213693952 < fa k := by unfold Tame at hgood; omega
        go_wp2
        refine bodyPost_ret (v := .tuple #[.agg #[.int .i64 0, .int .i64 0, .slice none 0 0], .int .i64 5]) (by simp [results, Try.results27, go_sem, x1, x2, x3]) rfl ⟨.slice none 0 0, by rw [HA.out], by rw [HA.out]; exact World.ownsRow_nil _ _ _ _, ?_⟩
        exact set3 HWB.out (Nat.le_refl _)
    · obtain rfl : k = n := by omega
      have hlt' : ¬ (k : Int) < k := by omega
      go_wp2
      go_loopw [5] (fun i wx => ∃ f : Nat, 2 * f ≤ k + 1 ∧ i = .int .i64 f ∧ (∀ g, g < f → okAt md fa k g = false) ∧ Below (w.heap.size + 1) (w.alloc (.cells #[.int .i64 0, .int .i64 0, .slice none 0 0] 67)) wx) (fun i _ => k - (intOf i).toNat)
      case atStart => exact ⟨0, by omega, rfl, fun g hgg => by omega, HW.out⟩
      case round =>
        clear HW HWB
        obtain ⟨f, hf2, rfl, hno, hbw⟩ := hrel
        have HW : Hid (Below (w.heap.size + 1) (w.alloc (.cells #[.int .i64 0, .int .i64 0, .slice none 0 0] 67)) wr) := hbw
        have HNO : Hid (∀ g, g < f → okAt md fa k g = false) := hno
        clear hbw hno
        have HWB : Hid (Below w.heap.size w wr) := fit3 _ HW.out
        have HSZ : Hid (w.heap.size + 1 ≤ wr.heap.size) := by have := HW.out.size; simp at this; exact this
        by_cases hlt2 : 2 * f < k
        · have hlt3 : 2 * (f : Int) < k := by omega
          have T2 : Hid (TicksAt wr b off k md fa) := HT.out.below hb HWB.out
          by_cases hok : okAt md fa k f = true
          · have HA : Hid (outOf md fa k = ⟨lowTo md fa k ((k : Int) - f) k, highTo md fa k ((k : Int) - f) k, whoOf md fa k f, 0⟩) := out_some hn0 hn HG.out (sel_some hlt2 hok HNO.out)
            go_wp2_with (go_at_call 51; refine (choice_any b off k c f md fa _ hn0 hn hlt2 T2.out HG.out).mono ?_; rintro r2 w2 ⟨cl, ch, wa, wn, wc, rfl, himp, hb2⟩; rw [hok]; have HI : Hid (_ ∧ _ ∧ _) := himp hok; have B2 : Hid (Below (w.heap.size + 1) (w.alloc (.cells #[.int .i64 0, .int .i64 0, .slice none 0 0] 67)) w2) := HW.out.trans (hb2.mono HSZ.out); have hz : w.heap.size < w2.heap.size := (by have := HSZ.out; have := hb2.size; omega); have nb : ¬ w.heap.size = w2.heap.size := (by omega); clear himp hb2; obtain ⟨x1, x2, x3, x4, x5, x6⟩ := box3_cells (box3 B2.out))
            obtain ⟨y1, y2, y3, y4, y5, y6⟩ := box3_cells (set3_alloc (box3 B2.out) (.int .i64 cl) (.int .i64 ch) (.slice wa wn wc) (.cells #[.int .i64 cl, .int .i64 ch, .slice wa wn wc] 67))
            refine bodyPost_ret (v := .tuple #[.agg #[.int .i64 cl, .int .i64 ch, .slice wa wn wc], .int .i64 0]) (by simp [results, Try.results27, go_sem, y1, y2, y3]) rfl ⟨.slice wa wn wc, by rw [HA.out, HI.out.1, HI.out.2.1], ?_, (set3 (fit3 _ B2.out) (Nat.le_refl _)).alloc (by rw [World.size_setCell, World.size_setCell, World.size_setCell]; omega) _⟩
            rw [HA.out]
            refine own_keep (own_base HI.out.2.2 (by have := HSZ.out; omega)) fun q hq => ?_
            have h5 := HI.out.2.2.lt q hq
            have h6 := HSZ.out
            rw [Below.block (B := q + 1) ((Below.refl _ _).alloc (by rw [World.size_setCell, World.size_setCell, World.size_setCell]; omega) _) q (by omega), heap_setCell_other _ _ _ _ (show q ≠ w.heap.size by omega), heap_setCell_other _ _ _ _ (show q ≠ w.heap.size by omega), heap_setCell_other _ _ _ _ (show q ≠ w.heap.size by omega)]
          · have HFA : Hid (okAt md fa k f = false) := by show _ = _; simpa using hok
            clear hok
            go_wp2_with (go_at_call 51; refine (choice_any b off k c f md fa _ hn0 hn hlt2 T2.out HG.out).mono ?_; rintro r2 w2 ⟨cl, ch, wa, wn, wc, rfl, himp, hb2⟩; rw [HFA.out]; have B2 : Hid (Below (w.heap.size + 1) (w.alloc (.cells #[.int .i64 0, .int .i64 0, .slice none 0 0] 67)) w2) := HW.out.trans (hb2.mono HSZ.out); clear himp hb2)
            go_roundw
            case rel => exact ⟨f + 1, by omega, by go_num, fun g hgg => by
              rcases Nat.lt_or_ge g f with h | h
              · exact HNO.out g h
              · rw [show g = f by omega]; exact HFA.out, B2.out.alloc (by have := B2.out.size; simp at this; exact this) _⟩
            case measure => simp [intOf]; omega
        · have hlt3 : ¬ 2 * (f : Int) < k := by omega
          have HA : Hid (outOf md fa k = ⟨0, 0, [], 10⟩) := out_none hn0 hn HG.out (sel_none fun g hgg => HNO.out g (by omega))
          obtain ⟨x1, x2, x3, x4, x5, x6⟩ := box3_cells (box3 HW.out)
          go_wp2
          refine bodyPost_ret (v := .tuple #[.agg #[.int .i64 0, .int .i64 0, .slice none 0 0], .int .i64 10]) (by simp [results, Try.results27, go_sem, x1, x2, x3]) rfl ⟨.slice none 0 0, by rw [HA.out], by rw [HA.out]; exact World.ownsRow_nil _ _ _ _, ?_⟩
          exact set3 HWB.out (Nat.le_refl _)
theorem refSelect_all (ao : Option Addr) (n c : Nat) (md fa : Nat → Int) (w : World) (hC : Clocks w ao n md fa) :
    Calls Try.prog 27 #[.slice ao n c] w (Chosen (outOf md fa n) w) := by
  obtain ⟨hm, h⟩ := hC
  by_cases hn : n = 0 ∨ 32 < n
  · exact refSelect_arg ao n c md fa w hm hn
  · rcases h with h | ⟨b, off, rfl, hT⟩
    · omega
    · exact refSelect_any b off n c md fa w (by omega) (by omega) hT
end Go.Proofs.Ytjdcnlggpfkopaa
