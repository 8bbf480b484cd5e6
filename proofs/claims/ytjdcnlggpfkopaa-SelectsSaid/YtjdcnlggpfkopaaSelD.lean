/- Many clocks, the code: Select. -/
import Derived.Test.YtjdcnlggpfkopaaSelC
namespace Go.Proofs.Ytjdcnlggpfkopaa
open Go.ChangeShapes Go.WideShapes Go.ChangeAt Go.RowKit
set_option linter.unusedVariables false

/-- What Select hands back. -/
def Chosen (A : Answer) (w : World) (r : Ending) (w' : World) : Prop :=
  ∃ v, r = .returned (.tuple #[.agg #[.int .i64 A.low, .int .i64 A.high, v], .int .i64 A.err]) ∧ w'.ownsRow (w.heap.size + 1) 3 1 v A.who.length (ints A.who) ∧ Below w.heap.size w w'
theorem set3 {B bo : Nat} {w W : World} {x y z : Value} (h : Below B w W) (hB : B ≤ bo) : Below B w (((W.setCell ⟨bo, 0, none⟩ x).setCell ⟨bo, 1, none⟩ y).setCell ⟨bo, 2, none⟩ z) :=
  ((h.setCell hB _).setCell hB _).setCell hB _
set_option maxRecDepth 100000 in
set_option maxHeartbeats 1600000 in
theorem select_bad (b off n c : Nat) (md fa : Nat → Int) (w : World) (hn0 : 0 < n) (hn : n ≤ 32) (hT : TicksAt w b off n md fa) (hg : ¬ ∀ j, j < n → Tame md fa j) :
    Calls Try.prog 50 #[.slice (some ⟨b, off, none⟩) n c] w (Chosen (outOf md fa n) w) := by
  have hb : b < w.heap.size := hT.lt hn0
  have T1 : Hid (TicksAt (w.alloc (.cells #[.int .i64 0, .int .i64 0, .slice none 0 0] 67)) b off n md fa) := hT.below hb ((Below.refl _ _).alloc (Nat.le_refl _) _)
  have HK : Hid (chkOf md fa n = 5) := by
    show _ = _
    unfold chkOf
    rw [if_neg (by omega), if_neg hg]
  have HA : Hid (outOf md fa n = ⟨0, 0, [], 5⟩) := out_range hn0 hn hg
  clear hT hg
  go_enter Try.func50, Try.ntmps50
  go_wp2_with (go_at_call 70; refine (chk_any b off n c md fa _ hn0 hn T1.out).mono ?_; rintro r1 w1 ⟨rfl, hb1⟩; rw [HK.out]; obtain ⟨hc, hf⟩ := scell hb1; have HB1 : Hid (Below _ _ w1) := hb1; clear hb1)
  refine bodyPost_ret (v := .tuple #[.agg #[.int .i64 0, .int .i64 0, .slice none 0 0], .int .i64 5]) (by simp [results, Try.results50, go_sem, hc]) rfl ⟨.slice none 0 0, by rw [HA.out], by rw [HA.out]; exact World.ownsRow_nil _ _ _ _, ?_⟩
  exact (((((Below.refl _ _).alloc (Nat.le_refl _) _).trans (HB1.out.mono (by simp))).setCell (Nat.le_refl _) _).setCell (Nat.le_refl _) _).setCell (Nat.le_refl _) _
theorem select_arg (ao : Option Addr) (n c : Nat) (md fa : Nat → Int) (w : World) (hn : n ≤ maxLen) (h : n = 0 ∨ 32 < n) :
    Calls Try.prog 50 #[.slice ao n c] w (Chosen (outOf md fa n) w) := by
  have HA : Hid (outOf md fa n = ⟨0, 0, [], 11⟩) := out_arg h
  go_enter Try.func50, Try.ntmps50
  go_wp2_with (go_at_call 70; refine (chk_arg ao n c _ hn h).mono ?_; rintro r1 w1 ⟨rfl, rfl⟩)
  refine bodyPost_ret (v := .tuple #[.agg #[.int .i64 0, .int .i64 0, .slice none 0 0], .int .i64 11]) (by simp [results, Try.results50, go_sem]) rfl ⟨.slice none 0 0, by rw [HA.out], by rw [HA.out]; exact World.ownsRow_nil _ _ _ _, ?_⟩
  exact (Below.refl _ _).alloc (Nat.le_refl _) _
theorem box3 {w W' : World} {x y z : Value} {t : TypeId} (h : Below (w.heap.size + 1) (w.alloc (.cells #[x, y, z] t)) W') :
    W'.heap[w.heap.size]? = some (.cells #[x, y, z] t (0, 0)) := by
  rw [h.block _ (by omega)]
  exact heap_alloc_new w _
theorem box3_cells {W' : World} {bo : Nat} {x y z : Value} {t : TypeId} (h : W'.heap[bo]? = some (.cells #[x, y, z] t (0, 0))) :
    W'.cell? ⟨bo, 0, none⟩ = some x ∧ W'.cell? ⟨bo, 1, none⟩ = some y ∧ W'.cell? ⟨bo, 2, none⟩ = some z ∧ W'.frozen? ⟨bo, 0, none⟩ = false ∧ W'.frozen? ⟨bo, 1, none⟩ = false ∧ W'.frozen? ⟨bo, 2, none⟩ = false :=
  ⟨by rw [cell_of_row _ _ 0 _ _ _ h]; rfl, by rw [cell_of_row _ _ 1 _ _ _ h]; rfl, by rw [cell_of_row _ _ 2 _ _ _ h]; rfl, frozen_of_row _ _ 0 _ _ h, frozen_of_row _ _ 1 _ _ h, frozen_of_row _ _ 2 _ _ h⟩
theorem fit3 {w W : World} (o : Obj) (h : Below (w.heap.size + 1) (w.alloc o) W) : Below w.heap.size w W := ((Below.refl _ _).alloc (Nat.le_refl _) _).trans (h.mono (by omega))
set_option maxRecDepth 100000 in
set_option maxHeartbeats 4000000 in
theorem select_good (b off n c : Nat) (md fa : Nat → Int) (w : World) (hn0 : 0 < n) (hn : n ≤ 32) (hT : TicksAt w b off n md fa) (hg : ∀ j, j < n → Tame md fa j) :
    Calls Try.prog 50 #[.slice (some ⟨b, off, none⟩) n c] w (Chosen (outOf md fa n) w) := by
  have hb : b < w.heap.size := hT.lt hn0
  have T1 : Hid (TicksAt (w.alloc (.cells #[.int .i64 0, .int .i64 0, .slice none 0 0] 67)) b off n md fa) := hT.below hb ((Below.refl _ _).alloc (Nat.le_refl _) _)
  have HK : Hid (chkOf md fa n = 0) := by
    show _ = _
    unfold chkOf
    rw [if_neg (by omega), if_pos hg]
  have HG : Hid (∀ j, j < n → Tame md fa j) := hg
  have HT : Hid (TicksAt w b off n md fa) := hT
  clear hT hg
  go_enter Try.func50, Try.ntmps50
  go_wp2_with (go_at_call 70; refine (chk_any b off n c md fa _ hn0 hn T1.out).mono ?_; rintro r1 w1 ⟨rfl, hb1⟩; rw [HK.out]; have HB1 : Hid (Below (w.heap.size + 1) (w.alloc (.cells #[.int .i64 0, .int .i64 0, .slice none 0 0] 67)) w1) := (hb1.mono (by simp)); clear hb1)
  go_loopw [5] (fun i wr => ∃ f : Nat, 2 * f ≤ n + 1 ∧ i = .int .i64 f ∧ (∀ g, g < f → okAt md fa n g = false) ∧ Below (w.heap.size + 1) (w.alloc (.cells #[.int .i64 0, .int .i64 0, .slice none 0 0] 67)) wr) (fun i _ => n - (intOf i).toNat)
  case atStart => exact ⟨0, by omega, rfl, fun g hgg => by omega, HB1.out⟩
  case round =>
    obtain ⟨f, hf2, rfl, hno, hbw⟩ := hrel
    have HW : Hid (Below (w.heap.size + 1) (w.alloc (.cells #[.int .i64 0, .int .i64 0, .slice none 0 0] 67)) wr) := hbw
    have HNO : Hid (∀ g, g < f → okAt md fa n g = false) := hno
    clear hbw hno
    have HSZ : Hid (w.heap.size + 1 ≤ wr.heap.size) := by have := HW.out.size; simp at this; exact this
    by_cases hlt : 2 * f < n
    · have hlt' : 2 * (f : Int) < n := by omega
      have hwl := whoTo_len md (lowTo md fa n ((n : Int) - f) n) (highTo md fa n ((n : Int) - f) n) n
      have hl := lowTo_le md fa n ((n : Int) - f) HG.out n (Nat.le_refl _)
      have hh := highTo_le md fa n ((n : Int) - f) HG.out n (Nat.le_refl _)
      have T2 : Hid (TicksAt wr b off n md fa) := T1.out.below (by omega) HW.out
      have HOK : Hid (okAt md fa n f = decide (n - (whoTo md (lowTo md fa n ((n : Int) - f) n) (highTo md fa n ((n : Int) - f) n) n).length ≤ f)) := rfl
      have HOUT : Hid (okAt md fa n f = true → outOf md fa n = ⟨lowTo md fa n ((n : Int) - f) n, highTo md fa n ((n : Int) - f) n, whoTo md (lowTo md fa n ((n : Int) - f) n) (highTo md fa n ((n : Int) - f) n) n, 0⟩) := fun hok => out_some hn0 hn HG.out (sel_some hlt hok HNO.out)
      by_cases hok : okAt md fa n f = true
      · have hle : (n : Int) - (whoTo md (lowTo md fa n ((n : Int) - f) n) (highTo md fa n ((n : Int) - f) n) n).length ≤ f := by
          rw [HOK.out, decide_eq_true_eq] at hok
          omega
        have HA : Hid (outOf md fa n = ⟨lowTo md fa n ((n : Int) - f) n, highTo md fa n ((n : Int) - f) n, whoTo md (lowTo md fa n ((n : Int) - f) n) (highTo md fa n ((n : Int) - f) n) n, 0⟩) := HOUT.out hok
        clear hok HOUT HOK
        go_wp2_with (first
          | (go_at_call 71; refine (allowed_any b off n c md fa _ _ (by omega) T2.out HG.out).mono ?_; rintro r2 w2 ⟨rfl, hb2⟩; have B2 : Hid (Below (w.heap.size + 1) (w.alloc (.cells #[.int .i64 0, .int .i64 0, .slice none 0 0] 67)) w2) := HW.out.trans (hb2.mono HSZ.out); have HS2 : Hid (wr.heap.size ≤ w2.heap.size) := hb2.size; clear hb2; have T3 : Hid (TicksAt w2 b off n md fa) := T1.out.below (by omega) B2.out)
          | (go_at_call 72; refine (between_any b off n c md fa _ _ _ (by omega) T3.out).mono ?_; rintro r3 w3 ⟨v, rfl, ho3, hb3⟩; have B3 : Hid (Below (w.heap.size + 1) (w.alloc (.cells #[.int .i64 0, .int .i64 0, .slice none 0 0] 67)) w3) := B2.out.trans (hb3.mono (Nat.le_trans HSZ.out HS2.out)); clear hb3; obtain ⟨av, cv, rfl⟩ := slice_of ho3; have HO : Hid (w3.ownsRow _ _ _ _ _ _) := ho3; clear ho3; obtain ⟨x1, x2, x3, x4, x5, x6⟩ := box3_cells (box3 B3.out)))
        refine bodyPost_ret (v := .tuple #[.agg #[.int .i64 (lowTo md fa n ((n : Int) - f) n), .int .i64 (highTo md fa n ((n : Int) - f) n), .slice av (whoTo md (lowTo md fa n ((n : Int) - f) n) (highTo md fa n ((n : Int) - f) n) n).length cv], .int .i64 0]) (by simp [results, Try.results50, go_sem, x1, x2, x3]) rfl ⟨_, by rw [HA.out], ?_, ?_⟩
        · rw [HA.out]
          refine own_keep (own_base HO.out (Nat.le_trans HSZ.out HS2.out)) fun k hk => ?_
          have := (HO.out.lt k hk).1
          have := HS2.out
          have := HSZ.out
          rw [heap_setCell_other _ _ _ _ (show k ≠ w.heap.size by omega), heap_setCell_other _ _ _ _ (show k ≠ w.heap.size by omega), heap_setCell_other _ _ _ _ (show k ≠ w.heap.size by omega)]
        · exact (((fit3 _ B3.out).setCell (Nat.le_refl _) _).setCell (Nat.le_refl _) _).setCell (Nat.le_refl _) _
      · have hnl : ¬ (n : Int) - (whoTo md (lowTo md fa n ((n : Int) - f) n) (highTo md fa n ((n : Int) - f) n) n).length ≤ f := by
          intro hle
          apply hok
          rw [HOK.out, decide_eq_true_eq]
          omega
        have HFA : Hid (okAt md fa n f = false) := by show _ = _; simpa using hok
        clear hok HOUT HOK
        go_wp2_with (first
          | (go_at_call 71; refine (allowed_any b off n c md fa _ _ (by omega) T2.out HG.out).mono ?_; rintro r2 w2 ⟨rfl, hb2⟩; have B2 : Hid (Below (w.heap.size + 1) (w.alloc (.cells #[.int .i64 0, .int .i64 0, .slice none 0 0] 67)) w2) := HW.out.trans (hb2.mono HSZ.out); have HS2 : Hid (wr.heap.size ≤ w2.heap.size) := hb2.size; clear hb2; have T3 : Hid (TicksAt w2 b off n md fa) := T1.out.below (by omega) B2.out)
          | (go_at_call 72; refine (between_any b off n c md fa _ _ _ (by omega) T3.out).mono ?_; rintro r3 w3 ⟨v, rfl, ho3, hb3⟩; have B3 : Hid (Below (w.heap.size + 1) (w.alloc (.cells #[.int .i64 0, .int .i64 0, .slice none 0 0] 67)) w3) := B2.out.trans (hb3.mono (Nat.le_trans HSZ.out HS2.out)); clear hb3; obtain ⟨av, cv, rfl⟩ := slice_of ho3; clear ho3))
        go_roundw
        case rel => exact ⟨f + 1, by omega, by go_num, fun g hgg => by
          rcases Nat.lt_or_ge g f with h | h
          · exact HNO.out g h
          · rw [show g = f by omega]; exact HFA.out, B3.out⟩
        case measure => simp [intOf]; omega
    · have hlt' : ¬ 2 * (f : Int) < n := by omega
      have HA : Hid (outOf md fa n = ⟨0, 0, [], 10⟩) := out_none hn0 hn HG.out (sel_none fun g hgg => HNO.out g (by omega))
      obtain ⟨x1, x2, x3, x4, x5, x6⟩ := box3_cells (box3 HW.out)
      go_wp2
      refine bodyPost_ret (v := .tuple #[.agg #[.int .i64 0, .int .i64 0, .slice none 0 0], .int .i64 10]) (by simp [results, Try.results50, go_sem, x1, x2, x3]) rfl ⟨.slice none 0 0, by rw [HA.out], by rw [HA.out]; exact World.ownsRow_nil _ _ _ _, ?_⟩
      exact (((fit3 _ HW.out).setCell (Nat.le_refl _) _).setCell (Nat.le_refl _) _).setCell (Nat.le_refl _) _
theorem select_any (b off n c : Nat) (md fa : Nat → Int) (w : World) (hn0 : 0 < n) (hn : n ≤ 32) (hT : TicksAt w b off n md fa) :
    Calls Try.prog 50 #[.slice (some ⟨b, off, none⟩) n c] w (Chosen (outOf md fa n) w) := by
  by_cases hg : ∀ j, j < n → Tame md fa j
  · exact select_good b off n c md fa w hn0 hn hT hg
  · exact select_bad b off n c md fa w hn0 hn hT hg
/-- Of any list of clocks. -/
def Clocks (w : World) (ao : Option Addr) (n : Nat) (md fa : Nat → Int) : Prop := n ≤ maxLen ∧ (n = 0 ∨ ∃ b off, ao = some ⟨b, off, none⟩ ∧ TicksAt w b off n md fa)
theorem select_all (ao : Option Addr) (n c : Nat) (md fa : Nat → Int) (w : World) (hC : Clocks w ao n md fa) :
    Calls Try.prog 50 #[.slice ao n c] w (Chosen (outOf md fa n) w) := by
  obtain ⟨hm, h⟩ := hC
  by_cases hn : n = 0 ∨ 32 < n
  · exact select_arg ao n c md fa w hm hn
  · rcases h with h | ⟨b, off, rfl, hT⟩
    · omega
    · exact select_any b off n c md fa w (by omega) (by omega) hT
theorem Clocks.below {w w' : World} {ao : Option Addr} {n B : Nat} {md fa : Nat → Int} (h : Clocks w ao n md fa) (hB : w.heap.size ≤ B) (hb : Below B w w') : Clocks w' ao n md fa := by
  refine ⟨h.1, ?_⟩
  by_cases h0 : n = 0
  · exact Or.inl h0
  · rcases h.2 with h | ⟨b, off, h1, h2⟩
    · exact Or.inl h
    · exact Or.inr ⟨b, off, h1, h2.below (Nat.lt_of_lt_of_le (h2.lt (show 0 < n by omega)) hB) hb⟩
set_option maxRecDepth 100000 in
theorem door_select (ao : Option Addr) (n c : Nat) (md fa : Nat → Int) (w : World) (hC : Clocks w ao n md fa) :
    Calls Try.prog 26 #[.slice ao n c] w (Chosen (outOf md fa n) w) := by
  have HC : Hid (Clocks (w.alloc (.cells #[.int .i64 0, .int .i64 0, .slice none 0 0] 67)) ao n md fa) := hC.below (Nat.le_refl _) ((Below.refl _ _).alloc (Nat.le_refl _) _)
  clear hC
  go_enter Try.func26, Try.ntmps26
  go_wp2_with (go_at_call 50; refine (select_all ao n c md fa _ HC.out).mono ?_; rintro r1 w1 ⟨v, rfl, ho, hb⟩; have HB : Hid (Below (w.heap.size + 1) (w.alloc (.cells #[.int .i64 0, .int .i64 0, .slice none 0 0] 67)) w1) := (hb.mono (by simp)); obtain ⟨av, cv, rfl⟩ := slice_of ho; have HO : Hid (w1.ownsRow _ _ _ _ _ _) := ho; clear hb ho; obtain ⟨x1, x2, x3, x4, x5, x6⟩ := box3_cells (box3 HB.out))
  refine bodyPost_ret (v := .tuple #[.agg #[.int .i64 (outOf md fa n).low, .int .i64 (outOf md fa n).high, .slice av (outOf md fa n).who.length cv], .int .i64 (outOf md fa n).err]) (by simp [results, Try.results26, go_sem, x1, x2, x3]) rfl ⟨_, rfl, ?_, set3 (fit3 _ HB.out) (Nat.le_refl _)⟩
  refine own_keep (own_base HO.out (by simp)) fun k hk => ?_
  have h1 : w.heap.size + 1 + 1 ≤ k := by have := (HO.out.lt k hk).1; simpa using this
  rw [heap_setCell_other _ _ _ _ (show k ≠ w.heap.size by omega), heap_setCell_other _ _ _ _ (show k ≠ w.heap.size by omega), heap_setCell_other _ _ _ _ (show k ≠ w.heap.size by omega)]
end Go.Proofs.Ytjdcnlggpfkopaa
