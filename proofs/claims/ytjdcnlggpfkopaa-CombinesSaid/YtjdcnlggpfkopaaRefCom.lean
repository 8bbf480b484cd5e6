/- Many clocks, the document: what they say together; the law Combines. -/
import Derived.Test.YtjdcnlggpfkopaaCom
import Derived.Test.YtjdcnlggpfkopaaRefSelC
import Derived.Test.YtjdcnlggpfkopaaTickA
namespace Go.Proofs.Ytjdcnlggpfkopaa
open Go.ChangeShapes Go.WideShapes Go.ChangeAt Go.RowKit
set_option linter.unusedVariables false

set_option maxRecDepth 100000 in
set_option maxHeartbeats 1600000 in
theorem refCombine_any (ao : Option Addr) (n c : Nat) (md fa : Nat → Int) (w : World) (hC : Clocks w ao n md fa) :
    Calls Try.prog 31 #[.slice ao n c] w fun r w' => r = .returned (.tuple #[.int .i64 (combOf md fa n), .int .i64 (outOf md fa n).err]) ∧ Below w.heap.size w w' := by
  have HC : Hid (Clocks w ao n md fa) := hC
  clear hC
  by_cases he : (outOf md fa n).err = 0
  · have HO := out_ok he
    have HCO : Hid (combOf md fa n = meanOf (whoAt md (outOf md fa n).who) (whoAt fa (outOf md fa n).who) (outOf md fa n).who.length) := by show _ = _; unfold combOf; rw [if_pos he]
    have HE : Hid ((outOf md fa n).err = 0) := he
    have HS := refSelect_all ao n c md fa w HC.out
    rw [he, HCO.out]
    generalize (outOf md fa n) = A at *
    obtain ⟨lo, hi, L, er⟩ := A
    have hl0 := HO.l0
    have hl1 := HO.l1
    have hn0 := HO.n0
    have hn1 := HO.n1
    dsimp only at hl0 hl1
    have HOK : Hid (OutOk md fa n L) := HO
    have HSE : Hid (Calls Try.prog 27 #[.slice ao n c] w (Chosen ⟨lo, hi, L, er⟩ w)) := HS
    obtain rfl : er = 0 := HE.out
    obtain ⟨b, off, rfl, hT⟩ : ∃ b off, ao = some ⟨b, off, none⟩ ∧ TicksAt w b off n md fa := by
      rcases HC.out.2 with h | h
      · omega
      · exact h
    have hb : b < w.heap.size := hT.lt hn0
    have HT : Hid (TicksAt w b off n md fa) := hT
    clear hT HO HS HC HE HCO
    go_enter Try.func31, Try.ntmps31
    go_wp2_with (go_at_call 27; refine HSE.out.mono ?_; rintro r1 w1 ⟨v, rfl, ho, hb1⟩; obtain ⟨g, cg, rfl, hg1, hg2⟩ := own_some ho hl0; have B1 : Hid (Below w.heap.size w w1) := hb1; have HIC : Hid (∀ j, j < L.length → w1.cell? ⟨g, j, none⟩ = some (.int .i64 (L.getD j 0 : Nat))) := ints_cell ho rfl; clear ho hb1)
    go_loopw [6, 7, 8] (fun wv pv i wr => ∃ k : Nat, k ≤ L.length ∧ i = .int .i64 k ∧ wv = .float .f64 (sumW (whoAt fa L) k) ∧ pv = .float .f64 (sumP (whoAt md L) (whoAt fa L) k) ∧ Below (w1.heap.size + 1) (w1.alloc (.cells #[.int .i64 lo, .int .i64 hi, .slice (some ⟨g, 0, none⟩) L.length cg] 67)) wr) (fun _ _ i _ => L.length - (intOf i).toNat)
    case atStart => exact ⟨0, by omega, rfl, rfl, rfl, Below.refl _ _⟩
    case round =>
      obtain ⟨k, hk, rfl, rfl, rfl, hbw⟩ := hrel
      have HX : Hid (Below (w1.heap.size + 1) (w1.alloc (.cells #[.int .i64 lo, .int .i64 hi, .slice (some ⟨g, 0, none⟩) L.length cg] 67)) wr) := hbw
      have HW : Hid (Below w1.heap.size w1 wr) := fit3 _ hbw
      obtain ⟨x1, x2, x3, x4, x5, x6⟩ := box3_cells (box3 hbw)
      clear hbw HSE
      by_cases hlt : k < L.length
      · have hlt' : (k : Int) < L.length := by omega
        have hwp := HOK.out.who k hlt
        obtain ⟨g1, g2, g3, g4⟩ := HOK.out.good _ hwp
        have ci : wr.cell? ⟨g, k, none⟩ = some (.int .i64 (L.getD k 0 : Nat)) := by rw [HW.out.cell (p := ⟨g, k, none⟩) hg2]; exact HIC.out k hlt
        obtain ⟨c1, c2⟩ := HT.out.below hb (B1.out.trans (HW.out.mono B1.out.size)) (L.getD k 0) hwp
        obtain ⟨_, sa⟩ := sums_both (whoAt md L) (whoAt fa L) L.length HOK.out.fine k hk (by omega)
        obtain ⟨s1, s2⟩ := sa hlt
        obtain ⟨s3, _⟩ := prod_ok (whoAt fa L k) (whoAt md L k) (HOK.out.fine k hlt).1 (HOK.out.fine k hlt).2.1 (HOK.out.fine k hlt).2.2
        have e1 : whoAt md L k = md (L.getD k 0) := rfl
        have e2 : whoAt fa L k = fa (L.getD k 0) := rfl
        rw [e1, e2] at s2 s3
        rw [e2] at s1
        generalize md (L.getD k 0) = M at *
        generalize fa (L.getD k 0) = F at *
        generalize L.getD k 0 = q at *
        obtain ⟨bb, t1, t2, _, _⟩ := weight_ok F g3 g4
        have hd1 : floatBits .mul .f64 (weightBits F) (floatOfInt .f64 M) = some (prodBits F M) := s3
        have hd2 : floatBits .add .f64 (sumW (whoAt fa L) k) (weightBits F) = some (sumW (whoAt fa L) (k + 1)) := s1
        have hd3 : floatBits .add .f64 (sumP (whoAt md L) (whoAt fa L) k) (prodBits F M) = some (sumP (whoAt md L) (whoAt fa L) (k + 1)) := s2
        have hd4 : floatBits .add .f64 (floatOfInt .f64 F) 4607182418800017408 = some bb := t1
        have hd5 : floatBits .quo .f64 4607182418800017408 bb = some (weightBits F) := t2
        have hr1 := fun w t => run_float_arith (P := Try.prog) w .mul t .f64 _ _ _ hd1
        have hr2 := fun w t => run_float_arith (P := Try.prog) w .add t .f64 _ _ _ hd2
        have hr3 := fun w t => run_float_arith (P := Try.prog) w .add t .f64 _ _ _ hd3
        have hr4 := fun w t => run_float_arith (P := Try.prog) w .add t .f64 _ _ _ hd4
        have hr5 := fun w t => run_float_arith (P := Try.prog) w .quo t .f64 _ _ _ hd5
        generalize sumW (whoAt fa L) k = W0 at *
        generalize sumP (whoAt md L) (whoAt fa L) k = P0 at *
        clear hd1 hd2 hd3 hd4 hd5 s1 s2 s3 e1 e2 sa t1 t2
        have hwp' : (q : Int) < n := by omega
        have HSZ : Hid (w1.heap.size + 1 ≤ wr.heap.size) := by have := HX.out.size; simp at this; exact this
        have hbr : b < wr.heap.size := by have := HSZ.out; have := B1.out.size; omega
        have nb : ¬ b = wr.heap.size := by omega
        go_wp2
        go_roundw
        case rel => exact ⟨k + 1, by omega, by go_num, rfl, rfl, HX.out.alloc HSZ.out _⟩
        case measure => simp [intOf]; omega
      · obtain rfl : k = L.length := by omega
        obtain ⟨m1, m2⟩ := mean_ok (whoAt md L) (whoAt fa L) L.length HOK.out.fine hl0 (by omega)
        have hd1 : floatBits .quo .f64 (sumP (whoAt md L) (whoAt fa L) L.length) (sumW (whoAt fa L) L.length) = some (meanBits (whoAt md L) (whoAt fa L) L.length) := m1
        have hr1 := fun w t => run_float_arith (P := Try.prog) w .quo t .f64 _ _ _ hd1
        have hr2 := fun w => run_convert_float_int (P := Try.prog) w 100 2 .f64 .i64 _ _ (by kernel_rfl) Try.underlying2 m2
        generalize sumW (whoAt fa L) L.length = W0 at *
        generalize sumP (whoAt md L) (whoAt fa L) L.length = P0 at *
        generalize meanBits (whoAt md L) (whoAt fa L) L.length = Z at *
        clear hd1 m1 m2
        go_wp2
        go_ret2
        exact ⟨rfl, B1.out.trans (HW.out.mono B1.out.size)⟩
  · have HCO : Hid (combOf md fa n = 0) := by show _ = _; unfold combOf; rw [if_neg he]
    have HSE : Hid (Calls Try.prog 27 #[.slice ao n c] w (Chosen (outOf md fa n) w)) := refSelect_all ao n c md fa w HC.out
    rw [HCO.out]
    have heb : ((outOf md fa n).err == 0) = false := by simpa using he
    clear HC HCO
    generalize (outOf md fa n) = A at *
    obtain ⟨lo, hi, L, er⟩ := A
    dsimp only at he heb ⊢
    go_enter Try.func31, Try.ntmps31
    go_wp2_with (go_at_call 27; refine HSE.out.mono ?_; rintro r1 w1 ⟨v, rfl, ho, hb1⟩; obtain ⟨av, cv, rfl⟩ := slice_of ho; have B1 : Hid (Below w.heap.size w w1) := hb1; clear ho hb1)
    go_ret2
    exact ⟨rfl, B1.out.alloc B1.out.size _⟩
theorem Lent2.clocks {w : World} {g n : Nat} {md fa : Nat → Int} (h : Lent2 w g n 4 md fa) (hn : n ≤ 8796093021952) : Clocks w (some ⟨g, 0, none⟩) n md fa := ⟨by unfold maxLen; omega, Or.inr ⟨g, 0, rfl, h.ticks⟩⟩
set_option maxRecDepth 100000 in
set_option maxHeartbeats 1600000 in
theorem combines_walk (a : Option Addr) (n cap : Nat) (md fa : Nat → Int) (w : World) (hT : TicksIn w a n cap md fa) :
    Calls Try.prog 8 #[.slice a n cap] w fun r w' => r = .returned (.bool true) ∧ Below w.heap.size w w' := by
  have hle := hT.hle
  have HT : Hid (TicksIn w a n cap md fa) := hT
  clear hT
  obtain ⟨N, hN⟩ : ∃ N, N = combOf md fa n := ⟨_, rfl⟩
  obtain ⟨E, hE⟩ : ∃ E, E = (outOf md fa n).err := ⟨_, rfl⟩
  have HN : Hid (N = combOf md fa n) := hN
  have HE : Hid (E = (outOf md fa n).err) := hE
  clear hN hE
  go_enter Try.func8, Try.ntmps8
  go_wp2_with (first
    | (go_at_call 25; refine (ticks_any a n cap md fa _ HT.out).mono ?_; rintro r1 w1 ⟨rfl, hl1, hb1⟩; have L1 : Hid (Lent2 w1 w.heap.size n 4 md fa) := hl1; have B1 : Hid (Below w.heap.size w w1) := hb1; clear hl1 hb1)
    | (go_at_call 30; refine (door_combine _ n _ md fa _ (L1.out.clocks hle)).mono ?_; rintro r2 w2 ⟨rfl, hb2⟩; rw [← HN.out, ← HE.out]; have B2 : Hid (Below w1.heap.size w1 w2) := hb2; clear hb2; have B12 : Hid (Below w.heap.size w w2) := B1.out.trans (B2.out.mono B1.out.size))
    | (go_at_call 31; refine (refCombine_any _ n _ md fa _ (HT.out.below B12.out).clocks).mono ?_; rintro r3 w3 ⟨rfl, hb3⟩; rw [← HN.out, ← HE.out]; have B3 : Hid (Below w2.heap.size w2 w3) := hb3; clear hb3; have B13 : Hid (Below w.heap.size w w3) := B12.out.trans (B3.out.mono B12.out.size); have HSZ : Hid (w.heap.size < w1.heap.size) := (by obtain ⟨cur, h1, _⟩ := L1.out; exact (Array.getElem?_eq_some_iff.1 h1).1); have L3 : Hid (Lent2 w3 w.heap.size n 4 md fa) := L1.out.block (by rw [B3.out.block _ (Nat.lt_of_lt_of_le HSZ.out B2.out.size), B2.out.block _ HSZ.out]))
    | (go_at_call 29; refine (sameTicks_true _ a n cap md fa _ L3.out (HT.out.below B13.out)).mono ?_; rintro r4 w4 ⟨rfl, m4, rfl⟩))
  go_ret
  exact ⟨rfl, bel_drewN B13.out _⟩
end Go.Proofs.Ytjdcnlggpfkopaa
