/- Many clocks, the code: what they say together. -/
import Derived.Test.YtjdcnlggpfkopaaSelD
import Derived.Test.YtjdcnlggpfkopaaFmC
import Derived.Deep.RegionHeld3
namespace Go.Proofs.Ytjdcnlggpfkopaa
open Go.ChangeShapes Go.WideShapes Go.ChangeAt Go.RowKit
set_option linter.unusedVariables false

/-- The j-th of those that are believed. -/
def whoAt (f : Nat → Int) (L : List Nat) (j : Nat) : Int := f (L.getD j 0)
/-- What Combine answers. -/
def combOf (md fa : Nat → Int) (n : Nat) : Int := if (outOf md fa n).err = 0 then meanOf (whoAt md (outOf md fa n).who) (whoAt fa (outOf md fa n).who) (outOf md fa n).who.length else 0
structure OutOk (md fa : Nat → Int) (n : Nat) (L : List Nat) : Prop where
  n0 : 0 < n
  n1 : n ≤ 32
  l0 : 0 < L.length
  l1 : L.length ≤ 32
  good : ∀ j, j < n → Tame md fa j
  who : ∀ j, j < L.length → L.getD j 0 < n
theorem out_ok {md fa : Nat → Int} {n : Nat} (h : (outOf md fa n).err = 0) : OutOk md fa n (outOf md fa n).who := by
  by_cases h1 : n = 0 ∨ 32 < n
  · rw [out_arg h1] at h; cases h
  by_cases h2 : ∀ j, j < n → Tame md fa j
  · cases hs : selOf md fa n with
    | none => rw [out_none (by omega) (by omega) h2 hs] at h; cases h
    | some f =>
      obtain ⟨h3, h4⟩ := sel_of hs
      rw [out_some (by omega) (by omega) h2 hs]
      have hl := whoTo_len md (lowTo md fa n ((n : Int) - f) n) (highTo md fa n ((n : Int) - f) n) n
      have h5 : n - (whoOf md fa n f).length ≤ f := by simpa [okAt] using h4
      refine ⟨by omega, by omega, ?_, ?_, h2, fun j hj => ?_⟩
      · show 0 < (whoOf md fa n f).length; omega
      · show (whoOf md fa n f).length ≤ 32; unfold whoOf; omega
      · have hj' : j < (whoOf md fa n f).length := hj
        refine whoTo_lt md (lowTo md fa n ((n : Int) - f) n) (highTo md fa n ((n : Int) - f) n) n _ ?_
        show (whoOf md fa n f).getD j 0 ∈ whoOf md fa n f
        rw [List.getD_eq_getElem?_getD, List.getElem?_eq_getElem hj', Option.getD_some]
        exact List.getElem_mem hj'
  · rw [out_range (by omega) (by omega) h2] at h; cases h
theorem OutOk.fine {md fa : Nat → Int} {n : Nat} {L : List Nat} (h : OutOk md fa n L) : Fine (whoAt md L) (whoAt fa L) L.length := fun j hj => by
  obtain ⟨g1, g2, g3, g4⟩ := h.good _ (h.who j hj)
  unfold whoAt
  exact ⟨g3, g4, by omega⟩
theorem ints_cell {w : World} {B : Nat} {v : Value} {L : List Nat} {g c : Nat} (h : w.ownsRow B 3 1 v L.length (ints L)) (hv : v = .slice (some ⟨g, 0, none⟩) L.length c) : ∀ j, j < L.length → w.cell? ⟨g, j, none⟩ = some (.int .i64 (L.getD j 0 : Nat)) := by
  intro j hj
  have hadd : (⟨g, 0, none⟩ : Addr).add j = ⟨g, j, none⟩ := by unfold Addr.add; split <;> simp_all
  have := h.cells (g := g) (by rw [hv]; rfl) j (.int .i64 (L.getD j 0 : Nat)) (by
    unfold ints
    rw [List.getElem?_map, List.getElem?_eq_getElem hj, List.getD_eq_getElem?_getD, List.getElem?_eq_getElem hj]; rfl)
  rwa [hadd] at this
theorem own_some {w : World} {B : Nat} {v : Value} {L : List Nat} (h : w.ownsRow B 3 1 v L.length (ints L)) (h0 : 0 < L.length) : ∃ g c, v = .slice (some ⟨g, 0, none⟩) L.length c ∧ B ≤ g ∧ g < w.heap.size := by
  rcases h.2 with ⟨h1, h2⟩ | ⟨g, cap, cur, h1, h2, h3, _⟩
  · omega
  · exact ⟨g, cap, h1, h2, (Array.getElem?_eq_some_iff.1 h3).1⟩
theorem bel_drewN {B : Nat} {w w' : World} (h : Below B w w') (m : Nat) : Below B w (w'.drewN m) := h.trans ⟨rfl, rfl, rfl, Nat.le_refl _, fun _ _ => rfl⟩
set_option maxRecDepth 100000 in
theorem weigh_any (far : Int) (w : World) (h0 : 0 ≤ far) (h1 : far ≤ 2305843009213693952) :
    Calls Try.prog 74 #[.int .i64 far] w fun r w' => r = .returned (.float .f64 (weightBits far)) ∧ w' = w := by
  obtain ⟨b, e1, e2, _, _⟩ := weight_ok far h0 h1
  have hd1 : floatBits .add .f64 (floatOfInt .f64 far) 4607182418800017408 = some b := e1
  have hd2 : floatBits .quo .f64 4607182418800017408 b = some (weightBits far) := e2
  have hr1 := fun w t => run_float_arith (P := Try.prog) w .add t .f64 _ _ _ hd1
  have hr2 := fun w t => run_float_arith (P := Try.prog) w .quo t .f64 _ _ _ hd2
  clear hd1 hd2 e1 e2
  go_enter Try.func74, Try.ntmps74
  go_wp2
  go_ret
  exact ⟨rfl, rfl⟩
set_option maxRecDepth 100000 in
set_option maxHeartbeats 1600000 in
theorem combine_any (ao : Option Addr) (n c : Nat) (md fa : Nat → Int) (w : World) (hC : Clocks w ao n md fa) :
    Calls Try.prog 52 #[.slice ao n c] w fun r w' => r = .returned (.tuple #[.int .i64 (combOf md fa n), .int .i64 (outOf md fa n).err]) ∧ Below w.heap.size w w' := by
  have HC : Hid (Clocks w ao n md fa) := hC
  clear hC
  by_cases he : (outOf md fa n).err = 0
  · have HO := out_ok he
    have HCO : Hid (combOf md fa n = meanOf (whoAt md (outOf md fa n).who) (whoAt fa (outOf md fa n).who) (outOf md fa n).who.length) := by show _ = _; unfold combOf; rw [if_pos he]
    have HE : Hid ((outOf md fa n).err = 0) := he
    have HS := select_all ao n c md fa w HC.out
    rw [he, HCO.out]
    generalize (outOf md fa n) = A at *
    obtain ⟨lo, hi, L, er⟩ := A
    have hl0 := HO.l0
    have hl1 := HO.l1
    have hn0 := HO.n0
    have hn1 := HO.n1
    dsimp only at hl0 hl1
    have HOK : Hid (OutOk md fa n L) := HO
    have HSE : Hid (Calls Try.prog 50 #[.slice ao n c] w (Chosen ⟨lo, hi, L, er⟩ w)) := HS
    obtain rfl : er = 0 := HE.out
    obtain ⟨b, off, rfl, hT⟩ : ∃ b off, ao = some ⟨b, off, none⟩ ∧ TicksAt w b off n md fa := by
      rcases HC.out.2 with h | h
      · omega
      · exact h
    have hb : b < w.heap.size := hT.lt hn0
    have HT : Hid (TicksAt w b off n md fa) := hT
    clear hT HO HS HC HE HCO
    have HZ : Hid (sumW (whoAt fa L) 0 = 0 ∧ sumP (whoAt md L) (whoAt fa L) 0 = 0) := ⟨rfl, rfl⟩
    go_enter Try.func52, Try.ntmps52
    go_wp2_with (go_at_call 50; refine HSE.out.mono ?_; rintro r1 w1 ⟨v, rfl, ho, hb1⟩; obtain ⟨g, cg, rfl, hg1, hg2⟩ := own_some ho hl0; have B1 : Hid (Below w.heap.size w w1) := hb1; have HIC : Hid (∀ j, j < L.length → w1.cell? ⟨g, j, none⟩ = some (.int .i64 (L.getD j 0 : Nat))) := ints_cell ho rfl; clear ho hb1)
    go_loopw [6, 7, 23] (fun wv pv i wr => ∃ k : Nat, k ≤ L.length ∧ i = .int .i64 k ∧ wv = .float .f64 (sumW (whoAt fa L) k) ∧ pv = .float .f64 (sumP (whoAt md L) (whoAt fa L) k) ∧ Below w1.heap.size w1 wr) (fun _ _ i _ => L.length - (intOf i).toNat)
    case atStart => exact ⟨0, by omega, rfl, rfl, rfl, (Below.refl _ _).alloc (Nat.le_refl _) _⟩
    case round =>
      obtain ⟨k, hk, rfl, rfl, rfl, hbw⟩ := hrel
      have HW : Hid (Below w1.heap.size w1 wr) := hbw
      clear hbw HSE
      by_cases hlt : k < L.length
      · have hlt' : (k : Int) < L.length := by omega
        have hwp := HOK.out.who k hlt
        obtain ⟨g1, g2, g3, g4⟩ := HOK.out.good _ hwp
        have ci : wr.cell? ⟨g, k, none⟩ = some (.int .i64 (L.getD k 0 : Nat)) := by rw [HW.out.cell (p := ⟨g, k, none⟩) hg2]; exact HIC.out k hlt
        obtain ⟨c1, c2⟩ := HT.out.below hb (B1.out.trans (HW.out.mono B1.out.size)) (L.getD k 0) hwp
        obtain ⟨_, sa⟩ := sums_both (whoAt md L) (whoAt fa L) L.length HOK.out.fine k hk (by omega)
        obtain ⟨s1, s2⟩ := sa hlt
        obtain ⟨s3, _⟩ := prod_ok (whoAt fa L k) (whoAt md L k) (HOK.out.fine k hlt).1 (HOK.out.fine k hlt).2.1 (HOK.out.fine k hlt).2.2
        have e1 : whoAt md L k = md (L.getD k 0) := rfl
        have e2 : whoAt fa L k = fa (L.getD k 0) := rfl
        rw [e1, e2] at s2 s3
        rw [e2] at s1
        generalize md (L.getD k 0) = M at *
        generalize fa (L.getD k 0) = F at *
        generalize L.getD k 0 = q at *
        have hd1 : floatBits .mul .f64 (weightBits F) (floatOfInt .f64 M) = some (prodBits F M) := s3
        have hd2 : floatBits .add .f64 (sumW (whoAt fa L) k) (weightBits F) = some (sumW (whoAt fa L) (k + 1)) := s1
        have hd3 : floatBits .add .f64 (sumP (whoAt md L) (whoAt fa L) k) (prodBits F M) = some (sumP (whoAt md L) (whoAt fa L) (k + 1)) := s2
        have hr1 := fun w t => run_float_arith (P := Try.prog) w .mul t .f64 _ _ _ hd1
        have hr2 := fun w t => run_float_arith (P := Try.prog) w .add t .f64 _ _ _ hd2
        have hr3 := fun w t => run_float_arith (P := Try.prog) w .add t .f64 _ _ _ hd3
        generalize sumW (whoAt fa L) k = W0 at *
        generalize sumP (whoAt md L) (whoAt fa L) k = P0 at *
        clear hd1 hd2 hd3 s1 s2 s3 e1 e2 sa
        have hwp' : (q : Int) < n := by omega
        go_wp2
        go_quiet ((go_at_call 74; exact Calls.quiet_of_same (weigh_any _ _ g3 g4)))
        go_wp2
        go_roundw
        case rel => exact ⟨k + 1, by omega, by go_num, rfl, rfl, bel_drewN HW.out _⟩
        case measure => simp [intOf]; omega
      · obtain rfl : k = L.length := by omega
        obtain ⟨m1, m2⟩ := mean_ok (whoAt md L) (whoAt fa L) L.length HOK.out.fine hl0 (by omega)
        have hd1 : floatBits .quo .f64 (sumP (whoAt md L) (whoAt fa L) L.length) (sumW (whoAt fa L) L.length) = some (meanBits (whoAt md L) (whoAt fa L) L.length) := m1
        have hr1 := fun w t => run_float_arith (P := Try.prog) w .quo t .f64 _ _ _ hd1
        have hr2 := fun w => run_convert_float_int (P := Try.prog) w 100 2 .f64 .i64 _ _ (by kernel_rfl) Try.underlying2 m2
        generalize sumW (whoAt fa L) L.length = W0 at *
        generalize sumP (whoAt md L) (whoAt fa L) L.length = P0 at *
        generalize meanBits (whoAt md L) (whoAt fa L) L.length = Z at *
        clear hd1 m1 m2
        go_wp2
        go_ret2
        exact ⟨rfl, B1.out.trans (HW.out.mono B1.out.size)⟩
  · have HCO : Hid (combOf md fa n = 0) := by show _ = _; unfold combOf; rw [if_neg he]
    have HSE : Hid (Calls Try.prog 50 #[.slice ao n c] w (Chosen (outOf md fa n) w)) := select_all ao n c md fa w HC.out
    rw [HCO.out]
    have heb : ((outOf md fa n).err == 0) = false := by simpa using he
    clear HC HCO
    generalize (outOf md fa n) = A at *
    obtain ⟨lo, hi, L, er⟩ := A
    dsimp only at he heb ⊢
    go_enter Try.func52, Try.ntmps52
    go_wp2_with (go_at_call 50; refine HSE.out.mono ?_; rintro r1 w1 ⟨v, rfl, ho, hb1⟩; obtain ⟨av, cv, rfl⟩ := slice_of ho; have B1 : Hid (Below w.heap.size w w1) := hb1; clear ho hb1)
    go_ret2
    exact ⟨rfl, B1.out.alloc B1.out.size _⟩
set_option maxRecDepth 100000 in
theorem door_combine (ao : Option Addr) (n c : Nat) (md fa : Nat → Int) (w : World) (hC : Clocks w ao n md fa) :
    Calls Try.prog 30 #[.slice ao n c] w fun r w' => r = .returned (.tuple #[.int .i64 (combOf md fa n), .int .i64 (outOf md fa n).err]) ∧ Below w.heap.size w w' := by
  have HC := combine_any ao n c md fa w hC
  generalize combOf md fa n = N at *
  generalize (outOf md fa n).err = E at *
  have HH : Hid (Calls Try.prog 52 #[.slice ao n c] w fun r w' => r = .returned (.tuple #[.int .i64 N, .int .i64 E]) ∧ Below w.heap.size w w') := HC
  clear HC
  go_enter Try.func30, Try.ntmps30
  go_wp2_with (go_at_call 52; refine HH.out.mono ?_; rintro r1 w1 ⟨rfl, hb⟩; have HB : Hid (Below w.heap.size w w1) := hb; clear hb)
  go_ret2
  exact ⟨rfl, HB.out⟩
end Go.Proofs.Ytjdcnlggpfkopaa
