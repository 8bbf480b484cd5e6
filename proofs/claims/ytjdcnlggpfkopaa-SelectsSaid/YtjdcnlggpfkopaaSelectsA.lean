/- The walk of Selects. -/
import Derived.Test.YtjdcnlggpfkopaaTakeI
import Derived.Test.YtjdcnlggpfkopaaTickA
import Derived.Test.YtjdcnlggpfkopaaRefSelC
import Derived.Test.YtjdcnlggpfkopaaCom
namespace Go.Proofs.Ytjdcnlggpfkopaa
open Go.ChangeShapes Go.WideShapes Go.ChangeAt Go.RowKit
set_option linter.unusedVariables false

theorem out_empty {md fa : Nat → Int} {n : Nat} (h : (outOf md fa n).err ≠ 0) : (outOf md fa n).who = [] := by
  by_cases h1 : n = 0 ∨ 32 < n
  · rw [out_arg h1]
  by_cases h2 : ∀ j, j < n → Tame md fa j
  · cases hs : selOf md fa n with
    | none => rw [out_none (by omega) (by omega) h2 hs]
    | some f => rw [out_some (by omega) (by omega) h2 hs] at h; exact absurd rfl h
  · rw [out_range (by omega) (by omega) h2]
theorem out_len (md fa : Nat → Int) (n : Nat) : (outOf md fa n).who.length ≤ 32 := by
  by_cases h : (outOf md fa n).err = 0
  · exact (out_ok h).l1
  · rw [out_empty h]; simp
theorem BookI.below {w w' : World} {bo B m : Nat} (h : BookI w bo B m) (hb : Below B w w') : BookI w' bo B m := by
  obtain ⟨bv, vs, h1, h2, h3, h4⟩ := h.row
  have hs := hb.size
  have hl := h.le
  refine ⟨h.hm, h.lt, by omega, bv, vs, by rw [hb.block bo h.lt]; exact h1, own_keep h2 (fun k hk => hb.block k (h3 k hk)), h3, fun i v hi => (h4 i v hi).keep (Nat.le_refl _) fun b cur hbl hc => by rw [hb.block b hbl]; exact hc⟩
theorem BookI.wider {w : World} {bo B B' m : Nat} (h : BookI w bo B m) (hB : B ≤ B') (hs : B' ≤ w.heap.size) : BookI w bo B' m := by
  obtain ⟨bv, vs, h1, h2, h3, h4⟩ := h.row
  have hl := h.lt
  exact ⟨h.hm, by omega, hs, bv, vs, h1, h2, fun k hk => by have := h3 k hk; omega, fun i v hi => (h4 i v hi).keep hB fun b cur _ hc => hc⟩
theorem book_start (w : World) : BookI (w.alloc (.cells #[.slice none 0 0, .slice none 0 0, .slice none 0 0] 32)) w.heap.size (w.heap.size + 1) 0 := by
  refine ⟨by omega, by omega, by simp, .slice none 0 0, [], heap_alloc_new w _, World.ownsRow_nil _ _ _ _, (fun k hk => by cases hk), (fun i v hi => by cases hi)⟩
theorem own_full {w : World} {B B' : Nat} {a : Option Addr} {n c : Nat} {xs : List Value} (h : w.ownsRow B 3 1 (.slice a n c) n xs) (hB : B' ≤ B) : FullI w B' a n c ∧ c ≤ maxLen ∧ ∀ g, a = some ⟨g, 0, none⟩ → B ≤ g := by
  rcases h.2 with ⟨h1, h2⟩ | ⟨g, cap, cur, h1, h2, h3, h4, h5, h6, _⟩
  · cases h1
    exact ⟨Or.inl ⟨rfl, rfl, rfl⟩, Nat.zero_le _, fun g hg => by cases hg⟩
  · cases h1
    exact ⟨Or.inr ⟨g, cur, rfl, by omega, h3, by omega, h4⟩, h5, fun g' hg => by cases hg; exact h2⟩
set_option maxRecDepth 100000 in
set_option maxHeartbeats 4000000 in
theorem selects_walk (a : Option Addr) (n cap : Nat) (md fa : Nat → Int) (w : World) (hT : TicksIn w a n cap md fa) :
    Calls Try.prog 7 #[.slice a n cap] w fun r w' => r = .returned (.bool true) ∧ Below w.heap.size w w' := by
  have hle := hT.hle
  have HT : Hid (TicksIn w a n cap md fa) := hT
  clear hT
  have hl32 := out_len md fa n
  have HEM : (outOf md fa n).err ≠ 0 → (outOf md fa n).who.length = 0 := fun h => by rw [out_empty h]; rfl
  have HS1 : ∀ (W : World) ao c, Clocks W ao n md fa → Calls Try.prog 26 #[.slice ao n c] W (Chosen (outOf md fa n) W) := fun W ao c hC => door_select ao n c md fa W hC
  have HS2 : ∀ (W : World) ao c, Clocks W ao n md fa → Calls Try.prog 27 #[.slice ao n c] W (Chosen (outOf md fa n) W) := fun W ao c hC => refSelect_all ao n c md fa W hC
  generalize outOf md fa n = A at hl32 HEM HS1 HS2
  obtain ⟨lo, hi, L, er⟩ := A
  dsimp only at hl32 HEM
  have HX : Hid (er ≠ 0 → L.length = 0) := HEM
  have H1 : Hid (∀ (W : World) ao c, Clocks W ao n md fa → Calls Try.prog 26 #[.slice ao n c] W (Chosen ⟨lo, hi, L, er⟩ W)) := HS1
  have H2 : Hid (∀ (W : World) ao c, Clocks W ao n md fa → Calls Try.prog 27 #[.slice ao n c] W (Chosen ⟨lo, hi, L, er⟩ W)) := HS2
  clear HEM HS1 HS2
  have HBK : Hid (BookI _ w.heap.size (w.heap.size + 1) 0) := book_start w
  go_enter Try.func7, Try.ntmps7
  go_wp2
  go_loopw [4] (fun i wr => ∃ q : Nat, q ≤ 2 ∧ i = .int .i64 q ∧ BookI wr w.heap.size wr.heap.size q ∧ Below w.heap.size w wr) (fun i _ => 2 - (intOf i).toNat)
  case atStart => exact ⟨0, by omega, rfl, HBK.out.wider (by simp) (Nat.le_refl _), (Below.refl _ _).alloc (Nat.le_refl _) _⟩
  case round =>
    clear HBK
    obtain ⟨q, hq, rfl, hbk, hbw⟩ := hrel
    have HB : Hid (BookI wr w.heap.size wr.heap.size q) := hbk
    have HW : Hid (Below w.heap.size w wr) := hbw
    have HZ0 : Hid (w.heap.size < wr.heap.size) := hbk.lt
    clear hbk hbw
    by_cases hlt : (q : Int) < 2
    · go_upto_region 8 with (first
        | (go_at_call 25; refine (ticks_any a n cap md fa _ (HT.out.below HW.out)).mono ?_; rintro r1 w1 ⟨rfl, hl1, hb1⟩; have L1 : Hid (Lent2 w1 wr.heap.size n 4 md fa) := hl1; have B1 : Hid (Below wr.heap.size wr w1) := hb1; have Z1 : Hid (wr.heap.size < w1.heap.size) := (by obtain ⟨cur, h1, _⟩ := hl1; exact (Array.getElem?_eq_some_iff.1 h1).1); clear hl1 hb1)
        | (go_at_call 26; refine (H1.out _ _ _ (L1.out.ticks |> fun t => ⟨by unfold maxLen; omega, Or.inr ⟨_, _, rfl, t⟩⟩)).mono ?_; rintro r2 w2 ⟨v, rfl, ho2, hb2⟩; obtain ⟨av, cv, rfl⟩ := slice_of ho2; have O2 : Hid (w2.ownsRow (w1.heap.size + 1) 3 1 (.slice av L.length cv) L.length (ints L)) := ho2; have B2 : Hid (Below w1.heap.size w1 w2) := hb2; clear ho2 hb2)
        | (go_at_call 27; refine (H2.out _ _ _ (HT.out.below (HW.out.trans ((B1.out.mono (Nat.le_of_lt HZ0.out)).trans ((B2.out.mono (Nat.le_of_lt (Nat.lt_trans HZ0.out Z1.out))).trans ((Below.refl _ _).alloc (Nat.le_trans (Nat.le_of_lt (Nat.lt_trans HZ0.out Z1.out)) B2.out.size) _))))).clocks).mono ?_; rintro r3 w3 ⟨v, rfl, ho3, hb3⟩; obtain ⟨au, cu, rfl⟩ := slice_of ho3; have O3 : Hid (w3.ownsRow ((w2.alloc (.cells #[.int .i64 lo, .int .i64 hi, .slice av L.length cv] 67)).heap.size + 1) 3 1 (.slice au L.length cu) L.length (ints L)) := ho3; have B3 : Hid (Below (w2.heap.size + 1) (w2.alloc (.cells #[.int .i64 lo, .int .i64 hi, .slice av L.length cv] 67)) w3) := (hb3.mono (by simp)); clear ho3 hb3))
      have Z2 : w1.heap.size ≤ w2.heap.size := B2.out.size
      have Z3 : w2.heap.size + 1 ≤ w3.heap.size := by have := B3.out.size; simp at this; exact this
      have BX : Hid (Below (w3.heap.size + 1) (w3.alloc (.cells #[.int .i64 lo, .int .i64 hi, .slice au L.length cu] 67)) (w3.alloc (.cells #[.int .i64 lo, .int .i64 hi, .slice au L.length cu] 67))) := Below.refl _ _
      have XD : Hid ((w3.alloc (.cells #[.int .i64 lo, .int .i64 hi, .slice au L.length cu] 67)).heap[w3.heap.size]? = some (.cells #[.int .i64 lo, .int .i64 hi, .slice au L.length cu] 67 (0, 0))) := box3 BX.out
      have BA : Hid (Below w3.heap.size w3 (w3.alloc (.cells #[.int .i64 lo, .int .i64 hi, .slice au L.length cu] 67))) := (Below.refl _ _).alloc (Nat.le_refl _) _
      have XC : Hid ((w3.alloc (.cells #[.int .i64 lo, .int .i64 hi, .slice au L.length cu] 67)).heap[w2.heap.size]? = some (.cells #[.int .i64 lo, .int .i64 hi, .slice av L.length cv] 67 (0, 0))) := by
        show _ = _
        rw [BA.out.block _ (by omega)]
        exact box3 B3.out
      have C3 : Hid (Below w2.heap.size w2 w3) := fit3 _ B3.out
      have OW : Hid ((w3.alloc (.cells #[.int .i64 lo, .int .i64 hi, .slice au L.length cu] 67)).ownsRow (w1.heap.size + 1) 3 1 (.slice av L.length cv) L.length (ints L)) := own_keep O2.out (fun k hk => by
        have := (O2.out.lt k hk).2
        rw [BA.out.block k (by omega), C3.out.block k this])
      have OU : Hid ((w3.alloc (.cells #[.int .i64 lo, .int .i64 hi, .slice au L.length cu] 67)).ownsRow 0 3 1 (.slice au L.length cu) L.length (ints L)) := own_keep (own_base O3.out (Nat.zero_le _)) (fun k hk => by
        have := (O3.out.lt k hk).2
        rw [BA.out.block k this])
      have BW : Hid (Below wr.heap.size wr (w3.alloc (.cells #[.int .i64 lo, .int .i64 hi, .slice au L.length cu] 67))) := B1.out.trans ((B2.out.mono (Nat.le_of_lt Z1.out)).trans ((C3.out.mono (by have := Z1.out; omega)).trans (BA.out.mono (by have := Z1.out; omega))))
      have LW : Hid (Lent2 (w3.alloc (.cells #[.int .i64 lo, .int .i64 hi, .slice au L.length cu] 67)) wr.heap.size n 4 md fa) := L1.out.block (by
        have := Z1.out
        rw [BA.out.block _ (by omega), C3.out.block _ (by omega), B2.out.block _ (by omega)])
      have ZW : Hid (wr.heap.size < w1.heap.size ∧ w2.heap.size < w3.heap.size ∧ w3.heap.size < (w3.alloc (.cells #[.int .i64 lo, .int .i64 hi, .slice au L.length cu] 67)).heap.size ∧ w1.heap.size ≤ w2.heap.size) := ⟨Z1.out, by omega, by simp, Z2⟩
      clear BX BA C3 O2 O3 L1 B1 B2 B3 Z2 Z3 Z1
      generalize w3.alloc (.cells #[.int .i64 lo, .int .i64 hi, .slice au L.length cu] 67) = W at *
      have HQ : Hid (∀ j, j < L.length → ∃ g1 g2, av = some ⟨g1, 0, none⟩ ∧ au = some ⟨g2, 0, none⟩ ∧ W.cell? ⟨g1, j, none⟩ = some (.int .i64 (L.getD j 0 : Nat)) ∧ W.cell? ⟨g2, j, none⟩ = some (.int .i64 (L.getD j 0 : Nat))) := fun j hj => by
        obtain ⟨g1, d1, e1, _, _⟩ := own_some OW.out (by omega)
        obtain ⟨g2, d2, e2, _, _⟩ := own_some OU.out (by omega)
        exact ⟨g1, g2, by injection e1, by injection e2, ints_cell OW.out e1 j hj, ints_cell OU.out e2 j hj⟩
      obtain ⟨x1, x2, x3, x4, x5, x6⟩ := box3_cells XC.out
      obtain ⟨y1, y2, y3, y4, y5, y6⟩ := box3_cells XD.out
      clear x4 x5 x6 y4 y5 y6
      go_wp2
      go_loopw [10, 11] (fun okv i wx => ∃ k m : Nat, k ≤ L.length ∧ i = .int .i64 k ∧ okv = .bool true ∧ wx = W.drewN m) (fun _ i _ => L.length - (intOf i).toNat)
      case atStart => exact ⟨0, 0, by omega, rfl, rfl, rfl⟩
      case round =>
        obtain ⟨k, m, hk, rfl, rfl, rfl⟩ := hrel
        by_cases hlt2 : k < L.length
        · have hlt3 : (k : Int) < L.length := by omega
          obtain ⟨g1, g2, rfl, rfl, q1, q2⟩ := HQ.out k hlt2
          generalize L.getD k 0 = z at q1 q2
          clear HQ
          go_wp2
          go_quiet (fail)
          go_wp2
          go_roundw
          case rel => exact ⟨k + 1, _, by omega, by go_num, rfl, rfl⟩
          case measure => simp [intOf]; omega
        · obtain rfl : k = L.length := by omega
          have hlt3 : ¬ (L.length : Int) < L.length := by omega
          clear HQ
          have B5 : Hid (Below wr.heap.size wr (W.drewN m)) := bel_drewN BW.out _
          have OW5 : Hid ((W.drewN m).ownsRow (w1.heap.size + 1) 3 1 (.slice av L.length cv) L.length (ints L)) := own_keep OW.out (fun _ _ => rfl)
          have HFU := own_full OW5.out (B' := wr.heap.size) (by have := ZW.out; omega)
          have FU : Hid (FullI (W.drewN m) wr.heap.size av L.length cv) := HFU.1
          have FC : Hid (cv ≤ maxLen) := HFU.2.1
          have FG : Hid (∀ g, av = some ⟨g, 0, none⟩ → w1.heap.size + 1 ≤ g) := HFU.2.2
          clear HFU
          by_cases her : er = 0
          · subst her
            go_wp2_with (first
              | (go_at_call 28; refine (takeI_any w.heap.size wr.heap.size q av L.length cv _ (HB.out.below B5.out) FU.out FC.out (by omega) (by omega)).mono ?_; rintro r6 w6 ⟨rfl, hk6, hst⟩; have K6 : Hid (BookI w6 w.heap.size w6.heap.size (q + 1)) := hk6; have W6 : Hid (Below w.heap.size w w6) := HW.out.trans ((B5.out.mono (Nat.le_of_lt HZ0.out)).trans hst.1); have L6 : Hid (Lent2 w6 wr.heap.size n 4 md fa) := LW.out.block ((hst.2 _ (Nat.le_refl _) (by have := ZW.out; show _ < W.heap.size; omega) (fun g hg => by have := FG.out g hg; have := ZW.out; omega)).trans rfl); clear hk6 hst)
              | (go_at_call 29; refine (sameTicks_true _ a n cap md fa _ L6.out (HT.out.below W6.out)).mono ?_; rintro r7 w7 ⟨rfl, m7, rfl⟩; have K7 : Hid (BookI (w6.drewN m7) w.heap.size w6.heap.size (q + 1)) := K6.out.below (bel_drewN (Below.refl _ _) _))
              | (go_at_call 18; refine (keptI_true _ _ _ _ K7.out).mono ?_; rintro r8 w8 ⟨rfl, rfl⟩))
            go_roundw
            case rel => exact ⟨q + 1, by omega, by go_num, K7.out, bel_drewN W6.out _⟩
            case measure => simp [intOf]; omega
          · have hz : L.length = 0 := HX.out her
            have herb : (er == 0) = false := by simpa using her
            have hz2 : (L.length : Int) = 0 := by omega
            clear hz
            go_wp2_with (first
              | (go_at_call 28; refine (takeI_any w.heap.size wr.heap.size q av L.length cv _ (HB.out.below B5.out) FU.out FC.out (by omega) (by omega)).mono ?_; rintro r6 w6 ⟨rfl, hk6, hst⟩; have K6 : Hid (BookI w6 w.heap.size w6.heap.size (q + 1)) := hk6; have W6 : Hid (Below w.heap.size w w6) := HW.out.trans ((B5.out.mono (Nat.le_of_lt HZ0.out)).trans hst.1); have L6 : Hid (Lent2 w6 wr.heap.size n 4 md fa) := LW.out.block ((hst.2 _ (Nat.le_refl _) (by have := ZW.out; show _ < W.heap.size; omega) (fun g hg => by have := FG.out g hg; have := ZW.out; omega)).trans rfl); clear hk6 hst)
              | (go_at_call 29; refine (sameTicks_true _ a n cap md fa _ L6.out (HT.out.below W6.out)).mono ?_; rintro r7 w7 ⟨rfl, m7, rfl⟩; have K7 : Hid (BookI (w6.drewN m7) w.heap.size w6.heap.size (q + 1)) := K6.out.below (bel_drewN (Below.refl _ _) _))
              | (go_at_call 18; refine (keptI_true _ _ _ _ K7.out).mono ?_; rintro r8 w8 ⟨rfl, rfl⟩))
            go_roundw
            case rel => exact ⟨q + 1, by omega, by go_num, K7.out, bel_drewN W6.out _⟩
            case measure => simp [intOf]; omega
    · have hq2 : ¬ (q : Int) < 2 := hlt
      go_wp2
      go_ret
      exact ⟨rfl, HW.out⟩
end Go.Proofs.Ytjdcnlggpfkopaa
