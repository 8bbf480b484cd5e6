/- The walk of Agreed. -/
import Derived.Test.YtjdcnlggpfkopabDoorAgrB
import Derived.Deep.CutBlock
import Derived.Deep.DeepCutAuto
namespace Go.Proofs.YtjdcnlggpfkopabDoor
open Go.ChangeShapes Go.WideShapes Go.ChangeAt Go.RowKit
set_option linter.unusedVariables false

/-- Ints that a walk is handed. -/
structure IntsIn (w : World) (a : Option Addr) (n : Nat) (er : Nat → Int) : Prop where
  hle : n ≤ maxLen
  hat : 0 < n → ∃ b off, a = some ⟨b, off, none⟩ ∧ b < w.heap.size ∧ ∀ j, j < n → w.cell? ⟨b, off + j, none⟩ = some (.int .i64 (er j)) ∧ -9223372036854775808 ≤ er j ∧ er j ≤ 9223372036854775807
theorem IntsIn.below {w w' : World} {a : Option Addr} {n : Nat} {er : Nat → Int} (h : IntsIn w a n er) (hb : Below w.heap.size w w') : IntsIn w' a n er := by
  refine ⟨h.hle, fun hn => ?_⟩
  obtain ⟨b, off, h1, h2, h3⟩ := h.hat hn
  exact ⟨b, off, h1, Nat.lt_of_lt_of_le h2 hb.size, fun j hj => by rw [hb.cell (p := ⟨b, off + j, none⟩) h2]; exact h3 j hj⟩
theorem sixteenth (o : Int) (h0 : -9223372036854775808 ≤ o) (h1 : o ≤ 9223372036854775807) : -1000000000000000000 ≤ o.tdiv 16 ∧ o.tdiv 16 ≤ 1000000000000000000 := by
  rw [tdiv_eq_if]; split <;> omega
theorem far_any (f : Int) : -999999 ≤ f.tmod 1000000 ∧ f.tmod 1000000 ≤ 999999 := by
  rw [tmod_eq_if]; split <;> omega
theorem far_pos (f : Int) (h : ¬ f < 0) : 0 ≤ f.tmod 1000000 ∧ f.tmod 1000000 ≤ 999999 := by
  rw [tmod_eq_if]; split <;> omega
theorem far_neg (f : Int) (h : f < 0) : -999999 ≤ f.tmod 1000000 ∧ f.tmod 1000000 ≤ 0 := by
  rw [tmod_eq_if]; split <;> omega
set_option maxRecDepth 100000 in
set_option maxHeartbeats 8000000 in
theorem agreed_walk (o : Int) (a : Option Addr) (n cap : Nat) (er : Nat → Int) (far : Int) (w : World) (hZ : Zeros w) (ho0 : -9223372036854775808 ≤ o) (ho1 : o ≤ 9223372036854775807) (hI : IntsIn w a n er) (hf0 : -9223372036854775808 ≤ far) (hf1 : far ≤ 9223372036854775807) :
    Calls Tryd.prog 3 #[.int .i64 o, .slice a n cap, .int .i64 far] w fun e w' => e = .returned (.bool true) ∧ Below w.heap.size w w' := by
  obtain ⟨t0, t1⟩ := sixteenth o ho0 ho1
  have hle := hI.hle
  unfold maxLen at hle
  have HI : Hid (IntsIn w a n er) := hI
  clear hI
  obtain ⟨i0, hi0, hz0, hz1, hz2⟩ := info_of tickinfo
  have HIN : Hid (Tryd.prog.info? 27 = some i0) := hi0
  clear hi0
  have HTD : Hid (∃ t, t = o.tdiv 16) := ⟨_, rfl⟩
  go_enter Tryd.func3, Tryd.ntmps3
  go_wp2_with fail
  refine (known_any _ hZ).mono ?_
  rintro e w0 ⟨rfl, hB0⟩
  have B0 : Hid (Below w.heap.size w w0) := hB0
  clear hB0 hZ
  go_upto_block 0 with fail
  generalize o.tdiv 16 = t at *
  go_cut [9, 10] (fun lv mv wc => ∃ k : Nat, k ≤ 12 ∧ Two w wc lv k (pairT (mdL t er) (faL er) k) mv k (pairT (fun _ => t) (faM er) k))
  case first =>
    go_wp2
    go_loopw [9, 10, 11] (fun lv mv i wr => ∃ k : Nat, k ≤ 12 ∧ k ≤ n ∧ i = .int .i64 k ∧ Two w wr lv k (pairT (mdL t er) (faL er) k) mv k (pairT (fun _ => t) (faM er) k)) (fun _ _ i _ => 12 - (intOf i).toNat)
    case atStart => exact ⟨0, by omega, by omega, rfl, World.ownsRow_nil _ _ _ _, World.ownsRow_nil _ _ _ _, (fun q h => by cases h), B0.out⟩
    case round =>
      obtain ⟨k, hk, hkn, rfl, hT⟩ := hrel
      obtain ⟨al, cl, rfl⟩ := slice_of2 hT.ol
      obtain ⟨am, cm, rfl⟩ := slice_of2 hT.om
      have HT : Hid (Two w wr (.slice al k cl) k (pairT (mdL t er) (faL er) k) (.slice am k cm) k (pairT (fun _ => t) (faM er) k)) := hT
      clear hT
      by_cases hlt : k < n ∧ k < 12
      · obtain ⟨h1, h2⟩ := hlt
        have h1' : (k : Int) < n := by omega
        have h2' : (k : Int) < 12 := by omega
        obtain ⟨b, off, rfl, hb, hc⟩ := HI.out.hat (by omega)
        obtain ⟨c0, c01, c02⟩ := hc k h1
        have c1 : wr.cell? ⟨b, off + k, none⟩ = some (.int .i64 (er k)) := by rw [HT.out.bel.cell (p := ⟨b, off + k, none⟩) hb]; exact c0
        have p1 := pick_bd (er k) 1000000 (by omega)
        have p2 := pick_bd (er k) 77 (by omega)
        have HP : Hid (mdL t er k = t + (pickOf (er k) 1000000 - 500000) ∧ faL er k = absI (pickOf (er k) 1000000 - 500000) + pickOf (er k) 77 ∧ faM er k = pickOf (er k) 77) := ⟨rfl, rfl, rfl⟩
        clear hc c0
        go_upto_region 10 with (go_at_call 7; refine (pick_any _ _ _ c01 c02 (by omega) (by omega)).mono ?_; rintro r1 w1 ⟨rfl, hw1⟩; replace hw1 := hw1.symm; subst hw1)
        generalize pickOf (er k) 1000000 = P1 at *
        generalize pickOf (er k) 77 = P2 at *
        go_wp2_with (first
          | (at_builtin; (refine wpList_append_own_at _ rfl (.tmp 47) (.tmp 58) 24 rfl w.heap.size 27 i0 (.agg #[.int .i64 0, .int .i64 0]) 2 16 Tryd.underlying24 HIN.out hz0 hz1 hz2 rfl (by decide) (.slice al k cl) k (pairT (mdL t er) (faL er) k) rfl (HT.out.ol.alloc _) ⟨wr.heap.size, 0, none⟩ 1 1 [_, _] rfl rfl (news2 _ _ _ _) (by simp [Value.oneCell']) (by unfold maxLen; omega) (by omega) (HT.out.alloc _).bel.size ?_)
             intro v4 w4 ho4 hg4 _ hat4
             have T4 : Hid (Two w w4 v4 (k + 1) (pairT (mdL t er) (faL er) (k + 1)) (.slice am k cm) k (pairT (fun _ => t) (faM er) k)) := (HT.out.alloc _).step (own_conv ho4 (by rw [HP.out.1]) (by rw [HP.out.2.1]; unfold absI; first | rfl | (split <;> split <;> omega))) hg4 hat4
             obtain ⟨a4, c4, rfl⟩ := slice_of2 ho4
             clear ho4 hg4 hat4)
          | (at_builtin; (refine wpList_append_own_at _ rfl (.tmp 60) (.tmp 64) 24 rfl w.heap.size 27 i0 (.agg #[.int .i64 0, .int .i64 0]) 2 16 Tryd.underlying24 HIN.out hz0 hz1 hz2 rfl (by decide) (.slice am k cm) k (pairT (fun _ => t) (faM er) k) rfl (T4.out.om.alloc _) ⟨w4.heap.size, 0, none⟩ 1 1 [_, _] rfl rfl (news2 _ _ _ _) (by simp [Value.oneCell']) (by unfold maxLen; omega) (by omega) (T4.out.alloc _).bel.size ?_)
             intro v5 w5 ho5 hg5 _ hat5
             have T5 : Hid (Two w w5 (.slice a4 (k + 1) c4) (k + 1) (pairT (mdL t er) (faL er) (k + 1)) v5 (k + 1) (pairT (fun _ => t) (faM er) (k + 1))) := ((T4.out.swap.alloc _).step (own_conv ho5 rfl (by rw [HP.out.2.2])) hg5 hat5).swap
             obtain ⟨a5, c5, rfl⟩ := slice_of2 ho5
             clear ho5 hg5 hat5)
          )
        go_roundw
        case rel => exact ⟨k + 1, by omega, by omega, by go_num, T5.out⟩
        case measure => simp [intOf]; omega
      · by_cases h1 : k < n
        · have h1' : (k : Int) < n := by omega
          have h2' : ¬ (k : Int) < 12 := by omega
          go_wp2
          go_meet
          case rel => exact ⟨k, hk, HT.out⟩
        · have h1' : ¬ (k : Int) < n := by omega
          go_wp2
          go_meet
          case rel => exact ⟨k, hk, HT.out⟩
  case rest =>
    obtain ⟨k, hk, hT⟩ := hcut
    obtain ⟨al, cl, rfl⟩ := slice_of2 hT.ol
    obtain ⟨am, cm, rfl⟩ := slice_of2 hT.om
    have HT := hT
    go_upto_if 68 with fail
    go_cut [9, 10] (fun lv mv wc => ∃ N md fa fm gl cl gm cm, lv = .slice (some ⟨gl, 0, none⟩) N cl ∧ mv = .slice (some ⟨gm, 0, none⟩) N cm ∧ 0 < N ∧ N ≤ 12 ∧ Hid (Near t md fa fm N) ∧ Hid (TicksAt wc gl 0 N md fa) ∧ Hid (TicksAt wc gm 0 N (fun _ => t) fm) ∧ Hid (Below w.heap.size w wc))
    case first =>
      by_cases h0 : k = 0
      · subst h0
        have HT0 : Hid (Two w wc (.slice al 0 cl) 0 (pairT (fun _ => t) (fun _ => 1) 0) (.slice am 0 cm) 0 (pairT (fun _ => t) (fun _ => 1) 0)) := hT
        clear hT HT
        go_wp2_with (first
          | (at_builtin; refine wpList_append_own_at _ rfl (.tmp 69) (.tmp 72) 24 rfl w.heap.size 27 i0 (.agg #[.int .i64 0, .int .i64 0]) 2 16 Tryd.underlying24 HIN.out hz0 hz1 hz2 rfl (by decide) (.slice al 0 cl) 0 (pairT (fun _ => t) (fun _ => 1) 0) rfl (HT0.out.ol.alloc _) ⟨wc.heap.size, 0, none⟩ 1 1 [_, _] rfl rfl (news2 _ _ _ _) (by simp [Value.oneCell']) (by unfold maxLen; omega) (by omega) (HT0.out.alloc _).bel.size ?_
             intro v4 w4 ho4 hg4 _ hat4
             have T4 : Hid (Two w w4 v4 1 (pairT (fun _ => t) (fun _ => 1) 1) (.slice am 0 cm) 0 (pairT (fun _ => t) (fun _ => 1) 0)) := (HT0.out.alloc _).step (own_conv ho4 rfl rfl) hg4 hat4
             obtain ⟨a4, c4, rfl⟩ := slice_of2 ho4
             clear ho4 hg4 hat4)
          | (at_builtin; refine wpList_append_own_at _ rfl (.tmp 74) (.tmp 77) 24 rfl w.heap.size 27 i0 (.agg #[.int .i64 0, .int .i64 0]) 2 16 Tryd.underlying24 HIN.out hz0 hz1 hz2 rfl (by decide) (.slice am 0 cm) 0 (pairT (fun _ => t) (fun _ => 1) 0) rfl (T4.out.om.alloc _) ⟨w4.heap.size, 0, none⟩ 1 1 [_, _] rfl rfl (news2 _ _ _ _) (by simp [Value.oneCell']) (by unfold maxLen; omega) (by omega) (T4.out.alloc _).bel.size ?_
             intro v5 w5 ho5 hg5 _ hat5
             have T5 : Hid (Two w w5 (.slice a4 1 c4) 1 (pairT (fun _ => t) (fun _ => 1) 1) v5 1 (pairT (fun _ => t) (fun _ => 1) 1)) := ((T4.out.swap.alloc _).step (own_conv ho5 rfl rfl) hg5 hat5).swap
             obtain ⟨a5, c5, rfl⟩ := slice_of2 ho5
             clear ho5 hg5 hat5))
        go_meet
        case rel =>
          obtain ⟨gl, c1, e1, f1⟩ := own_ticks T5.out.ol (by omega)
          obtain ⟨gm, c2, e2, f2⟩ := own_ticks T5.out.om (by omega)
          exact ⟨1, _, _, _, gl, c1, gm, c2, e1, e2, by omega, by omega, near_one t t0 t1, f1, f2, T5.out.bel⟩
      · have h0' : ¬ (k : Int) = 0 := by omega
        have HTH : Hid (Two w wc (.slice al k cl) k (pairT (mdL t er) (faL er) k) (.slice am k cm) k (pairT (fun _ => t) (faM er) k)) := hT
        clear hT HT
        go_wp2
        go_meet
        case rel =>
          obtain ⟨gl, c1, e1, f1⟩ := own_ticks HTH.out.ol (by omega)
          obtain ⟨gm, c2, e2, f2⟩ := own_ticks HTH.out.om (by omega)
          exact ⟨k, _, _, _, gl, c1, gm, c2, e1, e2, by omega, by omega, near_err t er k t0 t1, f1, f2, HTH.out.bel⟩
    case rest =>
      clear hT HT HIN hz0 hz1 hz2
      obtain ⟨N, md, fa, fm, gl, cl2, gm, cm2, rfl, rfl, hN0, hN1, HNR, TL, TM, HBW⟩ := hcut
      have S1 := sel_door wc gl N cl2 md fa (by omega) TL.out
      have hA1 := agreed_one HNR.out.all hN0 (by omega) HNR.out.good
      have S2 := fun (W : World) (hT : TicksAt W gm 0 N (fun _ => t) fm) => sel_door W gm N cm2 (fun _ => t) fm (by omega) hT
      have hA2 := agreed_two hN0 (by omega) HNR.out.good2
      generalize outOf md fa N = A1 at S1 hA1
      generalize outOf (fun _ => t) fm N = A2 at S2 hA2
      obtain ⟨lo, hi, L, e1⟩ := A1
      obtain ⟨lo2, hi2, L2, e2⟩ := A2
      dsimp only at hA1 hA2
      obtain ⟨rfl, hL2, hlo2, hhi2⟩ := hA2
      have HS1 : Hid (Calls Tryd.prog 8 #[.slice (some ⟨gl, 0, none⟩) N cl2] wc (Chosen ⟨lo, hi, L, e1⟩ wc)) := S1
      have HS2 : Hid (∀ (W : World), TicksAt W gm 0 N (fun _ => t) fm → Calls Tryd.prog 8 #[.slice (some ⟨gm, 0, none⟩) N cm2] W (Chosen ⟨lo2, hi2, L2, 0⟩ W)) := S2
      clear S1 S2 TL HNR
      subst hL2
      have HA1 : Hid (e1 = 10 ∨ (e1 = 0 ∧ lo ≤ t ∧ t ≤ hi)) := hA1
      clear hA1
      go_upto_region 16 with (go_at_call 8; refine HS1.out.mono ?_; rintro r1 w1 ⟨v, rfl, ho1, hb1⟩; obtain ⟨av, cv, rfl⟩ := slice_of ho1; have B1 : Hid (Below wc.heap.size wc w1) := hb1; clear ho1 hb1)
      go_cut [109] (fun bv wx => bv = .bool false ∧ wx = w1.alloc (.cells #[.int .i64 lo, .int .i64 hi, .slice av L.length cv] 29))
      case first =>
        rcases HA1.out with h | ⟨h, h2, h3⟩
        · subst h
          go_wp2
          go_meet
          case rel => exact ⟨rfl, rfl⟩
        · subst h
          have h4 : ¬ t < lo := by omega
          have h5 : ¬ hi < t := by omega
          go_wp2
          go_meet
          case rel => exact ⟨rfl, rfl⟩
      case rest =>
        obtain ⟨rfl, rfl⟩ := hcut
        have BA : Hid (Below wc.heap.size wc (w1.alloc (.cells #[.int .i64 lo, .int .i64 hi, .slice av L.length cv] 29))) := B1.out.alloc B1.out.size _
        have TA : Hid (TicksAt (w1.alloc (.cells #[.int .i64 lo, .int .i64 hi, .slice av L.length cv] 29)) gm 0 L2.length (fun _ => t) fm) := TM.out.below (TM.out.lt hN0) BA.out
        generalize w1.alloc (.cells #[.int .i64 lo, .int .i64 hi, .slice av L.length cv] 29) = WA at *
        have hl2 : ¬ t < lo2 := by omega
        have hh2 : ¬ hi2 < t := by omega
        obtain ⟨q0, q1⟩ := far_any far
        go_upto_if 148 with (first
          | (go_at_call 8; refine (HS2.out _ TA.out).mono ?_; rintro r2 w2 ⟨v2, rfl, ho2, hb2⟩; obtain ⟨av2, cv2, rfl⟩ := slice_of ho2; have B2 : Hid (Below WA.heap.size WA w2) := hb2; clear ho2 hb2; have T37 : Hid (TicksAt ((w2.alloc (.cells #[.int .i64 lo2, .int .i64 hi2, .slice av2 L2.length cv2] 29)).alloc (.cells #[.int .i64 4096, .int .i64 3, .int .i64 4096, .int .i64 7] 27)) (w2.heap.size + 1) 0 2 (fun _ => 4096) fa37) := (by have := ticks37 (w2.alloc (.cells #[.int .i64 lo2, .int .i64 hi2, .slice av2 L2.length cv2] 29)); rw [show (w2.alloc (.cells #[.int .i64 lo2, .int .i64 hi2, .slice av2 L2.length cv2] 29)).heap.size = w2.heap.size + 1 by simp] at this; exact this))
          | (go_at_call 9; refine (comb_door _ _ T37.out).mono ?_; rintro r3 w3 ⟨rfl, hb3⟩; have B3 : Hid (Below w2.heap.size w2 w3) := ((Below.refl _ _).alloc (Nat.le_refl _) _).trans (((Below.refl _ _).alloc (by simp) _).trans (hb3.mono (by simp; omega))); clear hb3))
        go_cut [20] (fun v wx => ∃ aw, v = .int .i64 aw ∧ Far aw ∧ -1000100 ≤ aw ∧ aw ≤ 1000100 ∧ wx = w3)
        case first =>
          by_cases hfa : far < 0
          · have hq := far_neg far hfa
            go_wp2
            go_meet
            case rel => exact ⟨_, rfl, Or.inr (by omega), by omega, by omega, rfl⟩
          · have hq := far_pos far hfa
            go_wp2
            go_meet
            case rel => exact ⟨_, rfl, Or.inl (by omega), by omega, by omega, rfl⟩
        case rest =>
          obtain ⟨aw, rfl, hfar, ha0, ha1, hw3⟩ := hcut
          replace hw3 := hw3.symm
          subst hw3
          have SZ := sel_door _ _ 4 4 (mdZ t aw) faZ (by omega) (ticksZ w3 t aw)
          rw [agreed_far t aw hfar ha0 ha1 t0 t1] at SZ
          have HSZ : Hid (Calls Tryd.prog 8 #[.slice (some ⟨w3.heap.size, 0, none⟩) 4 4] (w3.alloc (.cells #[.int .i64 t, .int .i64 2, .int .i64 (t + aw), .int .i64 2, .int .i64 (t + 1), .int .i64 2, .int .i64 (t - 1), .int .i64 2] 27)) (Chosen ⟨t - 1, t + 1, [0, 2, 3], 0⟩ (w3.alloc (.cells #[.int .i64 t, .int .i64 2, .int .i64 (t + aw), .int .i64 2, .int .i64 (t + 1), .int .i64 2, .int .i64 (t - 1), .int .i64 2] 27)))) := SZ
          have B03 : Hid (Below w.heap.size w w3) := HBW.out.trans ((BA.out.mono HBW.out.size).trans ((B2.out.mono (Nat.le_trans HBW.out.size BA.out.size)).trans (B3.out.mono (Nat.le_trans HBW.out.size (Nat.le_trans BA.out.size B2.out.size)))))
          clear SZ hfar HS1 HS2 HA1 TM TA BA B1 B2 B3 HBW T37
          go_wp2_with (go_at_call 8; refine HSZ.out.mono ?_; rintro r4 w4 ⟨v4, rfl, ho4, hb4⟩; obtain ⟨g, cg, rfl, hg1, hg2⟩ := own_some (L := [0, 2, 3]) ho4 (by decide); have ic := ints_cell (L := [0, 2, 3]) ho4 rfl; have j0 : w4.cell? ⟨g, 0, none⟩ = some (.int .i64 0) := ic 0 (by decide); have j1 : w4.cell? ⟨g, 1, none⟩ = some (.int .i64 2) := ic 1 (by decide); have j2 : w4.cell? ⟨g, 2, none⟩ = some (.int .i64 3) := ic 2 (by decide); have nb : ¬ g = w4.heap.size := Nat.ne_of_lt hg2; have B4 : Hid (Below w.heap.size w w4) := (B03.out.alloc B03.out.size _).trans (hb4.mono (by have := B03.out.size; simp; omega)); clear ho4 hb4 ic)
          go_ret
          exact ⟨rfl, B4.out.alloc B4.out.size _⟩
end Go.Proofs.YtjdcnlggpfkopabDoor
