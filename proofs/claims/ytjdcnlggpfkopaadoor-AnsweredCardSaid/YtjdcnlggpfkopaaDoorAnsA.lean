/- The law Answered: the walk. -/
import Derived.Test.YtjdcnlggpfkopaaDoorPeerD
import Derived.Test.YtjdcnlggpfkopaaDoorPkM
import Derived.Test.YtjdcnlggpfkopaaDoorPick
import Derived.Test.YtjdcnlggpfkopaaDoorOffA
namespace Go.Proofs.YtjdcnlggpfkopaaDoor
open Go.ChangeShapes Go.WideShapes Go.ChangeAt Go.RowKit
set_option linter.unusedVariables false

theorem at_eq (ask way stay : Int) : IntKind.u64.wrap (IntKind.u64.wrap (ask + 2 * way) + stay) = IntKind.u64.wrap (ask + 2 * way + stay) := wrapAdd _ _
theorem ans_off (ask x way stay : Int) (hx0 : -2305843009213693952 ≤ x) (hx1 : x ≤ 2305843009213693952) (hw0 : 0 ≤ way) (hw1 : way ≤ 4294967295) :
    offsetOf ask (T2 ask x way) (T3 ask x way stay) (IntKind.u64.wrap (IntKind.u64.wrap (ask + 2 * way) + stay)) = x := by
  unfold offsetOf
  rw [t2_eq, t3_eq, at_eq, diff_wrap1, diff_wrap, diff_small _ _ (by omega) (by omega), diff_small _ _ (by omega) (by omega)]
  unfold mid; omega
theorem ans_del (ask x way stay : Int) (hw0 : 0 ≤ way) (hw1 : way ≤ 4294967295) (hs0 : 0 ≤ stay) (hs1 : stay ≤ 4294967295) :
    delayOf ask (T2 ask x way) (T3 ask x way stay) (IntKind.u64.wrap (IntKind.u64.wrap (ask + 2 * way) + stay)) = 2 * way := by
  unfold delayOf
  rw [t2_eq, t3_eq, at_eq]
  simp only [diff_eq, IntKind.wrap_u64]; omega
theorem ans_ahead (ask x way stay : Int) (hs0 : 0 ≤ stay) (hs1 : stay ≤ 4294967295) : ¬ diff (T3 ask x way stay) (T2 ask x way) < 0 := by
  show ¬ diff (IntKind.u64.wrap (T2 ask x way + stay)) (T2 ask x way) < 0
  rw [diff_wrap1, diff_small _ _ (by omega) (by omega)]; omega
theorem wrap_bd (x : Int) : 0 ≤ IntKind.u64.wrap x ∧ IntKind.u64.wrap x ≤ 18446744073709551615 := by rw [IntKind.wrap_u64]; omega

theorem parse_ask (ask : Int) (h : 0 ≤ ask ∧ ask ≤ 18446744073709551615) : parseOf 48 (listZ (askList ask)) = (⟨0, 4, 3, 0, 0, 0, 0, 0, 0, 0, 0, 0, ask⟩, 0) :=
  parse_form 0 4 3 0 0 0 0 0 0 0 0 0 ask (by decide) (by decide) (by decide) (by decide) (by decide) (by decide) ⟨by decide, by decide, by decide, by decide, by decide, by decide, h⟩
theorem ask_bytes {w : World} {g : Nat} {ask : Int} (h : w.heap[g]? = some (.cells ((askList ask).map (Value.int .u8)).toArray 5 (0, 0))) : Bytes48 w (some ⟨g, 0, none⟩) 48 48 (listZ (askList ask)) :=
  row_bytes h (formList_len _ _ _ _ _ _ _ _ _ _ _) (formList_bd _ _ _ _ _ _ _ _ _ _ _ (by decide) (by decide) (by decide) (by decide))
/-- The answer's bytes. -/
def ansList (a c ask rx tx : Int) : List Int := formList (a * 64 + 4 * 8 + 4) (c % 256) (0 % 256) (0 % 256) 0 0 0 0 ask rx tx
theorem parse_ans (a c ask rx tx : Int) (ha : 0 ≤ a ∧ a ≤ 3) (hc : 0 ≤ c ∧ c ≤ 255) (h : 0 ≤ ask ∧ ask ≤ 18446744073709551615) (hr : 0 ≤ rx ∧ rx ≤ 18446744073709551615) (ht : 0 ≤ tx ∧ tx ≤ 18446744073709551615) :
    parseOf 48 (listZ (ansList a c ask rx tx)) = (⟨a, 4, 4, c, 0, 0, 0, 0, 0, 0, ask, rx, tx⟩, 0) :=
  parse_form a 4 4 c 0 0 0 0 0 0 ask rx tx ha (by decide) (by decide) hc (by decide) (by decide) ⟨by decide, by decide, by decide, by decide, h, hr, ht⟩
theorem ans_bytes {w : World} {g : Nat} {a c ask rx tx : Int} (ha : 0 ≤ a ∧ a ≤ 3) (h : w.heap[g]? = some (.cells ((ansList a c ask rx tx).map (Value.int .u8)).toArray 5 (0, 0))) : Bytes48 w (some ⟨g, 0, none⟩) 48 48 (listZ (ansList a c ask rx tx)) :=
  row_bytes h (formList_len _ _ _ _ _ _ _ _ _ _ _) (formList_bd _ _ _ _ _ _ _ _ _ _ _ (by omega) (by omega) (by decide) (by decide))
theorem take_idle (a c ask rx tx t : Int) : takeErr (⟨a, 4, 4, c, 0, 0, 0, 0, 0, 0, ask, rx, tx⟩, 0) false t = 7 := by simp [takeErr, checkOf]
theorem take_other (a c ask rx tx t : Int) (h : ask ≠ t) : takeErr (⟨a, 4, 4, c, 0, 0, 0, 0, 0, 0, ask, rx, tx⟩, 0) true t = 7 := by simp [takeErr, checkOf, h]
theorem take_right (a c ask rx tx : Int) (ha : 0 ≤ a ∧ a < 3) (hc : 1 ≤ c ∧ c ≤ 15) (h : ¬ diff tx rx < 0) : takeErr (⟨a, 4, 4, c, 0, 0, 0, 0, 0, 0, ask, rx, tx⟩, 0) true ask = 0 := by
  unfold takeErr checkOf
  rw [if_neg (by simp), if_neg (by simp), if_neg (by simp), if_neg (by simp), if_neg (by show ¬ c < 1; omega), if_neg (by show ¬ 15 < c; omega), if_neg (by show ¬ a = 3; omega), if_neg h]
theorem reply_ok (a c rx tx ask : Int) (ha : 0 ≤ a ∧ a < 3) (hc : 1 ≤ c ∧ c ≤ 15) (h : ¬ diff tx rx < 0) : replyErr (⟨0, 4, 3, 0, 0, 0, 0, 0, 0, 0, 0, 0, ask⟩, 0) a c 0 rx tx = 0 := by
  unfold replyErr
  rw [if_neg (by simp), if_neg (by simp), if_neg h]
  show formErr a 4 4 c 0 0 = 0
  unfold formErr fitsB kindOf
  rw [if_neg (by simp only [Bool.and_eq_false_iff, decide_eq_false_iff_not]; omega), if_neg (by omega), if_neg (by omega)]
theorem best_one (b : Nat) (wt : Bool) (t : Int) (sm : Nat → Int) (X Y : Int) (w : World) (hP : PeerAt w b wt t (upd sm 0 X Y) 1) :
    Calls Tryd.prog 21 #[.pointer (some ⟨b, 0, none⟩)] w fun q w' => q = .returned (.tuple #[.agg #[.int .i64 X, .int .i64 Y], .float .f64 0, .int .i64 0]) ∧ Below w.heap.size w w' := by
  refine best_of b X Y 0 0 w fun W hb => ?_
  have h := peerBest_any b wt t (upd sm 0 X Y) 1 0 W (hP.below hb) (by decide) (by decide) (fun W' _ => spread_one _ _ _ W')
  rw [show bestUpTo (dels (upd sm 0 X Y)) 1 = 0 by simp [bestUpTo], show offs (upd sm 0 X Y) 0 = X by simp [offs, upd], show dels (upd sm 0 X Y) 0 = Y by simp [dels, upd]] at h
  exact h

set_option maxRecDepth 100000 in
set_option maxHeartbeats 4000000 in
theorem answered_walk (ask off way stay st lp again : Int) (w : World) (hZ : Zeros w) (ha0 : 0 ≤ ask ∧ ask ≤ 18446744073709551615) (ho : -9223372036854775808 ≤ off ∧ off ≤ 9223372036854775807)
    (hw : 0 ≤ way ∧ way ≤ 4294967295) (hs : 0 ≤ stay ∧ stay ≤ 4294967295) (hst : -9223372036854775808 ≤ st ∧ st ≤ 9223372036854775807) (hlp : -9223372036854775808 ≤ lp ∧ lp ≤ 9223372036854775807) (hag : 0 ≤ again ∧ again ≤ 18446744073709551615) :
    Calls Tryd.prog 7 #[.int .u64 ask, .int .i64 off, .int .u32 way, .int .u32 stay, .int .i64 st, .int .i64 lp, .int .u64 again] w fun e w' => e = .returned (.bool true) ∧ Below w.heap.size w w' := by
  have HB : Hid ((0 ≤ ask ∧ ask ≤ 18446744073709551615) ∧ (0 ≤ again ∧ again ≤ 18446744073709551615) ∧ (-9223372036854775808 ≤ off ∧ off ≤ 9223372036854775807)) := ⟨ha0, hag, ho⟩
  obtain ⟨hw0, hw1⟩ := hw
  obtain ⟨hs0, hs1⟩ := hs
  clear ha0 hag
  go_enter Tryd.func7, Tryd.ntmps7
  go_wp2_with fail
  refine (known_any _ hZ).mono ?_
  rintro e w1 ⟨rfl, hb1⟩
  have B1 := hid_of hb1
  clear hb1
  go_wp2_with fail
  refine (newPeer_any w1).mono ?_
  rintro e w2 ⟨rfl, hw2⟩
  have HW2 := hid_of hw2
  have l2 : w2.heap.size = w1.heap.size + 1 := by rw [hw2]; simp
  have HL2 := hid_of l2
  clear hw2 l2
  go_wp2_with fail
  refine (newPeer_any w2).mono ?_
  rintro e w3 ⟨rfl, hw3⟩
  have HW3 := hid_of hw3
  clear hw3
  have P3 : Hid (PeerAt w3 w1.heap.size false 0 (fun _ => 0) 0) := by
    show w3.heap[w1.heap.size]? = _
    rw [HW3.out, Below.heap_alloc _ _ _ (by rw [HL2.out]; omega), HW2.out]; exact heap_alloc_new _ _
  have Q3 : Hid (PeerAt w3 w2.heap.size false 0 (fun _ => 0) 0) := by
    show w3.heap[w2.heap.size]? = _
    rw [HW3.out]; exact heap_alloc_new _ _
  have B3 : Hid (Below w.heap.size w w3) := by rw [HW3.out, HW2.out]; exact (B1.out.alloc B1.out.size _).alloc (by simp; have := B1.out.size; omega) _
  clear HW2 HW3
  go_wp2_with fail
  refine (ask_any w1.heap.size false 0 ask (fun _ => 0) 0 w3 P3.out HB.out.1).mono ?_
  rintro e w4 ⟨s1, rfl, hf1, hp4, ht4⟩
  have P4 := hid_of hp4
  have T4 := hid_of ht4
  obtain ⟨g1, hg1, rfl, hr1⟩ : ∃ g, w3.heap.size ≤ g ∧ s1 = .slice (some ⟨g, 0, none⟩) 48 48 ∧ w4.heap[g]? = some (.cells ((askList ask).map (Value.int .u8)).toArray 5 (0, 0)) := by
    rcases hf1 with ⟨h0, _⟩ | ⟨_, g, hg, h1, h2⟩
    · exact absurd rfl h0
    · exact ⟨g, hg, h1, h2⟩
  have R1 := hid_of hr1
  have Q4 : Hid (PeerAt w4 w2.heap.size false 0 (fun _ => 0) 0) := by
    show w4.heap[w2.heap.size]? = _
    rw [ht4.block (by rw [HL2.out]; omega) (Array.getElem?_eq_some_iff.1 Q3.out).1]; exact Q3.out
  have B4 : Hid (Below w.heap.size w w4) := B3.out.trans (ht4.bel.mono B1.out.size)
  clear hf1 hp4 ht4 hr1 P3 Q3 B3 hg1
  obtain ⟨kl0, kl1⟩ := pick_bd lp 3 (by decide)
  obtain ⟨ks0, ks1⟩ := pick_bd st 15 (by decide)
  go_wp2_with (first | (go_at_call 13; refine (pick_any _ _ _ (by omega) (by omega) (by omega) (by omega)).mono ?_; rintro e _ ⟨rfl, h9⟩; rw [h9]; clear h9) | fail)
  obtain ⟨hx0, hx1⟩ := quarter off ho.1 ho.2
  have A1 : Hid (¬ diff (T3 ask (off.tdiv 4) way stay) (T2 ask (off.tdiv 4) way) < 0) := ans_ahead _ _ _ _ hs0 hs1
  have hfits : Fits (pickOf lp 3) 0 0 (1 + pickOf st 15) 0 0 0 0 0 0 0 0 0 := ⟨by decide, by decide, by decide, by decide, by decide, by decide, by decide⟩
  refine (reply_any (pickOf lp 3) 0 0 (1 + pickOf st 15) 0 0 0 0 0 0 0 0 0 (T2 ask (off.tdiv 4) way) (T3 ask (off.tdiv 4) way stay) _ 48 48 _ w4 (ask_bytes R1.out) hfits (wrap_bd _) (wrap_bd _) _ (parse_ask ask HB.out.1).symm).mono ?_
  have HO : Hid (offsetOf ask (T2 ask (off.tdiv 4) way) (T3 ask (off.tdiv 4) way stay) (IntKind.u64.wrap (IntKind.u64.wrap (ask + 2 * way) + stay)) = off.tdiv 4) := ans_off _ _ _ _ hx0 hx1 hw0 hw1
  have HD : Hid (delayOf ask (T2 ask (off.tdiv 4) way) (T3 ask (off.tdiv 4) way stay) (IntKind.u64.wrap (IntKind.u64.wrap (ask + 2 * way) + stay)) = 2 * way) := ans_del _ _ _ _ hw0 hw1 hs0 hs1
  have HI : Hid ((0 ≤ T2 ask (off.tdiv 4) way ∧ T2 ask (off.tdiv 4) way ≤ 18446744073709551615) ∧ (0 ≤ T3 ask (off.tdiv 4) way stay ∧ T3 ask (off.tdiv 4) way stay ≤ 18446744073709551615)) := ⟨wrap_bd _, wrap_bd _⟩
  rw [reply_ok _ _ _ _ _ ⟨kl0, kl1⟩ ⟨by omega, by omega⟩ A1.out]
  rintro e w5 ⟨s2, rfl, hf2, hb5⟩
  obtain ⟨g2, hg2, rfl, hr2⟩ : ∃ g, w4.heap.size ≤ g ∧ s2 = .slice (some ⟨g, 0, none⟩) 48 48 ∧ w5.heap[g]? = some (.cells ((ansList (pickOf lp 3) (1 + pickOf st 15) ask (T2 ask (off.tdiv 4) way) (T3 ask (off.tdiv 4) way stay)).map (Value.int .u8)).toArray 5 (0, 0)) := by
    rcases hf2 with ⟨h0, _⟩ | ⟨_, g, hg, h1, h2⟩
    · exact absurd rfl h0
    · exact ⟨g, hg, h1, h2⟩
  have R2 := hid_of hr2
  have P5 : Hid (PeerAt w5 w1.heap.size true ask (fun _ => 0) 0) := P4.out.below hb5
  have Q5 : Hid (PeerAt w5 w2.heap.size false 0 (fun _ => 0) 0) := Q4.out.below hb5
  have B5 : Hid (Below w.heap.size w w5) := B4.out.trans (hb5.mono B4.out.size)
  have HZ5 : Hid (w1.heap.size < g2 ∧ w1.heap.size < w5.heap.size ∧ g2 < w5.heap.size) := ⟨by have := (Array.getElem?_eq_some_iff.1 P4.out).1; omega, (Array.getElem?_eq_some_iff.1 P5.out).1, (Array.getElem?_eq_some_iff.1 R2.out).1⟩
  have HPA : Hid (parseOf 48 (listZ (ansList (pickOf lp 3) (1 + pickOf st 15) ask (T2 ask (off.tdiv 4) way) (T3 ask (off.tdiv 4) way stay))) = (⟨pickOf lp 3, 4, 4, 1 + pickOf st 15, 0, 0, 0, 0, 0, 0, ask, T2 ask (off.tdiv 4) way, T3 ask (off.tdiv 4) way stay⟩, 0)) := parse_ans _ _ _ _ _ ⟨by omega, by omega⟩ ⟨by omega, by omega⟩ HB.out.1 HI.out.1 HI.out.2
  have HAC : Hid ((0 ≤ pickOf lp 3 ∧ pickOf lp 3 < 3) ∧ (1 ≤ 1 + pickOf st 15 ∧ 1 + pickOf st 15 ≤ 15)) := ⟨⟨kl0, kl1⟩, by omega, by omega⟩
  have HTX : Hid (takeX (⟨pickOf lp 3, 4, 4, 1 + pickOf st 15, 0, 0, 0, 0, 0, 0, ask, T2 ask (off.tdiv 4) way, T3 ask (off.tdiv 4) way stay⟩, 0) (IntKind.u64.wrap (IntKind.u64.wrap (ask + 2 * way) + stay)) = off.tdiv 4 ∧ takeY (⟨pickOf lp 3, 4, 4, 1 + pickOf st 15, 0, 0, 0, 0, 0, 0, ask, T2 ask (off.tdiv 4) way, T3 ask (off.tdiv 4) way stay⟩, 0) (IntKind.u64.wrap (IntKind.u64.wrap (ask + 2 * way) + stay)) = 2 * way) := ⟨HO.out, HD.out⟩
  clear hf2 hr2 hb5 P4 Q4 B4 R1 hfits HO HD kl0 kl1 ks0 ks1 hg2 T4
  go_wp2_with fail
  refine (take_bad w2.heap.size false 0 (fun _ => 0) 0 _ 48 48 _ _ w5 Q5.out (ans_bytes ⟨HAC.out.1.1, by have := HAC.out.1.2; omega⟩ R2.out) _ HPA.out.symm (by rw [take_idle]; decide)).mono ?_
  rw [take_idle]
  rintro e w6 ⟨rfl, hb6⟩
  have l6 : w5.heap.size ≤ w6.heap.size := hb6.size
  have P6 : Hid (PeerAt w6 w1.heap.size true ask (fun _ => 0) 0) := P5.out.below hb6
  have R6 : Hid (w6.heap[g2]? = some (.cells ((ansList (pickOf lp 3) (1 + pickOf st 15) ask (T2 ask (off.tdiv 4) way) (T3 ask (off.tdiv 4) way stay)).map (Value.int .u8)).toArray 5 (0, 0))) := by show _ = _; rw [hb6.block g2 HZ5.out.2.2]; exact R2.out
  have B6 : Hid (Below w.heap.size w w6) := B5.out.trans (hb6.mono B5.out.size)
  have HZ6 : Hid (w1.heap.size < g2 ∧ w1.heap.size < w6.heap.size ∧ g2 < w6.heap.size) := ⟨HZ5.out.1, by have := HZ5.out; omega, by have := HZ5.out; omega⟩
  clear hb6 l6 P5 Q5 B5 HZ5 R2
  go_wp2_with fail
  have R6' : Hid ((w6.alloc (.cells #[.int .i64 0, .int .i64 0] 43)).heap[g2]? = some (.cells ((ansList (pickOf lp 3) (1 + pickOf st 15) ask (T2 ask (off.tdiv 4) way) (T3 ask (off.tdiv 4) way stay)).map (Value.int .u8)).toArray 5 (0, 0))) := by show _ = _; rw [Below.heap_alloc _ _ _ HZ6.out.2.2]; exact R6.out
  refine (take_good w1.heap.size true ask (fun _ => 0) 0 _ 48 48 _ _ _ (P6.out.below ((Below.refl _ _).alloc (Nat.le_refl _) _)) (ans_bytes ⟨HAC.out.1.1, by have := HAC.out.1.2; omega⟩ R6'.out) _ HPA.out.symm (by decide) (take_right _ _ _ _ _ HAC.out.1 HAC.out.2 (by have := A1.out; omega))).mono ?_
  rw [HTX.out.1, HTX.out.2]
  rintro e w7 ⟨rfl, hp7, ht7⟩
  have P7 : Hid (PeerAt w7 w1.heap.size false ask (upd (fun _ => 0) 0 (off.tdiv 4) (2 * way)) 1) := hp7
  have l7 : w6.heap.size + 1 ≤ w7.heap.size := by have := ht7.bel.size; rw [World.size_alloc] at this; exact this
  have R7 : Hid (w7.heap[g2]? = some (.cells ((ansList (pickOf lp 3) (1 + pickOf st 15) ask (T2 ask (off.tdiv 4) way) (T3 ask (off.tdiv 4) way stay)).map (Value.int .u8)).toArray 5 (0, 0))) := by show _ = _; rw [ht7.block (by have := HZ6.out; omega) (by rw [World.size_alloc]; have := HZ6.out; omega)]; exact R6'.out
  have B7 : Hid (Below w.heap.size w w7) := (B6.out.alloc B6.out.size _).trans (ht7.bel.mono B1.out.size)
  have HZ7 : Hid (w1.heap.size < g2 ∧ w1.heap.size < w7.heap.size ∧ g2 < w7.heap.size) := ⟨HZ6.out.1, by have := HZ6.out; omega, by have := HZ6.out; omega⟩
  clear hp7 ht7 l7 P6 R6 R6' B6 HZ6
  go_wp2_with fail
  have R7' : Hid ((w7.alloc (.cells #[.int .i64 (off.tdiv 4), .int .i64 (2 * way)] 43)).heap[g2]? = some (.cells ((ansList (pickOf lp 3) (1 + pickOf st 15) ask (T2 ask (off.tdiv 4) way) (T3 ask (off.tdiv 4) way stay)).map (Value.int .u8)).toArray 5 (0, 0))) := by show _ = _; rw [Below.heap_alloc _ _ _ HZ7.out.2.2]; exact R7.out
  refine (take_bad w1.heap.size false ask (upd (fun _ => 0) 0 (off.tdiv 4) (2 * way)) 1 _ 48 48 _ _ _ (P7.out.below ((Below.refl _ _).alloc (Nat.le_refl _) _)) (ans_bytes ⟨HAC.out.1.1, by have := HAC.out.1.2; omega⟩ R7'.out) _ HPA.out.symm (by rw [take_idle]; decide)).mono ?_
  rw [take_idle]
  rintro e w8 ⟨rfl, hb8⟩
  rw [World.size_alloc] at hb8
  have l8 : w7.heap.size + 1 ≤ w8.heap.size := by have := hb8.size; rw [World.size_alloc] at this; exact this
  have P8 : Hid (PeerAt w8 w1.heap.size false ask (upd (fun _ => 0) 0 (off.tdiv 4) (2 * way)) 1) := (P7.out.below ((Below.refl _ _).alloc (Nat.le_refl _) _)).below (by rw [World.size_alloc]; exact hb8)
  have R8 : Hid (w8.heap[g2]? = some (.cells ((ansList (pickOf lp 3) (1 + pickOf st 15) ask (T2 ask (off.tdiv 4) way) (T3 ask (off.tdiv 4) way stay)).map (Value.int .u8)).toArray 5 (0, 0))) := by show _ = _; rw [hb8.block g2 (by have := HZ7.out; omega)]; exact R7'.out
  have S8 : Hid (w8.heap[w7.heap.size]? = some (.cells #[.int .i64 (off.tdiv 4), .int .i64 (2 * way)] 43 (0, 0))) := by show _ = _; rw [hb8.block w7.heap.size (by omega)]; exact heap_alloc_new _ _
  have B8 : Hid (Below w.heap.size w w8) := (B7.out.alloc B7.out.size _).trans (hb8.mono (by have := B7.out.size; omega))
  have HZ8 : Hid (w1.heap.size < g2 ∧ w1.heap.size < w7.heap.size ∧ g2 < w7.heap.size ∧ w7.heap.size < w8.heap.size) := ⟨HZ7.out.1, HZ7.out.2.1, HZ7.out.2.2, l8⟩
  clear hb8 l8 P7 R7 R7' B7 HZ7
  go_wp2_with fail
  refine (best_one w1.heap.size false ask (fun _ => 0) (off.tdiv 4) (2 * way) _ (P8.out.below ((Below.refl _ _).alloc (Nat.le_refl _) _))).mono ?_
  rintro e w9 ⟨rfl, hb9⟩
  have H89 : Hid (Below w8.heap.size w8 w9) := ((Below.refl _ _).alloc (Nat.le_refl _) _).trans (hb9.mono (by simp))
  have l9 : w8.heap.size < w9.heap.size := by have := hb9.size; rw [World.size_alloc] at this; omega
  have P9 : Hid (PeerAt w9 w1.heap.size false ask (upd (fun _ => 0) 0 (off.tdiv 4) (2 * way)) 1) := P8.out.below H89.out
  have R9 : Hid (w9.heap[g2]? = some (.cells ((ansList (pickOf lp 3) (1 + pickOf st 15) ask (T2 ask (off.tdiv 4) way) (T3 ask (off.tdiv 4) way stay)).map (Value.int .u8)).toArray 5 (0, 0))) := by show _ = _; rw [H89.out.block g2 (by have := HZ8.out; omega)]; exact R8.out
  have S9 : Hid (w9.heap[w7.heap.size]? = some (.cells #[.int .i64 (off.tdiv 4), .int .i64 (2 * way)] 43 (0, 0))) := by show _ = _; rw [H89.out.block w7.heap.size (by have := HZ8.out; omega)]; exact S8.out
  have B9 : Hid (Below w.heap.size w w9) := B8.out.trans (H89.out.mono B8.out.size)
  have HZ9 : Hid (w1.heap.size < g2 ∧ w1.heap.size < w7.heap.size ∧ g2 < w7.heap.size ∧ w7.heap.size < w9.heap.size) := ⟨HZ8.out.1, HZ8.out.2.1, HZ8.out.2.2.1, by have := HZ8.out; omega⟩
  clear hb9 l9 P8 R8 B8 HZ8 S8 H89
  go_wp2_with fail
  have H9 : Hid (Below w9.heap.size w9 (w9.alloc (.cells #[.int .i64 (off.tdiv 4), .int .i64 (2 * way)] 43))) := (Below.refl _ _).alloc (Nat.le_refl _) _
  refine (ask_any w1.heap.size false ask again (upd (fun _ => 0) 0 (off.tdiv 4) (2 * way)) 1 _ (P9.out.below H9.out) HB.out.2.1).mono ?_
  rintro e wa ⟨s3, rfl, _, hpa, hta⟩
  have Pa := hid_of hpa
  have Ra : Hid (wa.heap[g2]? = some (.cells ((ansList (pickOf lp 3) (1 + pickOf st 15) ask (T2 ask (off.tdiv 4) way) (T3 ask (off.tdiv 4) way stay)).map (Value.int .u8)).toArray 5 (0, 0))) := by show _ = _; rw [hta.block (by have := HZ9.out; omega) (by rw [World.size_alloc]; have := HZ9.out; omega), H9.out.block g2 (by have := HZ9.out; omega)]; exact R9.out
  have Sa : Hid (wa.heap[w7.heap.size]? = some (.cells #[.int .i64 (off.tdiv 4), .int .i64 (2 * way)] 43 (0, 0))) := by show _ = _; rw [hta.block (by have := HZ9.out; omega) (by rw [World.size_alloc]; have := HZ9.out; omega), H9.out.block w7.heap.size (by have := HZ9.out; omega)]; exact S9.out
  have Ta : Hid (wa.heap[w9.heap.size]? = some (.cells #[.int .i64 (off.tdiv 4), .int .i64 (2 * way)] 43 (0, 0))) := by show _ = _; rw [hta.block (by have := HZ9.out; omega) (by rw [World.size_alloc]; omega)]; exact heap_alloc_new _ _
  have Ba : Hid (Below w.heap.size w wa) := (B9.out.alloc B9.out.size _).trans (hta.bel.mono B1.out.size)
  have HZa : Hid (w1.heap.size < g2 ∧ w1.heap.size < w7.heap.size ∧ g2 < w7.heap.size ∧ w7.heap.size < w9.heap.size ∧ w9.heap.size < wa.heap.size) := ⟨HZ9.out.1, HZ9.out.2.1, HZ9.out.2.2.1, HZ9.out.2.2.2, (Array.getElem?_eq_some_iff.1 Ta.out).1⟩
  clear hpa hta P9 R9 S9 B9 HZ9 H9
  by_cases heq : again = ask
  · subst heq
    go_wp2_with fail
    refine (take_good w1.heap.size true again (upd (fun _ => 0) 0 (off.tdiv 4) (2 * way)) 1 _ 48 48 _ _ _ Pa.out (ans_bytes ⟨HAC.out.1.1, by have := HAC.out.1.2; omega⟩ Ra.out) _ HPA.out.symm (by decide) (take_right _ _ _ _ _ HAC.out.1 HAC.out.2 (by have := A1.out; omega))).mono ?_
    rintro e wb ⟨rfl, _, htb⟩
    have Bb : Hid (Below w.heap.size w wb) := Ba.out.trans (htb.bel.mono B1.out.size)
    clear htb Pa Ra Sa Ta Ba
    generalize takeX _ _ = X
    generalize takeY _ _ = Y
    go_wp2
    go_ret
    exact ⟨rfl, Bb.out.alloc Bb.out.size _⟩
  · go_wp2_with fail
    refine (take_bad w1.heap.size true again (upd (fun _ => 0) 0 (off.tdiv 4) (2 * way)) 1 _ 48 48 _ _ _ Pa.out (ans_bytes ⟨HAC.out.1.1, by have := HAC.out.1.2; omega⟩ Ra.out) _ HPA.out.symm (by rw [take_other _ _ _ _ _ _ (fun h => heq h.symm)]; decide)).mono ?_
    rw [take_other _ _ _ _ _ _ (fun h => heq h.symm)]
    rintro e wb ⟨rfl, hbb⟩
    have Bb : Hid (Below w.heap.size w wb) := Ba.out.trans (hbb.mono Ba.out.size)
    have sb : wb.heap[w7.heap.size]? = some (.cells #[.int .i64 (off.tdiv 4), .int .i64 (2 * way)] 43 (0, 0)) := by rw [hbb.block w7.heap.size (by have := HZa.out; omega)]; exact Sa.out
    have tb : wb.heap[w9.heap.size]? = some (.cells #[.int .i64 (off.tdiv 4), .int .i64 (2 * way)] 43 (0, 0)) := by rw [hbb.block w9.heap.size (by have := HZa.out; omega)]; exact Ta.out
    have s0 : wb.cell? ⟨w7.heap.size, 0, none⟩ = some (.int .i64 (off.tdiv 4)) := by rw [cell_of_row wb _ 0 _ _ _ sb]; rfl
    have s1 : wb.cell? ⟨w7.heap.size, 1, none⟩ = some (.int .i64 (2 * way)) := by rw [cell_of_row wb _ 1 _ _ _ sb]; rfl
    have t0 : wb.cell? ⟨w9.heap.size, 0, none⟩ = some (.int .i64 (off.tdiv 4)) := by rw [cell_of_row wb _ 0 _ _ _ tb]; rfl
    have t1 : wb.cell? ⟨w9.heap.size, 1, none⟩ = some (.int .i64 (2 * way)) := by rw [cell_of_row wb _ 1 _ _ _ tb]; rfl
    have l7 : w7.heap.size < wb.heap.size := (Array.getElem?_eq_some_iff.1 sb).1
    have l9 : w9.heap.size < wb.heap.size := (Array.getElem?_eq_some_iff.1 tb).1
    have f00 : (FloatKind.f64.format.order 0 0 == some Ordering.eq) = true := by decide +kernel
    clear hbb Pa Ra Sa Ta Ba sb tb HPA HTX
    go_wp2
    go_ret
    exact ⟨rfl, Bb.out.alloc Bb.out.size _⟩
end Go.Proofs.YtjdcnlggpfkopaaDoor
