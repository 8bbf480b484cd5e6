/- Many clocks, the code: the bounds; what enough allow; who lies between. -/
import Derived.Test.YtjdcnlggpfkopaaSelA
import Derived.Maps.AppendAt
import Derived.OwnWalk
namespace Go.Proofs.Ytjdcnlggpfkopaa
open Go.ChangeShapes Go.WideShapes Go.ChangeAt Go.RowKit
set_option linter.unusedVariables false

theorem scell {W w1 : World} (hb : Below W.heap.size W w1) : (∀ b o, b < W.heap.size → w1.cell? ⟨b, o, none⟩ = W.cell? ⟨b, o, none⟩) ∧ (∀ b o, b < W.heap.size → w1.frozen? ⟨b, o, none⟩ = W.frozen? ⟨b, o, none⟩) :=
  ⟨fun b o h => hb.cell (p := ⟨b, o, none⟩) h, fun b o h => hb.frozen (p := ⟨b, o, none⟩) h⟩
theorem vint {k : IntKind} {a b : Int} (h : a = b) : Value.int k a = .int k b := by rw [h]
theorem rint {k : IntKind} {a b : Int} (h : a = b) : Ending.returned (.int k a) = .returned (.int k b) := by rw [h]
theorem mini (a b : Int) : min a b = if b < a then b else a := by split <;> omega
theorem maxi (a b : Int) : max a b = if a < b then b else a := by split <;> omega
def chkOf (md fa : Nat → Int) (n : Nat) : Int :=
  haveI : DecidablePred (Tame md fa) := fun j => by unfold Tame; infer_instance
  if n = 0 ∨ 32 < n then 11 else if ∀ j, j < n → Tame md fa j then 0 else 5
theorem chk_arg (ao : Option Addr) (n c : Nat) (w : World) (hn : n ≤ maxLen) (h : n = 0 ∨ 32 < n) :
    Calls Try.prog 70 #[.slice ao n c] w fun r w' => r = .returned (.int .i64 11) ∧ w' = w := by
  unfold maxLen at hn
  rcases h with rfl | h
  · go_enter Try.func70, Try.ntmps70
    go_wp2
    go_ret
    exact ⟨rfl, rfl⟩
  · have h1 : ¬ n = 0 := by omega
    have h2 : ¬ (n : Int) = 0 := by omega
    have h3 : (32 : Int) < n := by omega
    go_enter Try.func70, Try.ntmps70
    go_wp2
    go_ret
    exact ⟨rfl, rfl⟩
set_option maxRecDepth 100000 in
set_option maxHeartbeats 800000 in
theorem chk_any (b off n c : Nat) (md fa : Nat → Int) (w : World) (hn0 : 0 < n) (hn : n ≤ 32) (hT : TicksAt w b off n md fa) :
    Calls Try.prog 70 #[.slice (some ⟨b, off, none⟩) n c] w fun r w' => r = .returned (.int .i64 (chkOf md fa n)) ∧ Below w.heap.size w w' := by
  have HC : Hid (TicksAt w b off n md fa) := hT
  clear hT
  have h1 : ¬ n = 0 := by omega
  have h2 : ¬ (n : Int) = 0 := by omega
  have h3 : ¬ (32 : Int) < n := by omega
  go_enter Try.func70, Try.ntmps70
  go_wp2
  go_loopw [15] (fun i wr => ∃ k : Nat, k ≤ n ∧ i = .int .i64 k ∧ (∀ j, j < k → Tame md fa j) ∧ Below w.heap.size w wr) (fun i _ => n - (intOf i).toNat)
  case atStart => exact ⟨0, by omega, rfl, fun j hj => by omega, Below.refl _ _⟩
  case round =>
    obtain ⟨k, hk, rfl, hgd, hbw⟩ := hrel
    have HW : Hid (Below w.heap.size w wr) := hbw
    have HG : Hid (∀ j, j < k → Tame md fa j) := hgd
    clear hbw hgd
    by_cases hlt : k < n
    · have hlt' : (k : Int) < n := by omega
      have hb : b < w.heap.size := HC.out.lt hlt
      have hbr : b < wr.heap.size := by have := HW.out.size; omega
      obtain ⟨c1, c2⟩ := HC.out.below hb HW.out k hlt
      have nb : ¬ b = wr.heap.size := by omega
      have B1 : Hid (Below w.heap.size w (wr.alloc (.cells #[.int .i64 (md k), .int .i64 (fa k)] 104))) := HW.out.alloc HW.out.size _
      have HBAD : Hid (¬ Tame md fa k → chkOf md fa n = 5) := fun hx => by
        unfold chkOf
        rw [if_neg (by omega), if_neg (fun hall => hx (hall k hlt))]
      by_cases g1 : md k < -2305843009213693952
      · go_wp2
        go_ret
        exact ⟨rint (HBAD.out (fun hx => by unfold Tame at hx; omega)).symm, B1.out⟩
      by_cases g2 : 2305843009213693952 < md k
      · go_wp2
        go_ret
        exact ⟨rint (HBAD.out (fun hx => by unfold Tame at hx; omega)).symm, B1.out⟩
      by_cases g3 : fa k < 0
      · go_wp2
        go_ret
        exact ⟨rint (HBAD.out (fun hx => by unfold Tame at hx; omega)).symm, B1.out⟩
      by_cases g4 : 2305843009213693952 < fa k
      · go_wp2
        go_ret
        exact ⟨rint (HBAD.out (fun hx => by unfold Tame at hx; omega)).symm, B1.out⟩
      go_wp2
      go_roundw
      case rel => exact ⟨k + 1, by omega, by go_num, fun j hj => by
        rcases Nat.lt_or_ge j k with h | h
        · exact HG.out j h
        · rw [show j = k by omega]; exact ⟨by omega, by omega, by omega, by omega⟩, B1.out⟩
      case measure => simp [intOf]; omega
    · obtain rfl : k = n := by omega
      have hz : Hid (chkOf md fa k = 0) := by
        show _ = _
        unfold chkOf
        rw [if_neg (by omega), if_pos HG.out]
      go_wp2
      go_ret
      exact ⟨rint hz.out.symm, HW.out⟩
set_option maxRecDepth 100000 in
set_option maxHeartbeats 1600000 in
theorem allowed_any (b off n c : Nat) (md fa : Nat → Int) (e : Int) (w : World) (hn : n ≤ 1000) (hT : TicksAt w b off n md fa) (hg : ∀ j, j < n → Tame md fa j) :
    Calls Try.prog 71 #[.slice (some ⟨b, off, none⟩) n c, .int .i64 e] w fun r w' => r = .returned (.tuple #[.int .i64 (lowTo md fa n e n), .int .i64 (highTo md fa n e n)]) ∧ Below w.heap.size w w' := by
  have HC : Hid (TicksAt w b off n md fa) := hT
  have HG : Hid (∀ j, j < n → Tame md fa j) := hg
  clear hT hg
  go_enter Try.func71, Try.ntmps71
  go_wp2
  go_loopw [4, 5, 12] (fun lv hv i wr => ∃ k : Nat, k ≤ n ∧ i = .int .i64 k ∧ lv = .int .i64 (lowTo md fa n e k) ∧ hv = .int .i64 (highTo md fa n e k) ∧ Below w.heap.size w wr) (fun _ _ i _ => n - (intOf i).toNat)
  case atStart => exact ⟨0, by omega, rfl, rfl, rfl, Below.refl _ _⟩
  case round =>
    obtain ⟨k, hk, rfl, rfl, rfl, hbw⟩ := hrel
    have HW : Hid (Below w.heap.size w wr) := hbw
    clear hbw
    by_cases hlt : k < n
    · have hlt' : (k : Int) < n := by omega
      have hl := lowTo_le md fa n e HG.out k hk
      have hh := highTo_le md fa n e HG.out k hk
      have HS : Hid (lowTo md fa n e (k + 1) = if e ≤ (countTo md fa (md k - fa k) n : Int) then min (lowTo md fa n e k) (md k - fa k) else lowTo md fa n e k) := rfl
      have HS2 : Hid (highTo md fa n e (k + 1) = if e ≤ (countTo md fa (md k + fa k) n : Int) then max (highTo md fa n e k) (md k + fa k) else highTo md fa n e k) := rfl
      generalize lowTo md fa n e k = L at hl HS
      generalize highTo md fa n e k = H at hh HS2
      have hb : b < w.heap.size := HC.out.lt hlt
      have hbr : b < wr.heap.size := by have := HW.out.size; omega
      obtain ⟨g1, g2, g3, g4⟩ := HG.out k hlt
      obtain ⟨c1, c2⟩ := HC.out.below hb HW.out k hlt
      have nb : ¬ b = wr.heap.size := by omega
      have B1 : Hid (Below w.heap.size w (wr.alloc (.cells #[.int .i64 (md k), .int .i64 (fa k)] 104))) := HW.out.alloc HW.out.size _
      have T1 : Hid (TicksAt (wr.alloc (.cells #[.int .i64 (md k), .int .i64 (fa k)] 104)) b off n md fa) := HC.out.below hb B1.out
      have hc1 := countTo_le md fa (md k - fa k) n
      have hc2 := countTo_le md fa (md k + fa k) n
      have HN : Hid (∃ a d : Nat, a = countTo md fa (md k - fa k) n ∧ d = countTo md fa (md k + fa k) n) := ⟨_, _, rfl, rfl⟩
      by_cases h1 : e ≤ (countTo md fa (md k - fa k) n : Int)
      all_goals by_cases h2 : e ≤ (countTo md fa (md k + fa k) n : Int)
      all_goals
        go_wp2_with (first
          | (go_at_call 89; refine (allowing_any b off n c md fa _ _ hn T1.out HG.out).mono ?_; rintro r1 w1 ⟨rfl, hb1⟩; obtain ⟨hc, hf⟩ := scell hb1; have HB1 : Hid (Below _ _ w1) := hb1; clear hb1; have B2 : Hid (Below w.heap.size w w1) := B1.out.trans (HB1.out.mono (by have := HW.out.size; simp; omega)); have T2 : Hid (TicksAt w1 b off n md fa) := HC.out.below hb B2.out)
          | (go_at_call 89; refine (allowing_any b off n c md fa _ _ hn T2.out HG.out).mono ?_; rintro r2 w2 ⟨rfl, hb2⟩; have HB2 : Hid (Below w1.heap.size w1 w2) := hb2; clear hb2; have B3 : Hid (Below w.heap.size w w2) := B2.out.trans (HB2.out.mono B2.out.size)))
      all_goals
        go_roundw
        case rel => exact ⟨k + 1, by omega, by go_num, vint (by rw [HS.out]; first | (rw [if_pos h1]; omega) | rw [if_neg (by omega)]), vint (by rw [HS2.out]; first | (rw [if_pos h2]; omega) | rw [if_neg (by omega)]), B3.out⟩
        case measure => simp [intOf]; omega
    · obtain rfl : k = n := by omega
      go_wp2
      go_ret2
      exact ⟨rfl, HW.out⟩
end Go.Proofs.Ytjdcnlggpfkopaa
