/- A peer of the document's own: Best. -/
import Derived.Test.YtjdcnlggpfkopaaRefPeerB
import Derived.Deep.CutBlock
import Derived.Deep.DeepCutAuto
namespace Go.Proofs.Ytjdcnlggpfkopaa
open Go.ChangeShapes Go.WideShapes Go.ChangeAt Go.RowKit
set_option linter.unusedVariables false

/-- The last samples of the document's list are those of the peer's. -/
structure LastAt (w : World) (a : Option Addr) (N c : Nat) (sm : Nat → Int) : Prop where
  le : N ≤ 10000000
  cap : N ≤ c
  at_ : 0 < N → ∃ g, a = some ⟨g, 0, none⟩ ∧ g < w.heap.size ∧ ∀ j, j < min N 8 → w.cell? ⟨g, (N - min N 8) * 2 + j * 2, none⟩ = some (.int .i64 (offs sm j)) ∧ w.cell? ⟨g, (N - min N 8) * 2 + j * 2 + 1, none⟩ = some (.int .i64 (dels sm j))

set_option maxRecDepth 100000 in
set_option maxHeartbeats 4000000 in
theorem refBest_any (b : Nat) (wt : Bool) (t : Int) (a : Option Addr) (N c : Nat) (sm : Nat → Int) (w : World) (hP : RefAt w b wt t (.slice a N c)) (hL : LastAt w a N c sm) :
    Calls Try.prog 49 #[.pointer (some ⟨b, 0, none⟩)] w fun q w' => q = .returned (.tuple #[.agg #[.int .i64 (bestOf sm (min N 8)).1.1, .int .i64 (bestOf sm (min N 8)).1.2], .float .f64 (bestOf sm (min N 8)).2.1, .int .i64 (bestOf sm (min N 8)).2.2]) ∧ Below w.heap.size w w' := by
  have hb : b < w.heap.size := (Array.getElem?_eq_some_iff.1 hP).1
  have c2 : w.cell? ⟨b, 2, none⟩ = some (.slice a N c) := by rw [cell_of_row w b 2 _ _ _ hP]; rfl
  have hNle := hL.le
  clear hP
  by_cases hN : N = 0
  · subst hN
    go_enter Try.func49, Try.ntmps49
    go_wp2
    refine bodyPost_ret (v := .tuple #[.agg #[.int .i64 0, .int .i64 0], .float .f64 0, .int .i64 10]) (by simp [results, Try.results49, go_sem]) rfl ?_
    exact ⟨rfl, (Below.refl _ _).alloc (Nat.le_refl _) _⟩
  · obtain ⟨g, rfl, hg, hcell⟩ := hL.at_ (by omega)
    have hcap := hL.cap
    obtain ⟨n, hn⟩ : ∃ n, n = min N 8 := ⟨_, rfl⟩
    obtain ⟨off, hoff⟩ : ∃ off, off = (N - n) * 2 := ⟨_, rfl⟩
    rw [← hn] at hcell ⊢
    rw [← hoff] at hcell
    have hn1 : 1 ≤ n := by omega
    have hn8 : n ≤ 8 := by omega
    have HC := hid_of hcell
    have HNN : Hid (n = min N 8 ∧ off = (N - n) * 2) := ⟨hn, hoff⟩
    have hN0 : ¬ (N : Int) = 0 := by omega
    have hN0b : ((N : Int) == 0) = false := by simp only [beq_eq_false_iff_ne]; exact hN0
    clear hcell hn hoff hL
    go_enter Try.func49, Try.ntmps49
    go_upto_if 22 with fail
    go_cut [5] (fun lv wc => (∃ cap2, lv = .slice (some ⟨g, off, none⟩) n cap2) ∧ wc = w.alloc (.cells #[.int .i64 0, .int .i64 0] 44))
    case first =>
      by_cases h8 : N ≤ 8
      · obtain rfl : n = N := by have := HNN.out.1; omega
        obtain rfl : off = 0 := by have := HNN.out.2; omega
        have h8' : ¬ (8 : Int) < (n : Int) := by omega
        go_wp2
        go_meet
        case rel => exact ⟨⟨c, rfl⟩, rfl⟩
      · obtain ⟨M, rfl⟩ : ∃ M, N = M + 8 := ⟨N - 8, by omega⟩
        obtain rfl : n = 8 := by have := HNN.out.1; omega
        obtain rfl : off = M * 2 := by have := HNN.out.2; omega
        have h8' : (8 : Int) < ((M + 8 : Nat) : Int) := by omega
        have hcM : ¬ c = M := by omega
        have hcM' : (M : Int) ≤ ((M + 8 : Nat) : Int) := by omega
        go_wp2
        go_meet
        case rel => exact ⟨⟨_, rfl⟩, rfl⟩
    case rest =>
      obtain ⟨⟨cap2, rfl⟩, rfl⟩ := hcut
      clear c2 hNle hN hcap hN0 hN0b
      have BW : Hid (Below w.heap.size w (w.alloc (.cells #[.int .i64 0, .int .i64 0] 44))) := (Below.refl _ _).alloc (Nat.le_refl _) _
      have RW : Hid ((w.alloc (.cells #[.int .i64 0, .int .i64 0] 44)).heap[w.heap.size]? = some (.cells #[.int .i64 0, .int .i64 0] 44 (0, 0))) := heap_alloc_new _ _
      have HCW : Hid (∀ j, j < n → (w.alloc (.cells #[.int .i64 0, .int .i64 0] 44)).cell? ⟨g, off + j * 2, none⟩ = some (.int .i64 (offs sm j)) ∧ (w.alloc (.cells #[.int .i64 0, .int .i64 0] 44)).cell? ⟨g, off + j * 2 + 1, none⟩ = some (.int .i64 (dels sm j))) := fun j hj => ⟨by rw [World.cell?_alloc_past _ _ _ hg]; exact (HC.out j hj).1, by rw [World.cell?_alloc_past _ _ _ hg]; exact (HC.out j hj).2⟩
      generalize w.alloc (.cells #[.int .i64 0, .int .i64 0] 44) = W at BW RW HCW
      have hgW : g < W.heap.size := by have := BW.out.size; omega
      clear HC HNN
      go_wp2
      go_loopw [6, 7] (fun bv i wr => ∃ k : Nat, k ≤ n ∧ i = .int .i64 k ∧ bv = .int .i64 (bestUpTo (dels sm) k) ∧ ∃ m, wr = W.drewN m) (fun _ i _ => n - (intOf i).toNat)
      case atStart => exact ⟨0, by omega, rfl, rfl, 0, rfl⟩
      case round =>
        obtain ⟨k, hk, rfl, rfl, m, rfl⟩ := hrel
        by_cases hlt : k < n
        · have hlt' : (k : Int) < n := by omega
          have hB := bestUpTo_lt (dels sm) n (by omega) k hk
          have HS : Hid (bestUpTo (dels sm) (k + 1) = if dels sm k ≤ dels sm (bestUpTo (dels sm) k) then k else bestUpTo (dels sm) k) := rfl
          generalize bestUpTo (dels sm) k = B at hB HS
          have hB' : (B : Int) < n := by omega
          have d2 := (HCW.out k hlt).2
          have d4 := (HCW.out B hB).2
          go_wp2
          refine region_stillS (by kernel_rfl) (by kernel_rfl) ?_
          repeat (apply StillS.step; intro K hK; constructor; go_simp; apply hK; clear hK K)
          apply StillS.nil
          by_cases hd : dels sm k ≤ dels sm B
          · go_wp2
            go_roundw
            case rel => exact ⟨k + 1, by omega, by go_num, by rw [HS.out, if_pos hd], m + 1, rfl⟩
            case measure => simp [intOf]; omega
          · go_wp2
            go_roundw
            case rel => exact ⟨k + 1, by omega, by go_num, by rw [HS.out, if_neg hd], m + 1, rfl⟩
            case measure => simp [intOf]; omega
        · obtain rfl : k = n := by omega
          have hB := bestUpTo_lt (dels sm) k (by omega) k (Nat.le_refl _)
          obtain ⟨B, hBe⟩ : ∃ B, B = bestUpTo (dels sm) k := ⟨_, rfl⟩
          rw [← hBe] at hB ⊢
          have HBE := hid_of hBe
          have hB' : (B : Int) < k := by omega
          have d1 := (HCW.out B hB).1
          have d2 := (HCW.out B hB).2
          have r0 : W.cell? ⟨w.heap.size, 0, none⟩ = some (.int .i64 0) := by rw [cell_of_row W _ 0 _ _ _ RW.out]; rfl
          have r1 : W.cell? ⟨w.heap.size, 1, none⟩ = some (.int .i64 0) := by rw [cell_of_row W _ 1 _ _ _ RW.out]; rfl
          have rf : ∀ o, W.frozen? ⟨w.heap.size, o, none⟩ = false := fun o => frozen_of_row W _ o _ _ RW.out
          have lW : w.heap.size < W.heap.size := (Array.getElem?_eq_some_iff.1 RW.out).1
          clear hBe
          by_cases h1 : k = 1
          · subst h1
            obtain rfl : B = 0 := by omega
            have HX : Hid (bestOf sm 1 = ((offs sm 0, dels sm 0), 0, 0)) := by show _ = _; unfold bestOf; rw [if_neg (by decide), ← HBE.out, if_pos rfl]
            have e1 : W.cell? ⟨g, off, none⟩ = some (.int .i64 (offs sm 0)) := d1
            have e2 : W.cell? ⟨g, off + 1, none⟩ = some (.int .i64 (dels sm 0)) := d2
            go_wp2
            refine bodyPost_ret (v := .tuple #[.agg #[.int .i64 (offs sm 0), .int .i64 (dels sm 0)], .float .f64 0, .int .i64 0]) (by simp [results, Try.results49, go_sem, r0, r1]) rfl ?_
            rw [HX.out]
            exact ⟨rfl, Below.trans (Below.setCell (Below.setCell BW.out (Nat.le_refl _) _) (Nat.le_refl _) _) ⟨rfl, rfl, rfl, Nat.le_refl _, fun _ _ => rfl⟩⟩
          · have h1b : ((k : Int) == 1) = false := by simp only [beq_eq_false_iff_ne]; omega
            obtain ⟨T, hT⟩ : ∃ T, T = sumDown (offs sm) B k 0 := ⟨_, rfl⟩
            have HT := hid_of hT
            have HX : Hid (bestOf sm k = ((offs sm B, dels sm B), sqrtF (divF T (k - 1)), 0)) := by show _ = _; unfold bestOf; rw [if_neg (by omega), if_neg h1, ← HBE.out, hT]; rfl
            clear hT
            go_wp2
            go_loopw [8, 9] (fun sv i wr => ∃ (j acc : Nat), j ≤ k ∧ i = .int .i64 ((j : Int) - 1) ∧ sv = .float .f64 acc ∧ Hid (PosF acc) ∧ Hid (sumDown (offs sm) B j acc = T) ∧ ∃ m2, wr = W.drewN m2) (fun _ i _ => ((intOf i) + 1).toNat)
            case atStart => exact ⟨k, 0, Nat.le_refl _, rfl, rfl, zero_pos, HT.out.symm, m, rfl⟩
            case round =>
              obtain ⟨j, acc, hj, rfl, rfl, HP, HS, m2, rfl⟩ := hrel
              match j, hj, HS with
              | 0, hj, HS =>
                have hTe : acc = T := HS.out
                subst hTe
                have hdv := div_eq HP.out (n := k - 1) (by omega) (by omega)
                have hd : floatBits .quo .f64 acc (floatOfInt .f64 ((k : Int) - 1)) = some (divF acc (k - 1)) := by
                  have := hdv.1
                  rw [show (((k - 1 : Nat) : Nat) : Int) = (k : Int) - 1 by omega] at this
                  exact this
                have hr := fun w t => run_float_arith (P := Try.prog) w .quo t .f64 _ _ _ hd
                have HQ := hid_of hdv.2
                clear hd hdv HS HP HT HCW
                have hwk : IntKind.i64.wrap ((k : Int) - 1) = (k : Int) - 1 := IntWalk.i64_in _ ⟨by omega, by omega⟩
                go_wp2
                refine region_tailS 11 (by kernel_rfl) (by kernel_rfl) ?_
                simp only [List.take_succ_cons, List.take_zero, List.drop_succ_cons, List.drop_zero]
                repeat (apply StillS.step; intro K hK; constructor; go_simp; apply hK; clear hK K)
                apply StillS.step
                intro K hK
                constructor
                go_simp
                refine ⟨_, sqrt_any _ _ HQ.out, ?_⟩
                apply hK
                clear hK K
                apply StillS.nil
                go_wp2
                refine bodyPost_ret (v := .tuple #[.agg #[.int .i64 (offs sm B), .int .i64 (dels sm B)], .float .f64 (sqrtF (divF acc (k - 1))), .int .i64 0]) (by simp [results, Try.results49, go_sem, r0, r1]) rfl ?_
                rw [HX.out]
                exact ⟨rfl, Below.trans (Below.setCell (Below.setCell BW.out (Nat.le_refl _) _) (Nat.le_refl _) _) ⟨rfl, rfl, rfl, Nat.le_refl _, fun _ _ => rfl⟩⟩
              | i + 1, hj, HS =>
                rw [show (((i + 1 : Nat) : Int) - 1) = (i : Int) by omega]
                have hi0 : (0 : Int) ≤ i := by omega
                by_cases hiB : i = B
                · have HS2 : Hid (sumDown (offs sm) B i acc = T) := by have := HS.out; unfold sumDown at this; rw [if_pos hiB] at this; exact this
                  have hib : ((i : Int) == (B : Int)) = true := by subst hiB; simp
                  clear HS HT
                  go_wp2
                  go_roundw
                  case rel => exact ⟨i, acc, by omega, by rw [hiB], rfl, HP.out, HS2.out, m2, rfl⟩
                  case measure => simp [intOf]; omega
                · have hib : ((i : Int) == (B : Int)) = false := by simp only [beq_eq_false_iff_ne]; omega
                  have had := add_eq HP.out (term_pos (offs sm) B i)
                  have HS2 : Hid (sumDown (offs sm) B i (addF acc (termF (offs sm) B i)) = T) := by have := HS.out; unfold sumDown at this; rw [if_neg hiB] at this; exact this
                  have hd : floatBits .add .f64 acc (termF (offs sm) B i) = some (addF acc (termF (offs sm) B i)) := had.1
                  have hr := fun w t => run_float_arith (P := Try.prog) w .add t .f64 _ _ _ hd
                  have hse := sec_eq (IntKind.i64.wrap (offs sm i - offs sm B))
                  have hsd : floatBits .quo .f64 (floatOfInt .f64 (IntKind.i64.wrap (offs sm i - offs sm B))) 4751297606875873280 = some (secF (IntKind.i64.wrap (offs sm i - offs sm B))) := hse.1
                  have hrs := fun w t => run_float_arith (P := Try.prog) w .quo t .f64 _ _ _ hsd
                  have hmd : floatBits .mul .f64 (secF (IntKind.i64.wrap (offs sm i - offs sm B))) (secF (IntKind.i64.wrap (offs sm i - offs sm B))) = some (termF (offs sm) B i) := (sq_eq hse.2).1
                  have hrm := fun w t => run_float_arith (P := Try.prog) w .mul t .f64 _ _ _ hmd
                  have HP2 := hid_of had.2
                  have q1 := (HCW.out i (by omega)).1
                  have hin : (i : Int) < k := by omega
                  generalize addF acc (termF (offs sm) B i) = acc2 at hr HP2 HS2
                  generalize termF (offs sm) B i = tm at hr hrm
                  generalize secF (IntKind.i64.wrap (offs sm i - offs sm B)) = se at hrs hrm
                  clear HS HT hd had HP hse hsd hmd
                  go_wp2
                  refine region_stillS (by kernel_rfl) (by kernel_rfl) ?_
                  repeat (apply StillS.step; intro K hK; constructor; go_simp; apply hK; clear hK K)
                  apply StillS.nil
                  go_wp2
                  go_roundw
                  case rel => exact ⟨i, acc2, by omega, rfl, rfl, HP2.out, HS2.out, m2 + 1, rfl⟩
                  case measure => simp [intOf]
end Go.Proofs.Ytjdcnlggpfkopaa
