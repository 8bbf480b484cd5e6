/- How much the samples differ: the code's. -/
import Derived.Test.YtjdcnlggpfkopaaPeerD
import Derived.Test.YtjdcnlggpfkopaaFlt
import Derived.Laws.Externs
namespace Go.Proofs.Ytjdcnlggpfkopaa
open Go.ChangeShapes Go.WideShapes Go.ChangeAt Go.RowKit
set_option linter.unusedVariables false

def secF (n : Int) : Nat := (Ieee.double.div (floatOfInt .f64 n) 4751297606875873280).getD 0
theorem sec_eq (n : Int) : Ieee.double.div (floatOfInt .f64 n) 4751297606875873280 = some (secF n) ∧ FinF (secF n) := by
  obtain ⟨z, h1, h2⟩ := div_fin (ofInt_fin n) read_part (by decide)
  unfold secF
  rw [h1]; exact ⟨rfl, h2⟩
def sqF (x : Nat) : Nat := (Ieee.double.mul x x).getD 0
theorem sq_eq {x : Nat} (h : FinF x) : Ieee.double.mul x x = some (sqF x) ∧ PosF (sqF x) := by
  obtain ⟨z, h1, h2⟩ := mul_self h
  unfold sqF
  rw [h1]; exact ⟨rfl, h2⟩
def addF (x y : Nat) : Nat := (Ieee.double.add x y).getD 0
theorem add_eq {x y : Nat} (hx : PosF x) (hy : PosF y) : Ieee.double.add x y = some (addF x y) ∧ PosF (addF x y) := by
  obtain ⟨z, h1, h2⟩ := add_pos hx hy
  unfold addF
  rw [h1]; exact ⟨rfl, h2⟩
def divF (x n : Nat) : Nat := (Ieee.double.div x (floatOfInt .f64 n)).getD 0
theorem div_eq {x n : Nat} (hx : PosF x) (h1 : 1 ≤ n) (h2 : n ≤ 8) : Ieee.double.div x (floatOfInt .f64 n) = some (divF x n) ∧ PosF (divF x n) := by
  obtain ⟨m, p, hr, hm⟩ := read_few n h1 h2
  obtain ⟨z, e1, e2⟩ := div_pos hx hr hm
  unfold divF
  rw [e1]; exact ⟨rfl, e2⟩
def sqrtF (x : Nat) : Nat := (Ieee.double.sqrt x).getD 0
theorem sqrt_eq {x : Nat} (h : PosF x) : Ieee.double.sqrt x = some (sqrtF x) ∧ PosF (sqrtF x) := by
  obtain ⟨z, h1, h2⟩ := sqrt_pos h
  unfold sqrtF
  rw [h1]; exact ⟨rfl, h2⟩
/-- One difference, squared. -/
def termF (of : Nat → Int) (B i : Nat) : Nat := sqF (secF (IntKind.i64.wrap (of i - of B)))
theorem term_pos (of : Nat → Int) (B i : Nat) : PosF (termF of B i) := (sq_eq (sec_eq _).2).2
/-- The sum, from place i - 1 down. -/
def sumDown (of : Nat → Int) (B : Nat) : Nat → Nat → Nat
  | 0, acc => acc
  | i + 1, acc => sumDown of B i (if i = B then acc else addF acc (termF of B i))
theorem below_drewN' {B : Nat} {a w : World} (h : Below B a w) (n : Nat) : Below B a (w.drewN n) := h.trans ⟨rfl, rfl, rfl, Nat.le_refl _, fun _ _ => rfl⟩
theorem zero_pos : PosF 0 := Nat.zero_le _

set_option maxRecDepth 100000 in
theorem seconds_any (n : Int) (w : World) :
    Calls Try.prog 97 #[.int .i64 n] w fun e w' => e = .returned (.float .f64 (secF n)) ∧ w' = w := by
  have hd : floatBits .quo .f64 (floatOfInt .f64 n) 4751297606875873280 = some (secF n) := (sec_eq n).1
  have hr := fun w t => run_float_arith (P := Try.prog) w .quo t .f64 _ _ _ hd
  go_enter Try.func97, Try.ntmps97
  go_wp2
  go_ret
  exact ⟨rfl, rfl⟩
set_option maxRecDepth 100000 in
theorem square_any (x : Nat) (w : World) (h : FinF x) :
    Calls Try.prog 96 #[.float .f64 x] w fun e w' => e = .returned (.float .f64 (sqF x)) ∧ w' = w := by
  have hd : floatBits .mul .f64 x x = some (sqF x) := (sq_eq h).1
  have hr := fun w t => run_float_arith (P := Try.prog) w .mul t .f64 _ _ _ hd
  go_enter Try.func96, Try.ntmps96
  go_wp2
  go_ret
  exact ⟨rfl, rfl⟩
theorem call_sqrt (x : Nat) (h : PosF x) (w : World) : (callFunc 88 #[.float .f64 x]).run Try.prog w = .ok (.value (.float .f64 (sqrtF x))) w := by
  rw [run_callFunc_extern (e := Extern.MathSqrt.sqrt) Try.func88 (by kernel_rfl) (by kernel_rfl) (by kernel_rfl) (by kernel_rfl)]
  have hs : FloatKind.f64.format.sqrt x = some (sqrtF x) := (sqrt_eq h).1
  have e : Extern.MathSqrt.sqrt #[.float .f64 x] = (match FloatKind.f64.format.sqrt x with
    | some r => pure (.float .f64 r)
    | none => do pure (.float .f64 (← choose (.nanBits .f64 x x)))) := rfl
  rw [e, hs]
  rfl
set_option maxRecDepth 100000 in
theorem sqrt_any (x : Nat) (w : World) (h : PosF x) :
    Calls Try.prog 69 #[.float .f64 x] w fun e w' => e = .returned (.float .f64 (sqrtF x)) ∧ w' = w := by
  have hc := call_sqrt x h
  clear h
  go_enter Try.func69, Try.ntmps69
  go_wp2
  go_ret
  exact ⟨rfl, rfl⟩
/-- What spread answers. -/
def spreadOf (of : Nat → Int) (B n : Nat) : Nat := sqrtF (divF (sumDown of B n 0) (n - 1))
theorem sum_pos (of : Nat → Int) (B : Nat) : ∀ i acc, PosF acc → PosF (sumDown of B i acc)
  | 0, acc, h => h
  | i + 1, acc, h => by
    unfold sumDown
    refine sum_pos of B i _ ?_
    split
    · exact h
    · exact (add_eq h (term_pos of B i)).2
theorem spread_pos (of : Nat → Int) (B n : Nat) (h : 2 ≤ n) (h2 : n ≤ 8) : PosF (spreadOf of B n) := (sqrt_eq (div_eq (sum_pos of B n 0 zero_pos) (by omega) (by omega)).2).2

set_option maxRecDepth 100000 in
set_option maxHeartbeats 800000 in
theorem spread_any (b n : Nat) (of dl : Nat → Int) (B : Nat) (w : World) (hn : n ≤ 8) (h2 : 2 ≤ n) (hB : B < n) (hcell : ∀ j, j < n → w.cell? ⟨b, 2 + j * 2, none⟩ = some (.int .i64 (of j)) ∧ w.cell? ⟨b, 2 + j * 2 + 1, none⟩ = some (.int .i64 (dl j))) :
    Calls Try.prog 87 #[.slice (some ⟨b, 2, none⟩) n 8, .int .i64 B] w fun r w' => r = .returned (.float .f64 (spreadOf of B n)) ∧ ∃ m, w' = w.drewN m := by
  have HC : Hid (∀ j, j < n → w.cell? ⟨b, 2 + j * 2, none⟩ = some (.int .i64 (of j)) ∧ w.cell? ⟨b, 2 + j * 2 + 1, none⟩ = some (.int .i64 (dl j))) := hcell
  have hb : b < w.heap.size := World.block_lt_of_cell? w _ (hcell B hB).1
  have hn1 : ¬ (n : Int) - 1 = 0 := by omega
  have hn2 : ((n : Int) - 1 == 0) = false := by simp only [beq_eq_false_iff_ne]; exact hn1
  have hB' : (B : Int) < n := by omega
  obtain ⟨T, hT⟩ : ∃ T, T = sumDown of B n 0 := ⟨_, rfl⟩
  have HT := hid_of hT
  clear hcell hT
  go_enter Try.func87, Try.ntmps87
  go_wp2
  go_loopw [6, 7] (fun sv i wr => ∃ (k acc : Nat), k ≤ n ∧ i = .int .i64 ((k : Int) - 1) ∧ sv = .float .f64 acc ∧ Hid (PosF acc) ∧ Hid (sumDown of B k acc = T) ∧ ∃ m, wr = w.drewN m) (fun _ i _ => ((intOf i) + 1).toNat)
  case atStart => exact ⟨n, 0, Nat.le_refl _, rfl, rfl, zero_pos, HT.out.symm, 0, rfl⟩
  case round =>
    obtain ⟨k, acc, hk, rfl, rfl, HP, HS, m, rfl⟩ := hrel
    match k, hk, HS with
    | 0, hk, HS =>
      have hT : acc = T := HS.out
      subst hT
      have hdv := div_eq HP.out (n := n - 1) (by omega) (by omega)
      have hd : floatBits .quo .f64 acc (floatOfInt .f64 ((n : Int) - 1)) = some (divF acc (n - 1)) := by
        have := hdv.1
        rw [show (((n - 1 : Nat) : Nat) : Int) = (n : Int) - 1 by omega] at this
        exact this
      have hr := fun w t => run_float_arith (P := Try.prog) w .quo t .f64 _ _ _ hd
      have HQ := hid_of hdv.2
      have HE : Hid (spreadOf of B n = sqrtF (divF acc (n - 1))) := by show _ = _; unfold spreadOf; rw [← HT.out]
      clear hd hdv HC HS HP HT
      go_wp2_with fail
      refine (sqrt_any _ _ HQ.out).mono ?_
      rintro e w1 ⟨rfl, rfl⟩
      go_wp2
      go_ret
      rw [HE.out]
      exact ⟨rfl, m, rfl⟩
    | i + 1, hk, HS =>
      rw [show (((i + 1 : Nat) : Int) - 1) = (i : Int) by omega]
      have hi0 : (0 : Int) ≤ i := by omega
      by_cases hiB : i = B
      · have HS2 : Hid (sumDown of B i acc = T) := by have := HS.out; unfold sumDown at this; rw [if_pos hiB] at this; exact this
        have hib : ((i : Int) != (B : Int)) = false := by subst hiB; simp
        clear HS HC HT
        go_wp2
        go_roundw
        case rel => exact ⟨i, acc, by omega, by rw [hiB], rfl, HP.out, HS2.out, m, rfl⟩
        case measure => simp [intOf]; omega
      · have hib : ((i : Int) != (B : Int)) = true := by simp only [bne_iff_ne, ne_eq]; omega
        have had := add_eq HP.out (term_pos of B i)
        have HS2 : Hid (sumDown of B i (addF acc (termF of B i)) = T) := by have := HS.out; unfold sumDown at this; rw [if_neg hiB] at this; exact this
        have hd : floatBits .add .f64 acc (termF of B i) = some (addF acc (termF of B i)) := had.1
        have hr := fun w t => run_float_arith (P := Try.prog) w .add t .f64 _ _ _ hd
        have HP2 := hid_of had.2
        have c1 : w.cell? ⟨b, 2 + i * 2, none⟩ = some (.int .i64 (of i)) := (HC.out i (by omega)).1
        have c2 : w.cell? ⟨b, 2 + B * 2, none⟩ = some (.int .i64 (of B)) := (HC.out B hB).1
        have hin : (i : Int) < n := by omega
        have HTM : Hid (sqF (secF (IntKind.i64.wrap (of i - of B))) = termF of B i) := rfl
        generalize addF acc (termF of B i) = acc2 at hr HP2 HS2
        generalize termF of B i = tm at hr HTM
        clear HS HC HT hd had HP
        go_wp2
        refine region_stillS (by kernel_rfl) (by kernel_rfl) ?_
        repeat (apply StillS.step; intro K hK; constructor; go_simp; apply hK; clear hK K)
        apply StillS.step
        intro K hK
        constructor
        go_simp
        refine ⟨_, seconds_any _ _, ?_⟩
        apply hK
        clear hK K
        apply StillS.step
        intro K hK
        constructor
        go_simp
        refine ⟨_, square_any _ _ (sec_eq _).2, ?_⟩
        apply hK
        clear hK K
        rw [HTM.out]
        repeat (apply StillS.step; intro K hK; constructor; go_simp; apply hK; clear hK K)
        apply StillS.nil
        go_wp2
        go_roundw
        case rel => exact ⟨i, acc2, by omega, rfl, rfl, HP2.out, HS2.out, m + 1, rfl⟩
        case measure => simp [intOf]
end Go.Proofs.Ytjdcnlggpfkopaa
