/- Told texts, in any row's figures: what Read answers. -/
import Derived.Test.YtjdcnlggpfkopaaDoorRetB
namespace Go.Proofs.YtjdcnlggpfkopaaDoor
open Go.ChangeShapes Go.WideShapes Go.ChangeAt Go.RowKit
set_option linter.unusedVariables false

/-- The bytes of a figure of a row; the row's first rune. -/
def figBytes : Nat → Int → List Int
  | 0, d => [48 + d]
  | 1, d => [217, 160 + d]
  | 2, d => [219, 176 + d]
  | _, d => [239, 188, 144 + d]
def firstOf : Nat → Int
  | 0 => 48
  | 1 => 1632
  | 2 => 1776
  | _ => 65296
theorem fig_first (k : Nat) (d : Int) (h0 : 0 ≤ d) (h1 : d ≤ 9) : figOf (firstOf k + d) = d := by
  match k with
  | 0 => show figOf (48 + d) = d; rw [fig_at0 _ (by omega)]; omega
  | 1 => show figOf (1632 + d) = d; rw [fig_at1 _ (by omega)]; omega
  | 2 => show figOf (1776 + d) = d; rw [fig_at2 _ (by omega)]; omega
  | k + 3 => show figOf (65296 + d) = d; rw [fig_at3 _ (by omega)]; omega
theorem get_bytesOf (L : List Int) (i : Nat) (h : i < L.length) : ((bytesOf L).get! i).toNat = (L[i]).toNat % 256 := by
  have hs : i < (bytesOf L).size := by rw [bytesOf_size]; exact h
  rw [get_in _ i hs, ByteArray.getElem_eq_getElem_data, ← Array.getElem_toList]
  simp [bytesOf_data]
theorem dec_at (k : Nat) (d : Int) (pre post : List Int) (h0 : 0 ≤ d) (h1 : d ≤ 9) :
    Utf8.decode (bytesOf (pre ++ (figBytes k d ++ post))) pre.length = ((firstOf k + d).toNat, (figBytes k d).length) := by
  rw [dec_num, bytesOf_size]
  match k with
  | 0 =>
    have b0 := get_bytesOf (pre ++ ([48 + d] ++ post)) pre.length (by simp)
    rw [show (pre ++ ([48 + d] ++ post))[pre.length]'(by simp) = 48 + d by simp, show (48 + d).toNat % 256 = (48 + d).toNat by omega] at b0
    show decN _ _ _ ((bytesOf (pre ++ ([48 + d] ++ post))).get! pre.length).toNat _ _ _ = ((48 + d).toNat, 1)
    rw [b0]
    unfold decN
    rw [if_pos (by omega)]
  | 1 =>
    have b0 := get_bytesOf (pre ++ ([217, 160 + d] ++ post)) pre.length (by simp)
    have b1 := get_bytesOf (pre ++ ([217, 160 + d] ++ post)) (pre.length + 1) (by simp)
    rw [show (pre ++ ([217, 160 + d] ++ post))[pre.length]'(by simp) = 217 by simp, show (217 : Int).toNat % 256 = 217 by decide] at b0
    rw [show (pre ++ ([217, 160 + d] ++ post))[pre.length + 1]'(by simp) = 160 + d by simp, show (160 + d).toNat % 256 = (160 + d).toNat by omega] at b1
    show decN (decide (pre.length + 1 < (pre ++ ([217, 160 + d] ++ post)).length)) _ _ ((bytesOf (pre ++ ([217, 160 + d] ++ post))).get! pre.length).toNat ((bytesOf (pre ++ ([217, 160 + d] ++ post))).get! (pre.length + 1)).toNat _ _ = ((1632 + d).toNat, 2)
    rw [b0, b1, decide_eq_true (show pre.length + 1 < (pre ++ ([217, 160 + d] ++ post)).length by simp)]
    unfold decN
    rw [if_neg (by decide), if_pos (by simp; omega), if_pos (by omega)]
    exact Prod.ext (by simp only; omega) rfl
  | 2 =>
    have b0 := get_bytesOf (pre ++ ([219, 176 + d] ++ post)) pre.length (by simp)
    have b1 := get_bytesOf (pre ++ ([219, 176 + d] ++ post)) (pre.length + 1) (by simp)
    rw [show (pre ++ ([219, 176 + d] ++ post))[pre.length]'(by simp) = 219 by simp, show (219 : Int).toNat % 256 = 219 by decide] at b0
    rw [show (pre ++ ([219, 176 + d] ++ post))[pre.length + 1]'(by simp) = 176 + d by simp, show (176 + d).toNat % 256 = (176 + d).toNat by omega] at b1
    show decN (decide (pre.length + 1 < (pre ++ ([219, 176 + d] ++ post)).length)) _ _ ((bytesOf (pre ++ ([219, 176 + d] ++ post))).get! pre.length).toNat ((bytesOf (pre ++ ([219, 176 + d] ++ post))).get! (pre.length + 1)).toNat _ _ = ((1776 + d).toNat, 2)
    rw [b0, b1, decide_eq_true (show pre.length + 1 < (pre ++ ([219, 176 + d] ++ post)).length by simp)]
    unfold decN
    rw [if_neg (by decide), if_pos (by simp; omega), if_pos (by omega)]
    exact Prod.ext (by simp only; omega) rfl
  | k + 3 =>
    have b0 := get_bytesOf (pre ++ ([239, 188, 144 + d] ++ post)) pre.length (by simp)
    have b1 := get_bytesOf (pre ++ ([239, 188, 144 + d] ++ post)) (pre.length + 1) (by simp)
    have b2 := get_bytesOf (pre ++ ([239, 188, 144 + d] ++ post)) (pre.length + 2) (by simp)
    rw [show (pre ++ ([239, 188, 144 + d] ++ post))[pre.length]'(by simp) = 239 by simp, show (239 : Int).toNat % 256 = 239 by decide] at b0
    rw [show (pre ++ ([239, 188, 144 + d] ++ post))[pre.length + 1]'(by simp) = 188 by simp, show (188 : Int).toNat % 256 = 188 by decide] at b1
    rw [show (pre ++ ([239, 188, 144 + d] ++ post))[pre.length + 2]'(by simp) = 144 + d by simp, show (144 + d).toNat % 256 = (144 + d).toNat by omega] at b2
    show decN (decide (pre.length + 1 < (pre ++ ([239, 188, 144 + d] ++ post)).length)) (decide (pre.length + 2 < (pre ++ ([239, 188, 144 + d] ++ post)).length)) _ ((bytesOf (pre ++ ([239, 188, 144 + d] ++ post))).get! pre.length).toNat ((bytesOf (pre ++ ([239, 188, 144 + d] ++ post))).get! (pre.length + 1)).toNat ((bytesOf (pre ++ ([239, 188, 144 + d] ++ post))).get! (pre.length + 2)).toNat _ = ((65296 + d).toNat, 3)
    rw [b0, b1, b2, decide_eq_true (show pre.length + 1 < (pre ++ ([239, 188, 144 + d] ++ post)).length by simp), decide_eq_true (show pre.length + 2 < (pre ++ ([239, 188, 144 + d] ++ post)).length by simp)]
    unfold decN
    rw [if_neg (by decide), if_neg (by decide), if_pos (by simp; omega), if_pos (by simp [Utf8.valid]; omega)]
    exact Prod.ext (by simp only; omega) rfl
theorem fig_len (k : Nat) (d : Int) : 0 < (figBytes k d).length := by
  match k with
  | 0 => show 0 < 1; decide
  | 1 => show 0 < 2; decide
  | 2 => show 0 < 2; decide
  | k + 3 => show 0 < 3; decide
theorem first_pos (k : Nat) : 0 ≤ firstOf k := by
  match k with
  | 0 => decide
  | 1 => decide
  | 2 => decide
  | k + 3 => show (0 : Int) ≤ 65296; decide
/-- Figures of a row. -/
def figs (k : Nat) (D : List Int) : List Int := D.flatMap (figBytes k)
theorem digs_tail {d : Int} {D : List Int} (h : Digs (d :: D)) : (0 ≤ d ∧ d ≤ 9) ∧ Digs D := ⟨h d (by simp), fun x hx => h x (by simp [hx])⟩
theorem scan_sec (k : Nat) (T : Rd × Option Nat) (s : ByteArray) (D : List Int) : ∀ (pre post : List Int) (V N : Int), s = bytesOf (pre ++ (figs k D ++ post)) → Digs D → N + D.length ≤ 10 → At s T pre.length ⟨V, N, 0, 0, false⟩ →
    At s T (pre ++ figs k D).length ⟨V * 10 ^ D.length + valR D, N + D.length, 0, 0, false⟩ := by
  induction D with
  | nil =>
    intro pre post V N hs hD hN hA
    simpa [figs, valR] using hA
  | cons d D ih =>
    intro pre post V N hs hD hN hA
    obtain ⟨hd, hD'⟩ := digs_tail hD
    simp only [List.length_cons] at hN
    have hs2 : s = bytesOf (pre ++ (figBytes k d ++ (figs k D ++ post))) := by rw [hs]; simp [figs]
    have hdec : Utf8.decode s pre.length = ((firstOf k + d).toNat, (figBytes k d).length) := by rw [hs2]; exact dec_at k d pre _ hd.1 hd.2
    have hp : pre.length < s.size := by rw [hs2, bytesOf_size]; have := fig_len k d; simp; omega
    have hf := first_pos k
    have hc : ((Utf8.decode s pre.length).1 : Int) = firstOf k + d := by rw [hdec]; simp only; omega
    have hfig := fig_first k d hd.1 hd.2
    have h1 := at_step hA hp (by rw [hc]; exact step_sec V N _ (by rw [hfig]; exact hd.1) (by omega))
    rw [hfig, hdec] at h1
    simp only at h1
    have h2 := ih (pre ++ figBytes k d) post (V * 10 + d) (N + 1) (by rw [hs2]; simp) hD' (by omega) (by rw [List.length_append]; exact h1)
    have e1 : (pre ++ figBytes k d ++ figs k D) = pre ++ figs k (d :: D) := by simp [figs]
    have e2 : (V * 10 + d) * 10 ^ D.length + valR D = V * 10 ^ (d :: D).length + valR (d :: D) := by
      simp only [valR, List.length_cons, Int.pow_succ, Int.add_mul]
      rw [Int.mul_comm (10 ^ D.length) 10, ← Int.mul_assoc]; omega
    have e3 : N + 1 + (D.length : Int) = N + ((d :: D).length : Int) := by simp; omega
    rw [e1, e2, e3] at h2
    exact h2
theorem scan_frac (k : Nat) (T : Rd × Option Nat) (s : ByteArray) (V N : Int) (D : List Int) : ∀ (pre post : List Int) (F M : Int), s = bytesOf (pre ++ (figs k D ++ post)) → Digs D → M + D.length ≤ 12 → At s T pre.length ⟨V, N, F, M, true⟩ →
    At s T (pre ++ figs k D).length ⟨V, N, F * 10 ^ D.length + valR D, M + D.length, true⟩ := by
  induction D with
  | nil =>
    intro pre post F M hs hD hN hA
    simpa [figs, valR] using hA
  | cons d D ih =>
    intro pre post F M hs hD hN hA
    obtain ⟨hd, hD'⟩ := digs_tail hD
    simp only [List.length_cons] at hN
    have hs2 : s = bytesOf (pre ++ (figBytes k d ++ (figs k D ++ post))) := by rw [hs]; simp [figs]
    have hdec : Utf8.decode s pre.length = ((firstOf k + d).toNat, (figBytes k d).length) := by rw [hs2]; exact dec_at k d pre _ hd.1 hd.2
    have hp : pre.length < s.size := by rw [hs2, bytesOf_size]; have := fig_len k d; simp; omega
    have hf := first_pos k
    have hc : ((Utf8.decode s pre.length).1 : Int) = firstOf k + d := by rw [hdec]; simp only; omega
    have hfig := fig_first k d hd.1 hd.2
    have h1 := at_step hA hp (by rw [hc]; exact step_frac V N F M _ (by rw [hfig]; exact hd.1) (by omega))
    rw [hfig, hdec] at h1
    simp only at h1
    have h2 := ih (pre ++ figBytes k d) post (F * 10 + d) (M + 1) (by rw [hs2]; simp) hD' (by omega) (by rw [List.length_append]; exact h1)
    have e1 : (pre ++ figBytes k d ++ figs k D) = pre ++ figs k (d :: D) := by simp [figs]
    have e2 : (F * 10 + d) * 10 ^ D.length + valR D = F * 10 ^ (d :: D).length + valR (d :: D) := by
      simp only [valR, List.length_cons, Int.pow_succ, Int.add_mul]
      rw [Int.mul_comm (10 ^ D.length) 10, ← Int.mul_assoc]; omega
    have e3 : M + 1 + (D.length : Int) = M + ((d :: D).length : Int) := by simp; omega
    rw [e1, e2, e3] at h2
    exact h2
/-- A text of a row's figures, read. -/
theorem read_text (k : Nat) (D F : List Int) (hD : Digs D) (hF : Digs F) (hd0 : 0 < D.length) (hd1 : D.length ≤ 10) (hf0 : 0 < F.length) (hf1 : F.length ≤ 12) (hv : valR D ≤ 4294967295) :
    readOf (bytesOf (figs k D ++ 46 :: figs k F)) = (valR D * 4294967296 + (partsOf (valR F).toNat F.length : Nat), 0, 0) := by
  obtain ⟨s, hs⟩ : ∃ s, s = bytesOf (figs k D ++ 46 :: figs k F) := ⟨_, rfl⟩
  rw [← hs, readOf_T]
  obtain ⟨T, hT⟩ : ∃ T, T = scan s s.size 0 r0 := ⟨_, rfl⟩
  rw [← hT]
  have h0 : At s T ([] : List Int).length ⟨0, 0, 0, 0, false⟩ := ⟨s.size, by simp, hT.symm⟩
  have h1 := scan_sec k T s D [] (46 :: figs k F) 0 0 (by rw [hs]; simp) hD (by omega) h0
  simp only [Int.zero_mul, Int.zero_add, List.nil_append] at h1
  have hp : (figs k D).length < s.size := by rw [hs, bytesOf_size]; simp
  have hb : ((s[(figs k D).length]'hp).toNat : Int) = 46 := by
    rw [← get_in s _ hp, hs]
    have := get_bytesOf (figs k D ++ 46 :: figs k F) (figs k D).length (by simp)
    rw [this]; simp
  have hdec := rune46 s _ hp hb
  have h2 := at_step h1 hp (by rw [hdec]; exact step_point (valR D) D.length (by omega))
  rw [hdec] at h2
  simp only at h2
  have h3 := scan_frac k T s (valR D) D.length F (figs k D ++ [46]) [] 0 0 (by rw [hs]; simp) hF (by omega) (by simpa using h2)
  simp only [Int.zero_mul, Int.zero_add] at h3
  have hend := at_end h3 (by rw [hs, bytesOf_size]; simp)
  rw [hend]
  unfold readT
  simp only
  rw [if_neg (fun k => by
    rcases k with k | k
    · omega
    · have := k.2; omega), if_neg (by omega)]
  simp
end Go.Proofs.YtjdcnlggpfkopaaDoor
