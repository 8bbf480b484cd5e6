/- Told texts: their figures as numbers; their order. -/
import Derived.Test.YtjdcnlggpfkopaaDoorRefRead
namespace Go.Proofs.YtjdcnlggpfkopaaDoor
open Go.ChangeShapes Go.WideShapes Go.ChangeAt Go.RowKit
set_option linter.unusedVariables false

/-- Figures in ASCII, as numbers. -/
def dv (l : List Int) : List Int := l.map (· - 48)
theorem dv_len (l : List Int) : (dv l).length = l.length := by simp [dv]
theorem dv_app (a b : List Int) : dv (a ++ b) = dv a ++ dv b := by simp [dv]
theorem dec_digs (u : Nat) : Digs (dv (decOf u)) := by
  induction u using Nat.strongRecOn with
  | _ u ih =>
    by_cases h : u < 10
    · rw [dec_small u h]
      intro d hd; simp [dv] at hd; omega
    · rw [dec_big u h, dv_app]
      intro d hd
      rcases List.mem_append.1 hd with h1 | h1
      · exact ih (u / 10) (by omega) d h1
      · simp [dv] at h1; omega
theorem dec_val (u : Nat) : valR (dv (decOf u)) = u := by
  induction u using Nat.strongRecOn with
  | _ u ih =>
    by_cases h : u < 10
    · rw [dec_small u h]; simp [dv, valR]; omega
    · rw [dec_big u h, dv_app, show dv [48 + (u : Int) % 10] = [(u : Int) % 10] by simp [dv]; omega, valR_snoc, ih (u / 10) (by omega)]
      omega
theorem dec_pos (u : Nat) : 0 < (decOf u).length := by
  by_cases h : u < 10
  · rw [dec_small u h]; simp
  · rw [dec_big u h]; simp
theorem frac_digs (k : Nat) (p : Int) (h0 : 0 ≤ p) (h1 : p < 4294967296) : Digs (dv (fracDigs k p)) := by
  induction k generalizing p with
  | zero => intro d hd; simp [fracDigs, dv] at hd
  | succ k ih =>
    intro d hd
    simp only [fracDigs, dv, List.map_cons, List.mem_cons] at hd
    rcases hd with rfl | hd
    · omega
    · exact ih (p * 10 % 4294967296) (by omega) (by omega) d hd
theorem frac_val (k : Nat) (p : Int) (h0 : 0 ≤ p) (h1 : p < 4294967296) : valR (dv (fracDigs k p)) = p * 10 ^ k / 4294967296 := by
  induction k generalizing p with
  | zero => simp [fracDigs, dv, valR]; omega
  | succ k ih =>
    have hi := ih (p * 10 % 4294967296) (by omega) (by omega)
    have e : dv (fracDigs (k + 1) p) = (p * 10 / 4294967296) :: dv (fracDigs k (p * 10 % 4294967296)) := by
      simp only [fracDigs, dv, List.map_cons]
      congr 1; omega
    rw [e]
    simp only [valR]
    rw [hi, dv_len, fracDigs_len]
    have hs : p * 10 ^ (k + 1) = (p * 10 % 4294967296) * 10 ^ k + (p * 10 / 4294967296 * 10 ^ k) * 4294967296 := by
      have h2 : p * 10 = p * 10 / 4294967296 * 4294967296 + p * 10 % 4294967296 := by omega
      rw [Int.pow_succ, Int.mul_comm (10 ^ k) 10, ← Int.mul_assoc]
      generalize p * 10 = y at h2 ⊢
      generalize y / 4294967296 = a at h2 ⊢
      generalize y % 4294967296 = b at h2 ⊢
      subst h2
      rw [Int.add_mul, Int.mul_right_comm]
      omega
    rw [hs, Int.add_mul_ediv_right _ _ (by decide)]
    omega
/-- Read of what Tell tells: one part less at most. -/
theorem parts_near (p : Int) (h0 : 0 ≤ p) (h1 : p < 4294967296) : 0 ≤ p - (partsOf (p * 10 ^ 10 / 4294967296).toNat 10 : Nat) ∧ p - (partsOf (p * 10 ^ 10 / 4294967296).toNat 10 : Nat) ≤ 1 := by
  unfold partsOf
  have e : (10 : Int) ^ 10 = 10000000000 := by decide
  have e2 : (10 : Nat) ^ (12 - 10) = 100 := by decide
  rw [e, e2]
  omega

/-- Lists of one length, in the alphabet. -/
def lexL : List Int → List Int → Bool
  | _, [] => false
  | [], _ :: _ => true
  | a :: x, b :: y => decide (a < b) || (decide (a = b) && lexL x y)
def Bytey (l : List Int) : Prop := ∀ x ∈ l, 0 ≤ x ∧ x ≤ 255
theorem byte_lt (a b : Int) (ha : 0 ≤ a ∧ a ≤ 255) (hb : 0 ≤ b ∧ b ≤ 255) : decide (UInt8.ofNat a.toNat < UInt8.ofNat b.toNat) = decide (a < b) := by
  have h1 : (UInt8.ofNat a.toNat).toNat = a.toNat := by simp; omega
  have h2 : (UInt8.ofNat b.toNat).toNat = b.toNat := by simp; omega
  rw [decide_eq_decide, UInt8.lt_iff_toNat_lt, h1, h2]; omega
theorem byte_eq (a b : Int) (ha : 0 ≤ a ∧ a ≤ 255) (hb : 0 ≤ b ∧ b ≤ 255) : (UInt8.ofNat a.toNat == UInt8.ofNat b.toNat) = decide (a = b) := by
  have h1 : (UInt8.ofNat a.toNat).toNat = a.toNat := by simp; omega
  have h2 : (UInt8.ofNat b.toNat).toNat = b.toNat := by simp; omega
  rw [Bool.eq_iff_iff, beq_iff_eq, decide_eq_true_eq, ← UInt8.toNat_inj, h1, h2]; omega
theorem less_bytes (a b : List Int) (ha : Bytey a) (hb : Bytey b) : Op.bytesLess (bytesOf a).toList (bytesOf b).toList = lexL a b := by
  rw [ByteArray.toList_eq, ByteArray.toList_eq, bytesOf_data, bytesOf_data]
  induction a generalizing b with
  | nil =>
    cases b with
    | nil => rfl
    | cons y b => rfl
  | cons x a ih =>
    cases b with
    | nil => rfl
    | cons y b =>
      simp only [List.map_cons, Op.bytesLess, lexL]
      rw [byte_lt x y (ha x (by simp)) (hb y (by simp)), byte_eq x y (ha x (by simp)) (hb y (by simp)), ih b (fun z hz => ha z (by simp [hz])) (fun z hz => hb z (by simp [hz]))]
theorem eq_bytes (a b : List Int) (ha : Bytey a) (hb : Bytey b) : ((bytesOf a).toList == (bytesOf b).toList) = decide (a = b) := by
  rw [ByteArray.toList_eq, ByteArray.toList_eq, bytesOf_data, bytesOf_data]
  induction a generalizing b with
  | nil =>
    cases b with
    | nil => rfl
    | cons y b => rfl
  | cons x a ih =>
    cases b with
    | nil => rfl
    | cons y b =>
      simp only [List.map_cons, List.cons_beq_cons]
      rw [byte_eq x y (ha x (by simp)) (hb y (by simp)), ih b (fun z hz => ha z (by simp [hz])) (fun z hz => hb z (by simp [hz]))]
      simp [Bool.decide_and]
theorem lex_app (a b c d : List Int) (h : a.length = b.length) : lexL (a ++ c) (b ++ d) = (lexL a b || (decide (a = b) && lexL c d)) := by
  induction a generalizing b with
  | nil =>
    cases b with
    | nil => simp [lexL]
    | cons y b => simp at h
  | cons x a ih =>
    cases b with
    | nil => simp at h
    | cons y b =>
      simp only [List.cons_append, lexL]
      rw [ih b (by simpa using h)]
      by_cases hxy : x = y
      · subst hxy; simp
      · simp [hxy]
theorem lex_val (a b : List Int) (h : a.length = b.length) (ha : Digs (dv a)) (hb : Digs (dv b)) : lexL a b = decide (valR (dv a) < valR (dv b)) ∧ (a = b ↔ valR (dv a) = valR (dv b)) := by
  induction a generalizing b with
  | nil =>
    cases b with
    | nil => simp [lexL]
    | cons y b => simp at h
  | cons x a ih =>
    cases b with
    | nil => simp at h
    | cons y b =>
      have hl : a.length = b.length := by simpa using h
      have ha' : Digs (dv a) := fun d hd => ha d (by simp [dv] at hd ⊢; right; exact hd)
      have hb' : Digs (dv b) := fun d hd => hb d (by simp [dv] at hd ⊢; right; exact hd)
      obtain ⟨h1, h2⟩ := ih b hl ha' hb'
      have ba := valR_bd (dv a) ha'
      have bb := valR_bd (dv b) hb'
      rw [dv_len] at ba bb
      rw [← hl] at bb
      have hx := ha (x - 48) (by simp [dv])
      have hy := hb (y - 48) (by simp [dv])
      have ea : valR (dv (x :: a)) = (x - 48) * 10 ^ a.length + valR (dv a) := by simp [dv, valR]
      have eb : valR (dv (y :: b)) = (y - 48) * 10 ^ a.length + valR (dv b) := by simp [dv, valR, hl]
      rw [ea, eb]
      simp only [lexL]
      rw [h1]
      generalize valR (dv a) = va at *
      generalize valR (dv b) = vb at *
      generalize (10 : Int) ^ a.length = P at *
      rcases Int.lt_trichotomy x y with hlt | heq | hgt
      · have hm : (x - 48) * P + P ≤ (y - 48) * P := by
          have : (x - 48 + 1) * P ≤ (y - 48) * P := Int.mul_le_mul_of_nonneg_right (by omega) (by omega)
          rw [Int.add_mul, Int.one_mul] at this; exact this
        refine ⟨?_, ?_⟩
        · simp only [hlt, decide_true, Bool.true_or]; symm; rw [decide_eq_true_eq]; omega
        · constructor
          · intro k; injection k with k1; omega
          · intro k; omega
      · subst heq
        refine ⟨?_, ?_⟩
        · simp only [Int.lt_irrefl, decide_false, Bool.false_or, decide_true, Bool.true_and, decide_eq_decide]; omega
        · rw [List.cons_inj_right, h2]; omega
      · have hm : (y - 48) * P + P ≤ (x - 48) * P := by
          have : (y - 48 + 1) * P ≤ (x - 48) * P := Int.mul_le_mul_of_nonneg_right (by omega) (by omega)
          rw [Int.add_mul, Int.one_mul] at this; exact this
        refine ⟨?_, ?_⟩
        · have n1 : ¬ x < y := by omega
          have n2 : ¬ x = y := by omega
          simp only [n1, n2, decide_false, Bool.false_and, Bool.or_false]; symm; rw [decide_eq_false_iff_not]; omega
        · constructor
          · intro k; injection k with k1; omega
          · intro k; omega
end Go.Proofs.YtjdcnlggpfkopaaDoor
