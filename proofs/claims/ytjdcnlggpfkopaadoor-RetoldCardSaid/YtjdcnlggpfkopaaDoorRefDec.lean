/- The figure at a place of a text: byte by byte, and rune by rune. -/
import Derived.Test.YtjdcnlggpfkopaaDoorRefFig
import Derived.Test.YtjdcnlggpfkopaaDoorReadB
namespace Go.Proofs.YtjdcnlggpfkopaaDoor
open Go.ChangeShapes Go.WideShapes Go.ChangeAt Go.RowKit
set_option linter.unusedVariables false

theorem get_in (s : ByteArray) (i : Nat) (h : i < s.size) : s.get! i = s[i]'h := getElem!_pos s.data i h
theorem ext1 (x : ByteArray) (h : 0 < x.size) : (x.extract 0 1).toList = [x[0]'h] := by
  rw [ByteArray.toList_eq, ByteArray.data_extract]
  obtain ⟨⟨l⟩⟩ := x
  match l, h with
  | a :: t, h => simp [ByteArray.getElem_eq_getElem_data]
theorem ext2 (x : ByteArray) (h : 1 < x.size) : (x.extract 0 2).toList = [x[0]'(by omega), x[1]'h] := by
  rw [ByteArray.toList_eq, ByteArray.data_extract]
  obtain ⟨⟨l⟩⟩ := x
  match l, h with
  | a :: b :: t, h => simp [ByteArray.getElem_eq_getElem_data]
theorem at_ext (s : ByteArray) (pos n : Nat) (h : n < (s.extract pos s.size).size) : ((s.extract pos s.size)[n]'h) = s.get! (pos + n) := by
  have hl : pos + n < s.size := by rw [ByteArray.size_extract] at h; omega
  rw [ByteArray.getElem_extract, get_in s (pos + n) hl]
theorem size_ext (s : ByteArray) (pos : Nat) : (s.extract pos s.size).size = s.size - pos := by rw [ByteArray.size_extract, Nat.min_self]

theorem row1 (s : ByteArray) (pos : Nat) (p : UInt8) (last : Int) (h : pos < s.size) :
    rowD (s.extract pos s.size) 1 [p] last = if pos + 1 < s.size ∧ (s.get! pos).toNat = p.toNat ∧ last ≤ ((s.get! (pos + 1)).toNat : Int) ∧ ((s.get! (pos + 1)).toNat : Int) ≤ last + 9 then some (((s.get! (pos + 1)).toNat : Int) - last) else none := by
  have hz := size_ext s pos
  unfold rowD
  by_cases h1 : 1 < (s.extract pos s.size).size
  · rw [dif_pos h1, ext1 _ (by omega), at_ext, at_ext, Nat.add_zero]
    by_cases h2 : s.get! pos = p
    · subst h2
      by_cases h3 : last ≤ ((s.get! (pos + 1)).toNat : Int) ∧ ((s.get! (pos + 1)).toNat : Int) ≤ last + 9
      · rw [if_pos ⟨rfl, by omega, by omega⟩, if_pos ⟨by omega, rfl, h3⟩]
      · rw [if_neg (fun k => h3 ⟨by omega, by omega⟩), if_neg (fun k => h3 k.2.2)]
    · rw [if_neg (fun k => h2 (by have := k.1; simpa using this)), if_neg (fun k => h2 (UInt8.toNat_inj.1 k.2.1))]
  · rw [dif_neg h1, if_neg (fun k => h1 (by omega))]
theorem row2 (s : ByteArray) (pos : Nat) (p q : UInt8) (last : Int) (h : pos < s.size) :
    rowD (s.extract pos s.size) 2 [p, q] last = if pos + 2 < s.size ∧ (s.get! pos).toNat = p.toNat ∧ (s.get! (pos + 1)).toNat = q.toNat ∧ last ≤ ((s.get! (pos + 2)).toNat : Int) ∧ ((s.get! (pos + 2)).toNat : Int) ≤ last + 9 then some (((s.get! (pos + 2)).toNat : Int) - last) else none := by
  have hz := size_ext s pos
  unfold rowD
  by_cases h1 : 2 < (s.extract pos s.size).size
  · rw [dif_pos h1, ext2 _ (by omega), at_ext, at_ext, at_ext, Nat.add_zero]
    by_cases h2 : s.get! pos = p ∧ s.get! (pos + 1) = q
    · obtain ⟨rfl, rfl⟩ := h2
      by_cases h3 : last ≤ ((s.get! (pos + 2)).toNat : Int) ∧ ((s.get! (pos + 2)).toNat : Int) ≤ last + 9
      · rw [if_pos ⟨rfl, by omega, by omega⟩, if_pos ⟨by omega, rfl, rfl, h3⟩]
      · rw [if_neg (fun k => h3 ⟨by omega, by omega⟩), if_neg (fun k => h3 k.2.2.2)]
    · rw [if_neg (fun k => h2 (by have := k.1; simpa using this)), if_neg (fun k => h2 ⟨UInt8.toNat_inj.1 k.2.1, UInt8.toNat_inj.1 k.2.2.1⟩)]
  · rw [dif_neg h1, if_neg (fun k => h1 (by omega))]

/-- What the document's figure answers. -/
def refFigOf (x : ByteArray) : Int × Int := if h : 0 < x.size then (if 48 ≤ ((x[0]'h).toNat : Int) ∧ ((x[0]'h).toNat : Int) ≤ 57 then (((x[0]'h).toNat : Int) - 48, 1) else figFrom x 0) else (-1, 0)
/-- The same of a rune: its figure, its width. -/
def runeFig (s : ByteArray) (pos : Nat) : Int × Int := if 0 ≤ figOf ((Utf8.decode s pos).1 : Int) then (figOf ((Utf8.decode s pos).1 : Int), ((Utf8.decode s pos).2 : Int)) else (-1, 0)
/-- The same of bytes, as numbers. -/
def numFig (z1 z2 : Bool) (b0 b1 b2 : Nat) : Int × Int :=
  if 48 ≤ b0 ∧ b0 ≤ 57 then ((b0 : Int) - 48, 1)
  else if z1 = true ∧ b0 = 217 ∧ 160 ≤ b1 ∧ b1 ≤ 169 then ((b1 : Int) - 160, 2)
  else if z1 = true ∧ b0 = 219 ∧ 176 ≤ b1 ∧ b1 ≤ 185 then ((b1 : Int) - 176, 2)
  else if z2 = true ∧ b0 = 239 ∧ b1 = 188 ∧ 144 ≤ b2 ∧ b2 ≤ 153 then ((b2 : Int) - 144, 3)
  else (-1, 0)
theorem ref_num (s : ByteArray) (pos : Nat) (h : pos < s.size) : refFigOf (s.extract pos s.size) = numFig (decide (pos + 1 < s.size)) (decide (pos + 2 < s.size)) (s.get! pos).toNat (s.get! (pos + 1)).toNat (s.get! (pos + 2)).toNat := by
  have hz := size_ext s pos
  unfold refFigOf numFig
  rw [dif_pos (by omega), at_ext, Nat.add_zero]
  simp only [figFrom, row1 s pos _ _ h, row2 s pos _ _ _ h, decide_eq_true_eq]
  have e1 : (217 : UInt8).toNat = 217 := rfl
  have e2 : (219 : UInt8).toNat = 219 := rfl
  have e3 : (239 : UInt8).toNat = 239 := rfl
  have e4 : (188 : UInt8).toNat = 188 := rfl
  rw [e1, e2, e3, e4]
  generalize (s.get! pos).toNat = b0
  generalize (s.get! (pos + 1)).toNat = b1
  generalize (s.get! (pos + 2)).toNat = b2
  by_cases c0 : 48 ≤ b0 ∧ b0 ≤ 57
  · rw [if_pos c0, if_pos (by omega)]
  · rw [if_neg c0, if_neg (by omega)]
    by_cases c1 : pos + 1 < s.size ∧ b0 = 217 ∧ 160 ≤ b1 ∧ b1 ≤ 169
    · rw [if_pos c1, if_pos ⟨c1.1, c1.2.1, by omega, by omega⟩]
    · rw [if_neg c1, if_neg (fun k => c1 ⟨k.1, k.2.1, by omega, by omega⟩)]
      by_cases c2 : pos + 1 < s.size ∧ b0 = 219 ∧ 176 ≤ b1 ∧ b1 ≤ 185
      · rw [if_pos c2, if_pos ⟨c2.1, c2.2.1, by omega, by omega⟩]
      · rw [if_neg c2, if_neg (fun k => c2 ⟨k.1, k.2.1, by omega, by omega⟩)]
        by_cases c3 : pos + 2 < s.size ∧ b0 = 239 ∧ b1 = 188 ∧ 144 ≤ b2 ∧ b2 ≤ 153
        · rw [if_pos c3, if_pos ⟨c3.1, c3.2.1, c3.2.2.1, by omega, by omega⟩]
        · rw [if_neg c3, if_neg (fun k => c3 ⟨k.1, k.2.1, k.2.2.1, by omega, by omega⟩)]

/-- A rune put together out of numbers, as the model does. -/
def decN (z1 z2 z3 : Bool) (b0 b1 b2 b3 : Nat) : Nat × Nat :=
  if b0 < 0x80 then (b0, 1)
  else if b0 / 32 == 6 && (z1 && b1 / 64 == 2) then
    if (b0 % 32) * 64 + b1 % 64 ≥ 0x80 then ((b0 % 32) * 64 + b1 % 64, 2) else (Utf8.runeError, 1)
  else if b0 / 16 == 14 && (z1 && b1 / 64 == 2) && (z2 && b2 / 64 == 2) then
    if (b0 % 16) * 4096 + (b1 % 64) * 64 + b2 % 64 ≥ 0x800 && Utf8.valid (((b0 % 16) * 4096 + (b1 % 64) * 64 + b2 % 64 : Nat) : Int) then ((b0 % 16) * 4096 + (b1 % 64) * 64 + b2 % 64, 3) else (Utf8.runeError, 1)
  else if b0 / 8 == 30 && (z1 && b1 / 64 == 2) && (z2 && b2 / 64 == 2) && (z3 && b3 / 64 == 2) then
    if (b0 % 8) * 262144 + (b1 % 64) * 4096 + (b2 % 64) * 64 + b3 % 64 ≥ 0x10000 && Utf8.valid (((b0 % 8) * 262144 + (b1 % 64) * 4096 + (b2 % 64) * 64 + b3 % 64 : Nat) : Int) then ((b0 % 8) * 262144 + (b1 % 64) * 4096 + (b2 % 64) * 64 + b3 % 64, 4) else (Utf8.runeError, 1)
  else (Utf8.runeError, 1)
theorem dec_num (s : ByteArray) (pos : Nat) : Utf8.decode s pos = decN (decide (pos + 1 < s.size)) (decide (pos + 2 < s.size)) (decide (pos + 3 < s.size)) (s.get! pos).toNat (s.get! (pos + 1)).toNat (s.get! (pos + 2)).toNat (s.get! (pos + 3)).toNat := rfl
theorem fig_none (c : Int) (h0 : ¬ (48 ≤ c ∧ c ≤ 57)) (h1 : ¬ (1632 ≤ c ∧ c ≤ 1641)) (h2 : ¬ (1776 ≤ c ∧ c ≤ 1785)) (h3 : ¬ (65296 ≤ c ∧ c ≤ 65305)) : ¬ 0 ≤ figOf c := by
  unfold figOf; rw [if_neg h0, if_neg h1, if_neg h2, if_neg h3]; decide
theorem fig_at0 (c : Int) (h : 48 ≤ c ∧ c ≤ 57) : figOf c = c - 48 := by unfold figOf; rw [if_pos h]
theorem fig_at1 (c : Int) (h : 1632 ≤ c ∧ c ≤ 1641) : figOf c = c - 1632 := by unfold figOf; rw [if_neg (by omega), if_pos h]
theorem fig_at2 (c : Int) (h : 1776 ≤ c ∧ c ≤ 1785) : figOf c = c - 1776 := by unfold figOf; rw [if_neg (by omega), if_neg (by omega), if_pos h]
theorem fig_at3 (c : Int) (h : 65296 ≤ c ∧ c ≤ 65305) : figOf c = c - 65296 := by unfold figOf; rw [if_neg (by omega), if_neg (by omega), if_neg (by omega), if_pos h]
theorem num_fig (z1 z2 z3 : Bool) (b0 b1 b2 b3 : Nat) (h0 : b0 < 256) (h1 : b1 < 256) (h2 : b2 < 256) (h3 : b3 < 256) (hz : z2 = true → z1 = true) :
    (if 0 ≤ figOf ((decN z1 z2 z3 b0 b1 b2 b3).1 : Int) then (figOf ((decN z1 z2 z3 b0 b1 b2 b3).1 : Int), ((decN z1 z2 z3 b0 b1 b2 b3).2 : Int)) else (-1, 0)) = numFig z1 z2 b0 b1 b2 := by
  unfold numFig
  by_cases c0 : 48 ≤ b0 ∧ b0 ≤ 57
  · have hd : decN z1 z2 z3 b0 b1 b2 b3 = (b0, 1) := by unfold decN; rw [if_pos (by omega)]
    rw [if_pos c0, hd, fig_at0 _ (by omega), if_pos (by omega)]; rfl
  · rw [if_neg c0]
    by_cases c1 : z1 = true ∧ b0 = 217 ∧ 160 ≤ b1 ∧ b1 ≤ 169
    · obtain ⟨rfl, rfl, k1, k2⟩ := c1
      have hd : decN true z2 z3 217 b1 b2 b3 = (1472 + b1, 2) := by
        unfold decN
        rw [if_neg (by decide), if_pos (by simp; omega), if_pos (by omega), show 217 % 32 * 64 + b1 % 64 = 1472 + b1 by omega]
      rw [hd, fig_at1 _ (by simp only; omega), if_pos (by simp only; omega), if_pos ⟨rfl, rfl, k1, k2⟩]
      exact Prod.ext (by simp only; omega) rfl
    · rw [if_neg c1]
      by_cases c2 : z1 = true ∧ b0 = 219 ∧ 176 ≤ b1 ∧ b1 ≤ 185
      · obtain ⟨rfl, rfl, k1, k2⟩ := c2
        have hd : decN true z2 z3 219 b1 b2 b3 = (1600 + b1, 2) := by
          unfold decN
          rw [if_neg (by decide), if_pos (by simp; omega), if_pos (by omega), show 219 % 32 * 64 + b1 % 64 = 1600 + b1 by omega]
        rw [hd, fig_at2 _ (by simp only; omega), if_pos (by simp only; omega), if_pos ⟨rfl, rfl, k1, k2⟩]
        exact Prod.ext (by simp only; omega) rfl
      · rw [if_neg c2]
        by_cases c3 : z2 = true ∧ b0 = 239 ∧ b1 = 188 ∧ 144 ≤ b2 ∧ b2 ≤ 153
        · obtain ⟨rfl, rfl, rfl, k1, k2⟩ := c3
          obtain rfl : z1 = true := hz rfl
          have hd : decN true true z3 239 188 b2 b3 = (65152 + b2, 3) := by
            unfold decN
            rw [if_neg (by decide), if_neg (by decide), if_pos (by simp; omega), if_pos (by simp [Utf8.valid]; omega), show 239 % 16 * 4096 + 188 % 64 * 64 + b2 % 64 = 65152 + b2 by omega]
          rw [hd, fig_at3 _ (by simp only; omega), if_pos (by simp only; omega), if_pos ⟨rfl, rfl, rfl, k1, k2⟩]
          exact Prod.ext (by simp only; omega) rfl
        · rw [if_neg c3]
          refine if_neg ?_
          have key : ¬ (48 ≤ (decN z1 z2 z3 b0 b1 b2 b3).1 ∧ (decN z1 z2 z3 b0 b1 b2 b3).1 ≤ 57) ∧ ¬ (1632 ≤ (decN z1 z2 z3 b0 b1 b2 b3).1 ∧ (decN z1 z2 z3 b0 b1 b2 b3).1 ≤ 1641) ∧ ¬ (1776 ≤ (decN z1 z2 z3 b0 b1 b2 b3).1 ∧ (decN z1 z2 z3 b0 b1 b2 b3).1 ≤ 1785) ∧ ¬ (65296 ≤ (decN z1 z2 z3 b0 b1 b2 b3).1 ∧ (decN z1 z2 z3 b0 b1 b2 b3).1 ≤ 65305) := by
            unfold decN
            split
            · simp only; omega
            · rename_i n0
              split
              · rename_i n1
                simp only [Bool.and_eq_true, beq_iff_eq] at n1
                obtain ⟨m1, m2, m3⟩ := n1
                subst m2
                split
                · simp only
                  have q1 : ¬ (b0 = 217 ∧ 160 ≤ b1 ∧ b1 ≤ 169) := fun k => c1 ⟨rfl, k⟩
                  have q2 : ¬ (b0 = 219 ∧ 176 ≤ b1 ∧ b1 ≤ 185) := fun k => c2 ⟨rfl, k⟩
                  clear c1 c2 c3 hz
                  omega
                · simp only [Utf8.runeError]; omega
              · split
                · rename_i n1 n2
                  simp only [Bool.and_eq_true, beq_iff_eq] at n2
                  obtain ⟨⟨m1, m2, m3⟩, m4, m5⟩ := n2
                  subst m2
                  subst m4
                  split
                  · rename_i n3
                    simp only [Bool.and_eq_true, decide_eq_true_eq] at n3
                    have n4 := n3.1
                    have q3 : ¬ (b0 = 239 ∧ b1 = 188 ∧ 144 ≤ b2 ∧ b2 ≤ 153) := fun k => c3 ⟨rfl, k⟩
                    clear c1 c2 c3 hz n1 n3
                    simp only
                    omega
                  · simp only [Utf8.runeError]; omega
                · split
                  · split
                    · rename_i n3
                      simp only [Bool.and_eq_true, decide_eq_true_eq] at n3
                      have n4 := n3.1
                      clear c1 c2 c3 hz n3
                      simp only
                      omega
                    · simp only [Utf8.runeError]; omega
                  · simp only [Utf8.runeError]; omega
          exact fig_none _ (by omega) (by omega) (by omega) (by omega)
/-- Byte by byte and rune by rune are one. -/
theorem fig_agree (s : ByteArray) (pos : Nat) (h : pos < s.size) : refFigOf (s.extract pos s.size) = runeFig s pos := by
  rw [ref_num s pos h]
  unfold runeFig
  rw [dec_num]
  exact (num_fig _ _ _ _ _ _ _ (UInt8.toNat_lt _) (UInt8.toNat_lt _) (UInt8.toNat_lt _) (UInt8.toNat_lt _) (by simp only [decide_eq_true_eq]; omega)).symm
end Go.Proofs.YtjdcnlggpfkopaaDoor
