/- Agreed: plain numbers: who allows the true time, who is far off. -/
import Derived.Test.YtjdcnlggpfkopabDoorCom
namespace Go.Proofs.YtjdcnlggpfkopabDoor
set_option linter.unusedVariables false

theorem count_all (md fa : Nat → Int) (x : Int) : ∀ k, (∀ i, i < k → md i - fa i ≤ x ∧ x ≤ md i + fa i) → countTo md fa x k = k
  | 0, _ => rfl
  | k + 1, h => by
    unfold countTo
    rw [if_pos (h k (by omega)), count_all md fa x k (fun i hi => h i (by omega))]
theorem last_begin (md fa : Nat → Int) : ∀ k, 0 < k → ∃ j, j < k ∧ ∀ i, i < k → md i - fa i ≤ md j - fa j
  | 0, h => by omega
  | k + 1, _ => by
    by_cases h0 : k = 0
    · subst h0
      exact ⟨0, by omega, fun i hi => by rw [show i = 0 by omega]; omega⟩
    · obtain ⟨j, hj, h⟩ := last_begin md fa k (by omega)
      by_cases hl : md k - fa k ≤ md j - fa j
      · exact ⟨j, by omega, fun i hi => by
          rcases Nat.lt_or_ge i k with h3 | h3
          · exact h i h3
          · rw [show i = k by omega]; exact hl⟩
      · exact ⟨k, by omega, fun i hi => by
          rcases Nat.lt_or_ge i k with h3 | h3
          · have := h i h3; omega
          · rw [show i = k by omega]; omega⟩
theorem first_last (md fa : Nat → Int) : ∀ k, 0 < k → ∃ j, j < k ∧ ∀ i, i < k → md j + fa j ≤ md i + fa i
  | 0, h => by omega
  | k + 1, _ => by
    by_cases h0 : k = 0
    · subst h0
      exact ⟨0, by omega, fun i hi => by rw [show i = 0 by omega]; omega⟩
    · obtain ⟨j, hj, h⟩ := first_last md fa k (by omega)
      by_cases hl : md j + fa j ≤ md k + fa k
      · exact ⟨j, by omega, fun i hi => by
          rcases Nat.lt_or_ge i k with h3 | h3
          · exact h i h3
          · rw [show i = k by omega]; exact hl⟩
      · exact ⟨k, by omega, fun i hi => by
          rcases Nat.lt_or_ge i k with h3 | h3
          · have := h i h3; omega
          · rw [show i = k by omega]; omega⟩
theorem lowTo_at (md fa : Nat → Int) (n : Nat) (e : Int) : ∀ k j, j < k → e ≤ (countTo md fa (md j - fa j) n : Int) → lowTo md fa n e k ≤ md j - fa j
  | 0, j, h, _ => by omega
  | k + 1, j, h, he => by
    unfold lowTo
    by_cases hk : j = k
    · subst hk; rw [if_pos he]; omega
    · have ih := lowTo_at md fa n e k j (by omega) he
      split <;> omega
theorem highTo_at (md fa : Nat → Int) (n : Nat) (e : Int) : ∀ k j, j < k → e ≤ (countTo md fa (md j + fa j) n : Int) → md j + fa j ≤ highTo md fa n e k
  | 0, j, h, _ => by omega
  | k + 1, j, h, he => by
    unfold highTo
    by_cases hk : j = k
    · subst hk; rw [if_pos he]; omega
    · have ih := highTo_at md fa n e k j (by omega) he
      split <;> omega
/-- All allow t. -/
def AllAllow (md fa : Nat → Int) (n : Nat) (t : Int) : Prop := ∀ j, j < n → md j - fa j ≤ t ∧ t ≤ md j + fa j
theorem all_low {md fa : Nat → Int} {n : Nat} {t e : Int} (h : AllAllow md fa n t) (h0 : 0 < n) (he : e ≤ n) : lowTo md fa n e n ≤ t ∧ t ≤ highTo md fa n e n := by
  obtain ⟨j, hj, h1⟩ := last_begin md fa n h0
  obtain ⟨i, hi, h2⟩ := first_last md fa n h0
  have c1 := count_all md fa (md j - fa j) n (fun k hk => ⟨h1 k hk, by have := h j hj; have := h k hk; omega⟩)
  have c2 := count_all md fa (md i + fa i) n (fun k hk => ⟨by have := h i hi; have := h k hk; omega, h2 k hk⟩)
  have l1 := lowTo_at md fa n e n j hj (by rw [c1]; exact he)
  have l2 := highTo_at md fa n e n i hi (by rw [c2]; exact he)
  have := h j hj
  have := h i hi
  omega
theorem agreed_one {md fa : Nat → Int} {n : Nat} {t : Int} (h : AllAllow md fa n t) (h0 : 0 < n) (h1 : n ≤ 32) (hg : ∀ j, j < n → Tame md fa j) :
    ((outOf md fa n).err = 10 ∨ ((outOf md fa n).err = 0 ∧ (outOf md fa n).low ≤ t ∧ t ≤ (outOf md fa n).high)) := by
  cases hs : selOf md fa n with
  | none => rw [out_none h0 h1 hg hs]; exact Or.inl rfl
  | some f =>
    rw [out_some h0 h1 hg hs]
    exact Or.inr ⟨rfl, all_low h h0 (by omega)⟩
theorem who_all (md : Nat → Int) (lo hi : Int) : ∀ k, (∀ j, j < k → lo ≤ md j ∧ md j ≤ hi) → (whoTo md lo hi k).length = k
  | 0, _ => rfl
  | k + 1, h => by
    unfold whoTo
    rw [if_pos (h k (by omega)), List.length_append, who_all md lo hi k (fun j hj => h j (by omega))]
    rfl
theorem agreed_two {fa : Nat → Int} {n : Nat} {t : Int} (h0 : 0 < n) (h1 : n ≤ 32) (hg : ∀ j, j < n → Tame (fun _ => t) fa j) :
    (outOf (fun _ => t) fa n).err = 0 ∧ (outOf (fun _ => t) fa n).who.length = n ∧ (outOf (fun _ => t) fa n).low ≤ t ∧ t ≤ (outOf (fun _ => t) fa n).high := by
  have h : AllAllow (fun _ => t) fa n t := fun j hj => by have := hg j hj; unfold Tame at this; dsimp only at this ⊢; omega
  have hb := all_low (e := (n : Int) - (0 : Nat)) h h0 (by omega)
  have hw : (whoOf (fun _ => t) fa n 0).length = n := who_all _ _ _ n (fun j hj => hb)
  have hs : selOf (fun _ => t) fa n = some 0 := sel_some (by omega) (by unfold okAt; rw [hw]; simp) (fun g hgg => by omega)
  rw [out_some h0 h1 hg hs]
  exact ⟨rfl, hw, hb⟩
/-- Four clocks, one of them far off. -/
def mdZ (t a : Int) : Nat → Int
  | 0 => t
  | 1 => t + a
  | 2 => t + 1
  | _ => t - 1
def faZ : Nat → Int := fun _ => 2
def Far (a : Int) : Prop := 10 ≤ a ∨ a ≤ -10
theorem z_count (t a x : Int) : countTo (mdZ t a) faZ x 4 = (if t - 2 ≤ x ∧ x ≤ t + 2 then 1 else 0) + (if t + a - 2 ≤ x ∧ x ≤ t + a + 2 then 1 else 0) + (if t - 1 ≤ x ∧ x ≤ t + 3 then 1 else 0) + (if t - 3 ≤ x ∧ x ≤ t + 1 then 1 else 0) := by
  have e2 : (t + 1 - 2 ≤ x ∧ x ≤ t + 1 + 2) = (t - 1 ≤ x ∧ x ≤ t + 3) := by apply propext; omega
  have e3 : (t - 1 - 2 ≤ x ∧ x ≤ t - 1 + 2) = (t - 3 ≤ x ∧ x ≤ t + 1) := by apply propext; omega
  simp only [countTo, mdZ, faZ, e2, e3]
  split <;> split <;> split <;> split <;> rfl
theorem z_low (t a : Int) (ha : Far a) : lowTo (mdZ t a) faZ 4 4 4 = 9223372036854775807 := by
  have z0 := z_count t a (t - 2)
  have z1 := z_count t a (t + a - 2)
  have z2 := z_count t a (t + 1 - 2)
  have z3 := z_count t a (t - 1 - 2)
  unfold Far at ha
  simp only [lowTo, mdZ, faZ] at *
  rw [if_neg (by rw [z3]; split <;> split <;> split <;> split <;> omega), if_neg (by rw [z2]; split <;> split <;> split <;> split <;> omega), if_neg (by rw [z1]; split <;> split <;> split <;> split <;> omega), if_neg (by rw [z0]; split <;> split <;> split <;> split <;> omega)]
theorem z_low3 (t a : Int) (ha : Far a) (h0 : -1000000000000000000 ≤ t) (h1 : t ≤ 1000000000000000000) : lowTo (mdZ t a) faZ 4 3 4 = t - 1 := by
  have z0 := z_count t a (t - 2)
  have z1 := z_count t a (t + a - 2)
  have z2 := z_count t a (t + 1 - 2)
  have z3 := z_count t a (t - 1 - 2)
  unfold Far at ha
  simp only [lowTo, mdZ, faZ] at *
  rw [if_neg (by rw [z3]; split <;> split <;> split <;> split <;> omega), if_pos (by rw [z2]; split <;> split <;> split <;> split <;> omega), if_neg (by rw [z1]; split <;> split <;> split <;> split <;> omega), if_neg (by rw [z0]; split <;> split <;> split <;> split <;> omega)]
  omega
theorem z_high3 (t a : Int) (ha : Far a) (h0 : -1000000000000000000 ≤ t) (h1 : t ≤ 1000000000000000000) : highTo (mdZ t a) faZ 4 3 4 = t + 1 := by
  have z0 := z_count t a (t + 2)
  have z1 := z_count t a (t + a + 2)
  have z2 := z_count t a (t + 1 + 2)
  have z3 := z_count t a (t - 1 + 2)
  unfold Far at ha
  simp only [highTo, mdZ, faZ] at *
  rw [if_pos (by rw [z3]; split <;> split <;> split <;> split <;> omega), if_neg (by rw [z2]; split <;> split <;> split <;> split <;> omega), if_neg (by rw [z1]; split <;> split <;> split <;> split <;> omega), if_neg (by rw [z0]; split <;> split <;> split <;> split <;> omega)]
  omega
theorem z_who (t a : Int) (ha : Far a) : whoTo (mdZ t a) (t - 1) (t + 1) 4 = [0, 2, 3] := by
  unfold Far at ha
  simp only [whoTo, mdZ]
  rw [if_pos (by omega), if_pos (by omega), if_neg (by omega), if_pos (by omega)]
  rfl
theorem z_good (t a : Int) (ha0 : -1000100 ≤ a) (ha1 : a ≤ 1000100) (h0 : -1000000000000000000 ≤ t) (h1 : t ≤ 1000000000000000000) : ∀ j, j < 4 → Tame (mdZ t a) faZ j := fun j hj => by
  unfold Tame faZ
  match j, hj with
  | 0, _ => simp only [mdZ]; omega
  | 1, _ => simp only [mdZ]; omega
  | 2, _ => simp only [mdZ]; omega
  | 3, _ => simp only [mdZ]; omega
  | j + 4, h => omega
theorem agreed_far (t a : Int) (ha : Far a) (ha0 : -1000100 ≤ a) (ha1 : a ≤ 1000100) (h0 : -1000000000000000000 ≤ t) (h1 : t ≤ 1000000000000000000) : outOf (mdZ t a) faZ 4 = ⟨t - 1, t + 1, [0, 2, 3], 0⟩ := by
  have hg := z_good t a ha0 ha1 h0 h1
  have hl : lowTo (mdZ t a) faZ 4 (((4 : Nat) : Int) - ((1 : Nat) : Int)) 4 = t - 1 := z_low3 t a ha h0 h1
  have hh : highTo (mdZ t a) faZ 4 (((4 : Nat) : Int) - ((1 : Nat) : Int)) 4 = t + 1 := z_high3 t a ha h0 h1
  have hw : whoOf (mdZ t a) faZ 4 1 = [0, 2, 3] := by
    unfold whoOf
    rw [hl, hh, z_who t a ha]
  have hn : whoOf (mdZ t a) faZ 4 0 = [] := by
    unfold whoOf
    refine who_none _ _ _ _ (fun j hj => ?_)
    have hz : lowTo (mdZ t a) faZ 4 (((4 : Nat) : Int) - ((0 : Nat) : Int)) 4 = 9223372036854775807 := z_low t a ha
    rw [hz]
    have := hg j hj
    unfold Tame at this
    omega
  have hs : selOf (mdZ t a) faZ 4 = some 1 := sel_some (by omega) (by unfold okAt; rw [hw]; rfl) (fun g hgg => by
    rw [show g = 0 by omega]
    unfold okAt
    rw [hn]; rfl)
  rw [out_some (by omega) (by omega) hg hs, hl, hh, hw]
end Go.Proofs.YtjdcnlggpfkopabDoor
