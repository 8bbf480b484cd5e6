/- Many clocks: what enough of them allow, and who is chosen: plain numbers. -/
import Derived.Test.YtjdcnlggpfkopaaRows
namespace Go.Proofs.Ytjdcnlggpfkopaa
set_option linter.unusedVariables false

/-- How many of the first k clocks allow x. -/
def countTo (md fa : Nat → Int) (x : Int) : Nat → Nat
  | 0 => 0
  | k + 1 => if md k - fa k ≤ x ∧ x ≤ md k + fa k then countTo md fa x k + 1 else countTo md fa x k
theorem countTo_le (md fa : Nat → Int) (x : Int) : ∀ k, countTo md fa x k ≤ k
  | 0 => Nat.le_refl _
  | k + 1 => by
    unfold countTo
    have := countTo_le md fa x k
    split <;> omega
/-- The least beginning among the first k that e of the n allow. -/
def lowTo (md fa : Nat → Int) (n : Nat) (e : Int) : Nat → Int
  | 0 => 9223372036854775807
  | k + 1 => if e ≤ (countTo md fa (md k - fa k) n : Int) then min (lowTo md fa n e k) (md k - fa k) else lowTo md fa n e k
/-- The greatest end likewise. -/
def highTo (md fa : Nat → Int) (n : Nat) (e : Int) : Nat → Int
  | 0 => -9223372036854775808
  | k + 1 => if e ≤ (countTo md fa (md k + fa k) n : Int) then max (highTo md fa n e k) (md k + fa k) else highTo md fa n e k
/-- The places of the first k whose Mid lies from lo to hi. -/
def whoTo (md : Nat → Int) (lo hi : Int) : Nat → List Nat
  | 0 => []
  | k + 1 => if lo ≤ md k ∧ md k ≤ hi then whoTo md lo hi k ++ [k] else whoTo md lo hi k
theorem whoTo_len (md : Nat → Int) (lo hi : Int) : ∀ k, (whoTo md lo hi k).length ≤ k
  | 0 => Nat.le_refl _
  | k + 1 => by
    unfold whoTo
    have := whoTo_len md lo hi k
    split <;> simp <;> omega
theorem whoTo_lt (md : Nat → Int) (lo hi : Int) : ∀ k, ∀ x ∈ whoTo md lo hi k, x < k
  | 0, x, h => by simp [whoTo] at h
  | k + 1, x, h => by
    unfold whoTo at h
    have ih := whoTo_lt md lo hi k
    split at h
    · rw [List.mem_append] at h
      rcases h with h | h
      · have := ih x h; omega
      · simp at h; omega
    · have := ih x h; omega
/-- A clock within its bounds. -/
def Tame (md fa : Nat → Int) (j : Nat) : Prop := -2305843009213693952 ≤ md j ∧ md j ≤ 2305843009213693952 ∧ 0 ≤ fa j ∧ fa j ≤ 2305843009213693952
theorem lowTo_le (md fa : Nat → Int) (n : Nat) (e : Int) (hg : ∀ j, j < n → Tame md fa j) : ∀ k, k ≤ n → -4611686018427387904 ≤ lowTo md fa n e k ∧ lowTo md fa n e k ≤ 9223372036854775807
  | 0, _ => by unfold lowTo; omega
  | k + 1, h => by
    have ih := lowTo_le md fa n e hg k (by omega)
    obtain ⟨g1, g2, g3, g4⟩ := hg k (by omega)
    unfold lowTo
    split <;> omega
theorem highTo_le (md fa : Nat → Int) (n : Nat) (e : Int) (hg : ∀ j, j < n → Tame md fa j) : ∀ k, k ≤ n → -9223372036854775808 ≤ highTo md fa n e k ∧ highTo md fa n e k ≤ 4611686018427387904
  | 0, _ => by unfold highTo; omega
  | k + 1, h => by
    have ih := highTo_le md fa n e hg k (by omega)
    obtain ⟨g1, g2, g3, g4⟩ := hg k (by omega)
    unfold highTo
    split <;> omega
/-- Nothing is there yet, or it is what the least is. -/
def LowSt (md fa : Nat → Int) (n : Nat) (e : Int) (k : Nat) (any : Bool) (x : Int) : Prop := (any = false ∧ lowTo md fa n e k = 9223372036854775807) ∨ (any = true ∧ x = lowTo md fa n e k ∧ x ≤ 4611686018427387904)
def HighSt (md fa : Nat → Int) (n : Nat) (e : Int) (k : Nat) (any : Bool) (x : Int) : Prop := (any = false ∧ highTo md fa n e k = -9223372036854775808) ∨ (any = true ∧ x = highTo md fa n e k ∧ -4611686018427387904 ≤ x)
theorem low_no {md fa : Nat → Int} {n : Nat} {e : Int} {k : Nat} {any : Bool} {x : Int} (h : LowSt md fa n e k any x) (hk : ¬ e ≤ (countTo md fa (md k - fa k) n : Int)) : LowSt md fa n e (k + 1) any x := by
  unfold LowSt at *
  unfold lowTo
  rw [if_neg hk]; exact h
theorem low_new {md fa : Nat → Int} {n : Nat} {e : Int} {k : Nat} {any : Bool} {x : Int} (h : LowSt md fa n e k any x) (hg : Tame md fa k) (hk : e ≤ (countTo md fa (md k - fa k) n : Int)) (hx : any = false ∨ md k - fa k < x) : LowSt md fa n e (k + 1) true (md k - fa k) := by
  obtain ⟨g1, g2, g3, g4⟩ := hg
  unfold LowSt at *
  refine Or.inr ⟨rfl, ?_, by omega⟩
  unfold lowTo
  rw [if_pos hk]
  rcases h with ⟨h1, h2⟩ | ⟨h1, h2, h3⟩
  · rw [h2]; omega
  · rcases hx with hx | hx
    · rw [h1] at hx; cases hx
    · omega
theorem low_old {md fa : Nat → Int} {n : Nat} {e : Int} {k : Nat} {any : Bool} {x : Int} (h : LowSt md fa n e k any x) (hk : e ≤ (countTo md fa (md k - fa k) n : Int)) (ha : any = true) (hx : ¬ md k - fa k < x) : LowSt md fa n e (k + 1) any x := by
  unfold LowSt at *
  rcases h with ⟨h1, h2⟩ | ⟨h1, h2, h3⟩
  · rw [h1] at ha; cases ha
  · refine Or.inr ⟨h1, ?_, h3⟩
    unfold lowTo
    rw [if_pos hk]
    omega
theorem high_no {md fa : Nat → Int} {n : Nat} {e : Int} {k : Nat} {any : Bool} {x : Int} (h : HighSt md fa n e k any x) (hk : ¬ e ≤ (countTo md fa (md k + fa k) n : Int)) : HighSt md fa n e (k + 1) any x := by
  unfold HighSt at *
  unfold highTo
  rw [if_neg hk]; exact h
theorem high_new {md fa : Nat → Int} {n : Nat} {e : Int} {k : Nat} {any : Bool} {x : Int} (h : HighSt md fa n e k any x) (hg : Tame md fa k) (hk : e ≤ (countTo md fa (md k + fa k) n : Int)) (hx : any = false ∨ x < md k + fa k) : HighSt md fa n e (k + 1) true (md k + fa k) := by
  obtain ⟨g1, g2, g3, g4⟩ := hg
  unfold HighSt at *
  refine Or.inr ⟨rfl, ?_, by omega⟩
  unfold highTo
  rw [if_pos hk]
  rcases h with ⟨h1, h2⟩ | ⟨h1, h2, h3⟩
  · rw [h2]; omega
  · rcases hx with hx | hx
    · rw [h1] at hx; cases hx
    · omega
theorem high_old {md fa : Nat → Int} {n : Nat} {e : Int} {k : Nat} {any : Bool} {x : Int} (h : HighSt md fa n e k any x) (hk : e ≤ (countTo md fa (md k + fa k) n : Int)) (ha : any = true) (hx : ¬ x < md k + fa k) : HighSt md fa n e (k + 1) any x := by
  unfold HighSt at *
  rcases h with ⟨h1, h2⟩ | ⟨h1, h2, h3⟩
  · rw [h1] at ha; cases ha
  · refine Or.inr ⟨h1, ?_, h3⟩
    unfold highTo
    rw [if_pos hk]
    omega
theorem count_mono (md fa : Nat → Int) (x y : Int) : ∀ k, (∀ i, i < k → md i - fa i ≤ x ∧ x ≤ md i + fa i → md i - fa i ≤ y ∧ y ≤ md i + fa i) → countTo md fa x k ≤ countTo md fa y k
  | 0, _ => Nat.le_refl _
  | k + 1, h => by
    have ih := count_mono md fa x y k (fun i hi => h i (by omega))
    have hk := h k (by omega)
    unfold countTo
    by_cases hx : md k - fa k ≤ x ∧ x ≤ md k + fa k
    · rw [if_pos hx, if_pos (hk hx)]; omega
    · rw [if_neg hx]; split <;> omega
/-- Of those that allow x the one that ends first. -/
theorem first_end (md fa : Nat → Int) (x : Int) : ∀ k, 0 < countTo md fa x k → ∃ j, j < k ∧ (md j - fa j ≤ x ∧ x ≤ md j + fa j) ∧ ∀ i, i < k → md i - fa i ≤ x ∧ x ≤ md i + fa i → md j + fa j ≤ md i + fa i
  | 0, h => by unfold countTo at h; omega
  | k + 1, h => by
    by_cases hx : md k - fa k ≤ x ∧ x ≤ md k + fa k
    · by_cases h0 : 0 < countTo md fa x k
      · obtain ⟨j, hj, h1, h2⟩ := first_end md fa x k h0
        by_cases hl : md j + fa j ≤ md k + fa k
        · exact ⟨j, by omega, h1, fun i hi ha => by
            rcases Nat.lt_or_ge i k with h3 | h3
            · exact h2 i h3 ha
            · rw [show i = k by omega]; exact hl⟩
        · exact ⟨k, by omega, hx, fun i hi ha => by
            rcases Nat.lt_or_ge i k with h3 | h3
            · have := h2 i h3 ha; omega
            · rw [show i = k by omega]; omega⟩
      · refine ⟨k, by omega, hx, fun i hi ha => ?_⟩
        rcases Nat.lt_or_ge i k with h3 | h3
        · exfalso
          apply h0
          clear h hx
          clear h0
          induction k with
          | zero => omega
          | succ k ih =>
            unfold countTo
            by_cases hik : i = k
            · subst hik; rw [if_pos ha]; omega
            · have := ih (by omega) (by omega)
              split <;> omega
        · rw [show i = k by omega]; omega
    · unfold countTo at h
      rw [if_neg hx] at h
      obtain ⟨j, hj, h1, h2⟩ := first_end md fa x k h
      exact ⟨j, by omega, h1, fun i hi ha => by
        rcases Nat.lt_or_ge i k with h3 | h3
        · exact h2 i h3 ha
        · rw [show i = k by omega] at ha; exact absurd ha hx⟩
theorem low_none {md fa : Nat → Int} {n : Nat} {e : Int} (hg : ∀ j, j < n → Tame md fa j) : ∀ k, k ≤ n → (∀ j, j < k → ¬ e ≤ (countTo md fa (md j - fa j) n : Int)) → lowTo md fa n e k = 9223372036854775807
  | 0, _, _ => rfl
  | k + 1, hk, h => by unfold lowTo; rw [if_neg (h k (by omega))]; exact low_none hg k (by omega) fun j hj => h j (by omega)
theorem high_some {md fa : Nat → Int} {n : Nat} {e : Int} (hg : ∀ j, j < n → Tame md fa j) : ∀ k, k ≤ n → (∃ j, j < k ∧ e ≤ (countTo md fa (md j + fa j) n : Int)) → highTo md fa n e k ≠ -9223372036854775808
  | 0, _, h => by obtain ⟨j, hj, _⟩ := h; omega
  | k + 1, hk, h => by
    obtain ⟨j, hj, he⟩ := h
    obtain ⟨g1, g2, g3, g4⟩ := hg k (by omega)
    unfold highTo
    by_cases hc : e ≤ (countTo md fa (md k + fa k) n : Int)
    · rw [if_pos hc]; omega
    · rw [if_neg hc]
      have hjk : j ≠ k := fun h => by subst h; exact hc he
      exact high_some hg k (by omega) ⟨j, by omega, he⟩
/-- Where a beginning is allowed by enough, an end is, too. -/
theorem both_ends {md fa : Nat → Int} {n : Nat} {e : Int} (hg : ∀ j, j < n → Tame md fa j) (he : 1 ≤ e) (h : lowTo md fa n e n ≠ 9223372036854775807) : highTo md fa n e n ≠ -9223372036854775808 := by
  by_cases hs : ∃ j, j < n ∧ e ≤ (countTo md fa (md j - fa j) n : Int)
  · obtain ⟨j, hj, hc⟩ := hs
    obtain ⟨i, hi, h1, h2⟩ := first_end md fa (md j - fa j) n (by omega)
    refine high_some hg n (Nat.le_refl _) ⟨i, hi, ?_⟩
    have := count_mono md fa (md j - fa j) (md i + fa i) n (fun k hk ha => ⟨by omega, h2 k hk ha⟩)
    omega
  · exact absurd (low_none hg n (Nat.le_refl _) fun j hj hc => hs ⟨j, hj, hc⟩) h
theorem who_none (md : Nat → Int) (lo hi : Int) : ∀ k, (∀ j, j < k → md j < lo) → whoTo md lo hi k = []
  | 0, _ => rfl
  | k + 1, h => by
    unfold whoTo
    rw [if_neg (by have := h k (by omega); omega)]
    exact who_none md lo hi k fun j hj => h j (by omega)
/-- With f that may be wrong: who is chosen. -/
def whoOf (md fa : Nat → Int) (n f : Nat) : List Nat := whoTo md (lowTo md fa n ((n : Int) - f) n) (highTo md fa n ((n : Int) - f) n) n
def okAt (md fa : Nat → Int) (n f : Nat) : Bool := decide (n - (whoOf md fa n f).length ≤ f)
/-- The least f that does. -/
def selOf (md fa : Nat → Int) (n : Nat) : Option Nat := (List.range ((n + 1) / 2)).find? fun f => okAt md fa n f
theorem sel_some {md fa : Nat → Int} {n f : Nat} (h1 : 2 * f < n) (h2 : okAt md fa n f = true) (h3 : ∀ g, g < f → okAt md fa n g = false) : selOf md fa n = some f := by
  unfold selOf
  rw [List.find?_range_eq_some]
  exact ⟨h2, by simp; omega, fun j hj => by simp [h3 j hj]⟩
theorem sel_none {md fa : Nat → Int} {n : Nat} (h : ∀ f, 2 * f < n → okAt md fa n f = false) : selOf md fa n = none := by
  unfold selOf
  rw [List.find?_range_eq_none]
  intro f hf
  simp [h f (by omega)]
theorem sel_of {md fa : Nat → Int} {n f : Nat} (h : selOf md fa n = some f) : 2 * f < n ∧ okAt md fa n f = true := by
  unfold selOf at h
  rw [List.find?_range_eq_some] at h
  obtain ⟨h1, h2, _⟩ := h
  simp at h2
  exact ⟨by omega, h1⟩
/-- What Select answers: from where, to where, who, the error. -/
structure Answer where
  low : Int
  high : Int
  who : List Nat
  err : Int
def outOf (md fa : Nat → Int) (n : Nat) : Answer :=
  haveI : DecidablePred (Tame md fa) := fun j => by unfold Tame; infer_instance
  if n = 0 ∨ 32 < n then ⟨0, 0, [], 11⟩
  else if ∀ j, j < n → Tame md fa j then
    match selOf md fa n with
    | some f => ⟨lowTo md fa n ((n : Int) - f) n, highTo md fa n ((n : Int) - f) n, whoOf md fa n f, 0⟩
    | none => ⟨0, 0, [], 10⟩
  else ⟨0, 0, [], 5⟩
theorem out_arg {md fa : Nat → Int} {n : Nat} (h : n = 0 ∨ 32 < n) : outOf md fa n = ⟨0, 0, [], 11⟩ := by
  unfold outOf; rw [if_pos h]
theorem out_range {md fa : Nat → Int} {n : Nat} (h1 : 0 < n) (h2 : n ≤ 32) (h : ¬ ∀ j, j < n → Tame md fa j) : outOf md fa n = ⟨0, 0, [], 5⟩ := by
  unfold outOf; rw [if_neg (by omega), if_neg h]
theorem out_some {md fa : Nat → Int} {n f : Nat} (h1 : 0 < n) (h2 : n ≤ 32) (h : ∀ j, j < n → Tame md fa j) (hs : selOf md fa n = some f) : outOf md fa n = ⟨lowTo md fa n ((n : Int) - f) n, highTo md fa n ((n : Int) - f) n, whoOf md fa n f, 0⟩ := by
  unfold outOf; rw [if_neg (by omega), if_pos h, hs]
theorem out_none {md fa : Nat → Int} {n : Nat} (h1 : 0 < n) (h2 : n ≤ 32) (h : ∀ j, j < n → Tame md fa j) (hs : selOf md fa n = none) : outOf md fa n = ⟨0, 0, [], 10⟩ := by
  unfold outOf; rw [if_neg (by omega), if_pos h, hs]
end Go.Proofs.Ytjdcnlggpfkopaa
