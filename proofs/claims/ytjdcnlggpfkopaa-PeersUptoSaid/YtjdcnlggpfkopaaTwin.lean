/- Two peers that are as one: the code's and the document's. -/
import Derived.Test.YtjdcnlggpfkopaaRefBest
import Derived.Test.YtjdcnlggpfkopaaTakeW
import Derived.Test.YtjdcnlggpfkopaaOut
namespace Go.Proofs.Ytjdcnlggpfkopaa
open Go.ChangeShapes Go.WideShapes Go.ChangeAt Go.RowKit
set_option linter.unusedVariables false

/-- The peer's samples are the last of the list's. -/
def Same8 (sm : Nat → Int) (ss : List (Int × Int)) : Prop := ∀ j, j < min ss.length 8 → ss[ss.length - min ss.length 8 + j]? = some (offs sm j, dels sm j)
theorem same_nil (sm : Nat → Int) : Same8 sm [] := fun j hj => by simp at hj
theorem offs_upd (sm : Nat → Int) (c : Nat) (x y : Int) (j : Nat) : offs (upd sm c x y) j = (if j = c then x else offs sm j) ∧ dels (upd sm c x y) j = (if j = c then y else dels sm j) := by
  unfold offs dels upd
  constructor
  · by_cases h : j = c
    · rw [if_pos h, if_pos (by omega)]
    · rw [if_neg h, if_neg (by omega), if_neg (by omega)]
  · by_cases h : j = c
    · rw [if_pos h, if_neg (by omega), if_pos (by omega)]
    · rw [if_neg h, if_neg (by omega), if_neg (by omega)]
theorem offs_moved (sm : Nat → Int) (j : Nat) (h : j < 7) : offs (moved sm) j = offs sm (j + 1) ∧ dels (moved sm) j = dels sm (j + 1) := by
  unfold offs dels moved
  exact ⟨by rw [if_pos (by omega), show 2 * j + 2 = 2 * (j + 1) by omega], by rw [if_pos (by omega), show 2 * j + 1 + 2 = 2 * (j + 1) + 1 by omega]⟩
theorem same_keep (sm : Nat → Int) (ss : List (Int × Int)) (x y : Int) (h : Same8 sm ss) : Same8 (keepS sm (min ss.length 8) x y) (ss ++ [(x, y)]) := by
  intro j hj
  simp only [List.length_append, List.length_cons, List.length_nil] at hj ⊢
  unfold keepS
  by_cases h8 : ss.length < 8
  · have e1 : min ss.length 8 = ss.length := by omega
    have e2 : min (ss.length + (0 + 1)) 8 = ss.length + 1 := by omega
    rw [e1, if_neg (by omega), (offs_upd _ _ _ _ j).1, (offs_upd _ _ _ _ j).2]
    rw [e2] at hj ⊢
    rw [show ss.length + (0 + 1) - (ss.length + 1) + j = j by omega]
    by_cases hjl : j = ss.length
    · rw [if_pos hjl, if_pos hjl, hjl]; simp
    · rw [if_neg hjl, if_neg hjl, List.getElem?_append_left (by omega)]
      have := h j (by omega)
      rw [e1, show ss.length - ss.length + j = j by omega] at this
      exact this
  · have e1 : min ss.length 8 = 8 := by omega
    have e2 : min (ss.length + (0 + 1)) 8 = 8 := by omega
    rw [e1, if_pos rfl, (offs_upd _ _ _ _ j).1, (offs_upd _ _ _ _ j).2]
    rw [e2] at hj ⊢
    by_cases hjl : j = 7
    · subst hjl
      rw [if_pos rfl, if_pos rfl, show ss.length + (0 + 1) - 8 + 7 = ss.length by omega]; simp
    · rw [if_neg hjl, if_neg hjl, (offs_moved sm j (by omega)).1, (offs_moved sm j (by omega)).2, List.getElem?_append_left (by omega)]
      have := h (j + 1) (by omega)
      rw [e1, show ss.length - 8 + (j + 1) = ss.length + (0 + 1) - 8 + j by omega] at this
      exact this
theorem keepN_min (ss : List (Int × Int)) (p : Int × Int) : keepN (min ss.length 8) = min (ss ++ [p]).length 8 := by
  unfold keepN
  simp only [List.length_append, List.length_cons, List.length_nil]
  split <;> omega
theorem smCells_len (ss : List (Int × Int)) : (smCells ss).length = ss.length * 2 := by
  induction ss with
  | nil => rfl
  | cons p ss ih => obtain ⟨x, y⟩ := p; simp [smCells, ih]; omega
theorem smCells_at (ss : List (Int × Int)) (i : Nat) (x y : Int) (h : ss[i]? = some (x, y)) : (smCells ss)[i * 2]? = some (.int .i64 x) ∧ (smCells ss)[i * 2 + 1]? = some (.int .i64 y) := by
  induction ss generalizing i with
  | nil => simp at h
  | cons p ss ih =>
    obtain ⟨u, v⟩ := p
    cases i with
    | zero => simp at h; obtain ⟨rfl, rfl⟩ := h; simp [smCells]
    | succ i =>
      have := ih i (by simpa using h)
      rw [show (i + 1) * 2 = i * 2 + 1 + 1 by omega]
      simp only [smCells, List.getElem?_cons_succ]
      exact this
/-- Both, at their blocks; ow: where the document's list lies. -/
structure Twin (w : World) (bp br : Nat) (N : Nat) (ow : Option Nat) : Prop where
  ex : ∃ (wt : Bool) (t : Int) (sm : Nat → Int) (a : Option Addr) (cc base : Nat) (ss : List (Int × Int)), PeerAt w bp wt t sm ((min N 8 : Nat) : Int) ∧ RefAt w br wt t (.slice a N cc) ∧ w.ownsRow base 44 2 (.slice a N cc) N (smCells ss) ∧ base ≤ w.heap.size ∧ ss.length = N ∧ Same8 sm ss ∧ (0 ≤ t ∧ t ≤ 18446744073709551615) ∧ (Value.slice a N cc).ownBlock = ow
theorem last_of {w : World} {base N cc : Nat} {a : Option Addr} {ss : List (Int × Int)} {sm : Nat → Int} (hO : w.ownsRow base 44 2 (.slice a N cc) N (smCells ss)) (hl : ss.length = N) (hS : Same8 sm ss) (hN : N ≤ 10000000) : LastAt w a N cc sm := by
  rcases hO.2 with ⟨h1, h2⟩ | ⟨g, cap, cur, h1, h2, h3, h4, h5, h6, h7⟩
  · cases h1
    exact ⟨by omega, by omega, fun h => by omega⟩
  · cases h1
    refine ⟨hN, h4, fun hp => ⟨g, rfl, (Array.getElem?_eq_some_iff.1 h3).1, fun j hj => ?_⟩⟩
    have hs := hS j (by rw [hl]; exact hj)
    rw [hl] at hs
    obtain ⟨c1, c2⟩ := smCells_at ss _ _ _ hs
    have hcell : ∀ k v, (smCells ss)[k]? = some v → w.cell? ⟨g, k, none⟩ = some v := fun k v hv => by
      rw [cell_of_row w g k _ _ _ h3, ← Array.getElem?_toList]
      rw [← h7, List.getElem?_take] at hv
      split at hv
      · exact hv
      · cases hv
    refine ⟨hcell _ _ ?_, hcell _ _ ?_⟩
    · rw [show (N - min N 8) * 2 + j * 2 = (N - min N 8 + j) * 2 by omega]; exact c1
    · rw [show (N - min N 8) * 2 + j * 2 + 1 = (N - min N 8 + j) * 2 + 1 by omega]; exact c2
theorem Twin.moved {w w' : World} {bp br N : Nat} {ow : Option Nat} {S : Nat → Prop} (h : Twin w bp br N ow) (hm : Moved w w' S) (h1 : ¬ S bp) (h2 : ¬ S br) (h3 : ∀ k, ow = some k → ¬ S k) : Twin w' bp br N ow := by
  obtain ⟨wt, t, sm, a, cc, base, ss, hp, hr, ho, hb, hl, hs, ht, how⟩ := h.ex
  refine ⟨wt, t, sm, a, cc, base, ss, ?_, ?_, owns_moved ho hm (fun k hk => h3 k (by rw [← how]; exact hk)), Nat.le_trans hb hm.size, hl, hs, ht, how⟩
  · unfold PeerAt; rw [hm.block bp (Array.getElem?_eq_some_iff.1 hp).1 h1]; exact hp
  · unfold RefAt; rw [hm.block br (Array.getElem?_eq_some_iff.1 hr).1 h2]; exact hr
end Go.Proofs.Ytjdcnlggpfkopaa
