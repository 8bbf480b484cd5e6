/- What Form and Reply hand back, as bytes. -/
import Derived.Test.YtjdcnlggpfkopaaParA
namespace Go.Proofs.Ytjdcnlggpfkopaa
open Go.ChangeShapes Go.WideShapes Go.ChangeAt Go.RowKit
set_option linter.unusedVariables false

def outN (er : Int) : Nat := if er = 0 then 48 else 0
def outL (er : Int) (fl : List Int) : List Int := if er = 0 then fl else []
theorem outN_le (er : Int) : outN er ≤ 900 := by unfold outN; split <;> decide
theorem Formed.bytes {w0 w' : World} {s : Value} {er : Int} {fl : List Int} (h : Formed w0 w' s er fl) (hbd : er = 0 → ∀ x ∈ fl, 0 ≤ x ∧ x ≤ 255) (hl : fl.length = 48) :
    ∃ a1, s = .slice a1 (outN er) (outN er) ∧ Bytes w' a1 (outN er) (outN er) (outL er fl) ∧ Full w' w0.heap.size a1 (outN er) ∧ ∀ g, a1 = some ⟨g, 0, none⟩ → w0.heap.size ≤ g ∧ g < w'.heap.size := by
  unfold outN outL
  rcases h with ⟨he, rfl⟩ | ⟨he, g, hg, rfl, hrow⟩
  · rw [if_neg he, if_neg he]
    exact ⟨none, rfl, nil_bytes _, Or.inl ⟨rfl, rfl⟩, fun g h => by cases h⟩
  · rw [if_pos he, if_pos he]
    refine ⟨_, rfl, row_bytes hl (by decide) (Nat.le_refl _) (hbd he) hrow ?_, Or.inr ⟨g, _, rfl, hg, hrow, by simp [hl]⟩, fun g' h => by cases h; exact ⟨hg, (Array.getElem?_eq_some_iff.1 hrow).1⟩⟩
    rw [List.toList_toArray, List.take_of_length_le (by simp [hl])]; rfl
theorem RefFormed.bytes {w0 w' : World} {s : Value} {er : Int} {fl : List Int} (h : RefFormed w0 w' s er fl) (hbd : er = 0 → ∀ x ∈ fl, 0 ≤ x ∧ x ≤ 255) (hl : fl.length = 48) :
    ∃ a1 c, s = .slice a1 (outN er) c ∧ Bytes w' a1 (outN er) c (outL er fl) ∧ ∀ x, a1 = some x → w0.heap.size ≤ x.block ∧ x.block < w'.heap.size := by
  unfold outN outL
  rcases h with ⟨he, rfl⟩ | ⟨he, hown⟩
  · rw [if_neg he, if_neg he]
    exact ⟨none, 0, rfl, nil_bytes _, fun g h => by cases h⟩
  · rw [if_pos he, if_pos he]
    rcases hown.2 with ⟨_, h0⟩ | ⟨g2, c2, cur, rfl, hb, hg2, hc2, _, hcs, htk⟩
    · omega
    · exact ⟨_, c2, rfl, row_bytes hl (by decide) hc2 (hbd he) hg2 htk, fun x h => by cases h; exact ⟨hb, (Array.getElem?_eq_some_iff.1 hg2).1⟩⟩
theorem Bytes.keep {w w' : World} {a : Option Addr} {n cap : Nat} {zs : List Int} (h : Bytes w a n cap zs) (hs : w.heap.size ≤ w'.heap.size) (hk : ∀ x, a = some x → w'.heap[x.block]? = w.heap[x.block]?) : Bytes w' a n cap zs := by
  refine ⟨h.hlen, h.hle, h.hcap, h.hbd, fun hn => ?_⟩
  obtain ⟨b, off, h1, h2, h3⟩ := h.hat hn
  exact ⟨b, off, h1, by omega, fun j hj => by rw [World.cell?_of_block (w := w) (a := ⟨b, off + j, none⟩) (show w'.heap[b]? = w.heap[b]? from hk ⟨b, off, none⟩ h1)]; exact h3 j hj⟩
end Go.Proofs.Ytjdcnlggpfkopaa
