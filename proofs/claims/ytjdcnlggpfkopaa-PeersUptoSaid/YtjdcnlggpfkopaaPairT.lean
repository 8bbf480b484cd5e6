/- A pair of peers: an answer is handed to both. -/
import Derived.Test.YtjdcnlggpfkopaaTwin
namespace Go.Proofs.Ytjdcnlggpfkopaa
open Go.ChangeShapes Go.WideShapes Go.ChangeAt Go.RowKit
set_option linter.unusedVariables false

def PairAt (w : World) (bx bp br bo : Nat) : Prop := w.heap[bx]? = some (.cells #[.pointer (some ⟨bp, 0, none⟩), .pointer (some ⟨br, 0, none⟩), .pointer (some ⟨bo, 0, none⟩)] 58 (0, 0))
theorem PairAt.moved {w w' : World} {bx bp br bo : Nat} {S : Nat → Prop} (h : PairAt w bx bp br bo) (hm : Moved w w' S) (hs : ¬ S bx) : PairAt w' bx bp br bo := by
  unfold PairAt; rw [hm.block bx (Array.getElem?_eq_some_iff.1 h).1 hs]; exact h
/-- What is turned when one of a pair is asked. -/
def S3 (bp br : Nat) (ow : Option Nat) : Nat → Prop := fun k => k = bp ∨ k = br ∨ ow = some k
def notU8 : Value → Bool
  | .int .u8 _ => false
  | _ => true
theorem bytes_far {w : World} {a : Option Addr} {n cap : Nat} {zs : List Int} (h : Bytes w a n cap zs) {b : Nat} {cs : Array Value} {ty : TypeId} {fr : Nat × Nat} (hb : w.heap[b]? = some (.cells cs ty fr)) (hc : ∀ v ∈ cs.toList, notU8 v = true) (hn : 0 < n) : ∀ x, a = some x → x.block ≠ b := by
  intro x hx e
  obtain ⟨b', off, h1, h2, h3⟩ := h.hat hn
  rw [hx] at h1
  cases h1
  simp only at e
  subst e
  have h4 := h3 0 hn
  have : w.cell? ⟨b', off + 0, none⟩ = cs[off + 0]? := by simp [World.cell?, hb]
  rw [this] at h4
  have := hc _ (Array.mem_toList_iff.2 (Array.mem_of_getElem? h4))
  cases this
theorem Bytes.moved {w w' : World} {a : Option Addr} {n cap : Nat} {zs : List Int} {S : Nat → Prop} (h : Bytes w a n cap zs) (hm : Moved w w' S) (hs : 0 < n → ∀ x, a = some x → ¬ S x.block) : Bytes w' a n cap zs := by
  refine ⟨h.hlen, h.hle, h.hcap, h.hbd, fun hn => ?_⟩
  obtain ⟨b, off, h1, h2, h3⟩ := h.hat hn
  exact ⟨b, off, h1, Nat.lt_of_lt_of_le h2 hm.size, fun j hj => by rw [World.cell?_of_block (w := w) (a := ⟨b, off + j, none⟩) (show w'.heap[b]? = w.heap[b]? from hm.block b h2 (hs hn ⟨b, off, none⟩ h1))]; exact h3 j hj⟩
theorem sm_notU8 (ss : List (Int × Int)) : ∀ v ∈ smCells ss, notU8 v = true := by
  induction ss with
  | nil => intro v hv; cases hv
  | cons p ss ih =>
    obtain ⟨x, y⟩ := p
    intro v hv
    simp only [smCells, List.mem_cons] at hv
    rcases hv with rfl | rfl | hv
    · rfl
    · rfl
    · exact ih v hv
/-- Bytes that are handed in lie in none of a pair's blocks. -/
theorem bytes_apart {w : World} {a : Option Addr} {n cap : Nat} {zs : List Int} {bp br N : Nat} {ow : Option Nat} (h : Bytes w a n cap zs) (hT : Twin w bp br N ow) (hrow : ∀ k, ow = some k → 0 < n → ∀ x, a = some x → x.block ≠ k) : 0 < n → ∀ x, a = some x → ¬ S3 bp br ow x.block := by
  intro hn x hx hS
  obtain ⟨wt, t, sm, a', cc, base, ss, hp, hr, ho, _, _, _, _, how⟩ := hT.ex
  rcases hS with e | e | e
  · exact bytes_far h hp (by intro v hv; simp at hv; rcases hv with rfl | rfl | rfl | rfl | rfl | rfl | rfl | rfl | rfl | rfl | rfl | rfl | rfl | rfl | rfl | rfl | rfl | rfl | rfl <;> rfl) hn x hx e
  · exact bytes_far h hr (by intro v hv; simp at hv; rcases hv with rfl | rfl | rfl <;> rfl) hn x hx e
  · exact hrow _ e hn x hx rfl
end Go.Proofs.Ytjdcnlggpfkopaa
