/- The book of lists that came out: does every list read as the caller wrote it? -/
import Derived.Test.YtjdcnlggpfkopaaLent
namespace Go.Proofs.Ytjdcnlggpfkopaa
open Go.ChangeShapes Go.WideShapes Go.ChangeAt Go.RowKit
set_option linter.unusedVariables false

/-- One list of the book, the i-th: each of its places bears its mark. -/
def Marked (w : World) (B : Nat) (i : Nat) (v : Value) : Prop :=
  ∃ a n c, v = .slice a n c ∧ n ≤ 1000 ∧ ∀ j, j < n → ∃ b off cur, a = some ⟨b, off, none⟩ ∧ b < B ∧ w.heap[b]? = some (.cells cur 5 (0, 0)) ∧ cur[off + j]? = some (.int .u8 (100 + (i : Int) / 4 % 150))
/-- The book holds 4 m lists of bytes, each marked, and none of ints or times. -/
structure Booked (w : World) (bo B m : Nat) : Prop where
  hm : m ≤ 1000000000000
  lt : bo < B
  le : B ≤ w.heap.size
  row : ∃ bv vs, w.heap[bo]? = some (.cells #[bv, .slice none 0 0, .slice none 0 0] 32 (0, 0)) ∧ w.ownsRow (bo + 1) 22 1 bv (4 * m) vs ∧ (∀ k, bv.ownBlock = some k → k < B) ∧ ∀ i v, vs[i]? = some v → Marked w B i v

set_option maxHeartbeats 400000 in
theorem kept_true (bo B m : Nat) (w : World) (hK : Booked w bo B m) :
    Calls Try.prog 18 #[.pointer (some ⟨bo, 0, none⟩)] w fun e w' => e = .returned (.bool true) ∧ w' = w := by
  have hm := hK.hm
  obtain ⟨bv, vs, hbo, hown, _, hmk⟩ := hK.row
  have c0 : w.cell? ⟨bo, 0, none⟩ = some bv := by rw [cell_of_row w bo 0 _ _ _ hbo]; rfl
  have c1 : w.cell? ⟨bo, 1, none⟩ = some (.slice none 0 0) := by rw [cell_of_row w bo 1 _ _ _ hbo]; rfl
  have c2 : w.cell? ⟨bo, 2, none⟩ = some (.slice none 0 0) := by rw [cell_of_row w bo 2 _ _ _ hbo]; rfl
  clear hbo
  obtain ⟨bg, bcap, rfl⟩ : ∃ bg bcap, bv = .slice bg (4 * m) bcap := by
    rcases hown.2 with ⟨h1, h2⟩ | ⟨g, cap, cur, h1, _⟩
    · exact ⟨none, 0, by rw [h1, h2]⟩
    · exact ⟨_, cap, h1⟩
  have hat : Hid (∀ i, i < 4 * m → ∃ g, bg = some ⟨g, 0, none⟩ ∧ ∃ v, w.cell? ⟨g, i, none⟩ = some v ∧ Marked w B i v) := fun i hi => by
    rcases hown.2 with ⟨h1, h2⟩ | ⟨g, cap, cur, h1, _, hg, hc, _, hcs, htk⟩
    · omega
    · have hb : bg = some ⟨g, 0, none⟩ := by injection h1
      refine ⟨g, hb, ?_⟩
      have hl := hown.1
      obtain ⟨v, hv⟩ : ∃ v, vs[i]? = some v := ⟨_, List.getElem?_eq_getElem (by omega)⟩
      refine ⟨v, ?_, hmk i v hv⟩
      have := hown.cells (g := g) (by rw [hb]; rfl) i v hv
      have hadd : (⟨g, 0, none⟩ : Addr).add i = ⟨g, i, none⟩ := by unfold Addr.add; split <;> simp_all
      rw [hadd] at this
      exact this
  clear hown hmk hK
  go_enter Try.func18, Try.ntmps18
  go_wp2
  go_loop [3, 4] (fun i _ => ∃ k : Nat, k ≤ 4 * m ∧ i = .int .i64 k) (fun i _ => 4 * m - (intOf i).toNat)
  case atStart => exact ⟨0, Nat.zero_le _, rfl⟩
  case round =>
    obtain ⟨i, hi, rfl⟩ := hrel
    by_cases hlt : i < 4 * m
    · obtain ⟨g, hg, v, hv, a, n, c, rfl, hn, hcell⟩ := hat.out i hlt
      subst hg
      have HC : Hid (∀ j, j < n → ∃ b off, a = some ⟨b, off, none⟩ ∧ w.cell? ⟨b, off + j, none⟩ = some (.int .u8 (100 + (i : Int) / 4 % 150))) := fun j hj => by
        obtain ⟨b, off, cur, h1, _, h2, h3⟩ := hcell j hj
        exact ⟨b, off, h1, by rw [cell_of_row w b (off + j) _ _ _ h2]; exact h3⟩
      clear hcell hat
      have hlt' : (i : Int) < 4 * (m : Int) := by omega
      go_wp2
      go_loop [4] (fun k => ∃ j : Nat, j ≤ n ∧ k = .int .i64 j) (fun k => n - (intOf k).toNat)
      case atStart => exact ⟨0, Nat.zero_le _, rfl⟩
      case round =>
        obtain ⟨j, hj, rfl⟩ := hrel
        by_cases hjn : j < n
        · obtain ⟨b, off, ha, hc⟩ := HC.out j hjn
          subst ha
          clear HC
          have hjn' : (j : Int) < (n : Int) := by omega
          go_wp2
          go_round
          case rel => exact ⟨j + 1, by omega, by go_num⟩
          case measure => simp [intOf]; omega
        · clear HC
          go_wp2
          go_round
          case rel => exact ⟨i + 1, by omega, by go_num⟩
          case measure => simp [intOf]; omega
    · clear hat
      go_wp2
      refine wp_loop_rounds 1 ?_
      rw [rounds_succ]
      go_wp2
      refine wp_loop_rounds 1 ?_
      rw [rounds_succ]
      go_wp2
      go_ret
      exact ⟨rfl, rfl⟩
end Go.Proofs.Ytjdcnlggpfkopaa
