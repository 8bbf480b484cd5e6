/- A step of a script: an answer is handed in. -/
import Derived.Test.YtjdcnlggpfkopaaPlay
namespace Go.Proofs.Ytjdcnlggpfkopaa
open Go.ChangeShapes Go.WideShapes Go.ChangeAt Go.RowKit
set_option linter.unusedVariables false

set_option maxRecDepth 100000 in
set_option maxHeartbeats 4000000 in
theorem play_none (bx : Nat) (kd pe u : Int) (ob : Option Addr) (nb cb : Nat) (w : World) (h1 : kd ≠ 1) (h2 : kd ≠ 2) (h3 : kd ≠ 3) (h4 : kd ≠ 4) :
    Calls Try.prog 24 #[.pointer (some ⟨bx, 0, none⟩), .agg #[.int .i64 kd, .int .i64 pe, .int .u64 u, .slice ob nb cb]] w fun e w' => e = .returned (.bool true) ∧ Below w.heap.size w w' := by
  have e1 : (kd == 1) = false := by simp [h1]
  have e2 : (kd == 2) = false := by simp [h2]
  have e3 : (kd == 3) = false := by simp [h3]
  have e4 : (kd == 4) = false := by simp [h4]
  go_enter Try.func24, Try.ntmps24
  go_wp2
  go_ret
  exact ⟨rfl, (Below.refl _ _).alloc (Nat.le_refl _) _⟩
theorem Twin.below {w w' : World} {bp br N : Nat} {ow : Option Nat} (h : Twin w bp br N ow) (hb : Below w.heap.size w w') : Twin w' bp br N ow := h.moved (Moved.of_below (S := fun _ => False) hb) (fun h => h) (fun h => h) (fun _ _ h => h)
theorem PairAt.below {w w' : World} {bx bp br bo : Nat} (h : PairAt w bx bp br bo) (hb : Below w.heap.size w w') : PairAt w' bx bp br bo := h.moved (Moved.of_below (S := fun _ => False) hb) (fun h => h)
set_option maxRecDepth 100000 in
set_option maxHeartbeats 4000000 in
theorem play_take (bx bp br bo N : Nat) (ow : Option Nat) (pe u : Int) (ob : Option Addr) (nb cb : Nat) (zb : List Int) (w : World) (hX : PairAt w bx bp br bo) (hT : Twin w bp br N ow) (hN : N < 10000000) (hB : Bytes w ob nb cb zb) (hrow : ∀ k, ow = some k → 0 < nb → ∀ x, ob = some x → x.block ≠ k) :
    Calls Try.prog 24 #[.pointer (some ⟨bx, 0, none⟩), .agg #[.int .i64 2, .int .i64 pe, .int .u64 u, .slice ob nb cb]] w fun e w' => e = .returned (.bool true) ∧ (∃ N' ow', N' ≤ N + 1 ∧ Twin w' bp br N' ow' ∧ ∀ k, ow' = some k → ow = some k ∨ w.heap.size ≤ k) ∧ Moved w w' (S3 bp br ow) := by
  have hbx : bx < w.heap.size := (Array.getElem?_eq_some_iff.1 hX).1
  have HX := hid_of hX
  have HT := hid_of hT
  have HB := hid_of hB
  have HR := hid_of hrow
  clear hX hT hB hrow
  go_enter Try.func24, Try.ntmps24
  go_wp2_with fail
  have BA : Below w.heap.size w (w.alloc (.cells #[.int .i64 2, .int .i64 pe, .int .u64 u, .slice ob nb cb] 60)) := (Below.refl _ _).alloc (Nat.le_refl _) _
  refine (pairTake_any bx bp br bo N ow ob nb cb zb u _ (HX.out.below BA) (HT.out.below BA) hN (HB.out.below BA) HR.out (fun k hk => ⟨by have := HT.out.own.1 k hk; simp; omega, HT.out.own.2.2.2 bx _ _ _ HX.out (by decide) k hk⟩)).mono ?_
  rintro e w2 ⟨rfl, ⟨N', ow', hN', hT', hk'⟩, hm⟩
  have FIN : Hid ((∃ N' ow', N' ≤ N + 1 ∧ Twin w2 bp br N' ow' ∧ ∀ k, ow' = some k → ow = some k ∨ w.heap.size ≤ k) ∧ Moved w w2 (S3 bp br ow)) := ⟨⟨N', ow', hN', hT', fun k hk => (hk' k hk).imp_right (fun h => by simp at h; omega)⟩, (Moved.of_below BA).trans hm⟩
  clear hT' hk' hm BA
  go_wp2
  go_ret
  exact ⟨rfl, FIN.out⟩
end Go.Proofs.Ytjdcnlggpfkopaa
