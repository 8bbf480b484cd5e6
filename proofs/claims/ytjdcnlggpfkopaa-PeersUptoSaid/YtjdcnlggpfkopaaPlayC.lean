/- A step of a script: an answer is made up and handed in. -/
import Derived.Test.YtjdcnlggpfkopaaPlayB
namespace Go.Proofs.Ytjdcnlggpfkopaa
open Go.ChangeShapes Go.WideShapes Go.ChangeAt Go.RowKit
set_option linter.unusedVariables false

theorem answer_call (bx bp br bo N : Nat) (ow : Option Nat) (kd pe u : Int) (ob : Option Addr) (nb cb : Nat) (zb : List Int) (w : World) (hX : PairAt w bx bp br bo) (hT : Twin w bp br N ow) (hB : Bytes w ob nb cb zb) :
    Calls Try.prog 47 #[.pointer (some ⟨bx, 0, none⟩), .agg #[.int .i64 kd, .int .i64 pe, .int .u64 u, .slice ob nb cb]] (w.alloc (.cells #[.int .i64 kd, .int .i64 pe, .int .u64 u, .slice ob nb cb] 60)).drew fun e w' => ∃ g c zs, e = .returned (.slice (some ⟨g, 0, none⟩) 48 c) ∧ Bytes w' (some ⟨g, 0, none⟩) 48 c zs ∧ w.heap.size < g ∧ Below (w.heap.size + 1) (w.alloc (.cells #[.int .i64 kd, .int .i64 pe, .int .u64 u, .slice ob nb cb] 60)) w' ∧ ∀ o, w'.cell? ⟨w.heap.size, o, none⟩ = (w.alloc (.cells #[.int .i64 kd, .int .i64 pe, .int .u64 u, .slice ob nb cb] 60)).cell? ⟨w.heap.size, o, none⟩ := by
  have BA : Below w.heap.size w (w.alloc (.cells #[.int .i64 kd, .int .i64 pe, .int .u64 u, .slice ob nb cb] 60)).drew := ((Below.refl _ _).alloc (Nat.le_refl _) _).drew
  obtain ⟨wt, t, sm, a, cc, base, ss, hp, hr, hO, hbase, hl, hS, ht, hown⟩ := hT.ex
  refine (answer_any bx bp br bo wt t _ kd pe u ob nb cb zb _ ht (hX.below BA) (hr.below BA) (hB.below BA)).mono ?_
  rintro e w' ⟨g, c, zs, rfl, h1, h2, h3⟩
  rw [show (w.alloc (.cells #[.int .i64 kd, .int .i64 pe, .int .u64 u, .slice ob nb cb] 60)).drew.heap.size = w.heap.size + 1 by simp] at h2 h3
  exact ⟨g, c, zs, rfl, h1, h2, (Below.drew (Below.refl _ _)).trans h3, fun o => h3.cell (p := ⟨w.heap.size, o, none⟩) (Nat.lt_succ_self _)⟩
theorem pairTake_call (bx bp br bo N : Nat) (ow : Option Nat) (g c : Nat) (zs : List Int) (u kd pe : Int) (ob : Option Addr) (nb cb : Nat) (w w2 : World) (hX : PairAt w bx bp br bo) (hT : Twin w bp br N ow) (hN : N < 10000000) (hB : Bytes w2 (some ⟨g, 0, none⟩) 48 c zs) (hg : w.heap.size < g) (hb : Below (w.heap.size + 1) (w.alloc (.cells #[.int .i64 kd, .int .i64 pe, .int .u64 u, .slice ob nb cb] 60)) w2) :
    Calls Try.prog 46 #[.pointer (some ⟨bx, 0, none⟩), .slice (some ⟨g, 0, none⟩) 48 c, .int .u64 u] w2 fun e w' => e = .returned (.bool true) ∧ ((∃ N' ow', N' ≤ N + 1 ∧ Twin w' bp br N' ow' ∧ ∀ k, ow' = some k → ow = some k ∨ w.heap.size ≤ k) ∧ Moved w w' (S3 bp br ow)) ∧ ∀ o, w'.cell? ⟨w.heap.size, o, none⟩ = (w.alloc (.cells #[.int .i64 kd, .int .i64 pe, .int .u64 u, .slice ob nb cb] 60)).cell? ⟨w.heap.size, o, none⟩ := by
  have BA : Below w.heap.size w (w.alloc (.cells #[.int .i64 kd, .int .i64 pe, .int .u64 u, .slice ob nb cb] 60)) := (Below.refl _ _).alloc (Nat.le_refl _) _
  have B2 : Below w.heap.size w w2 := BA.trans (hb.mono (by omega))
  have hl := hb.size
  rw [World.size_alloc] at hl
  refine (pairTake_any bx bp br bo N ow _ 48 c zs u _ (hX.below B2) (hT.below B2) hN hB (fun k hk _ x hx => by cases hx; have := hT.own.1 k hk; simp only; omega) (fun k hk => ⟨by have := hT.own.1 k hk; omega, hT.own.2.2.2 bx _ _ _ hX (by decide) k hk⟩)).mono ?_
  rintro e w3 ⟨rfl, ⟨N', ow', hN', hT', hk'⟩, hm⟩
  refine ⟨rfl, ⟨⟨N', ow', hN', hT', fun k hk => (hk' k hk).imp_right (fun h => by omega)⟩, (Moved.of_below B2).trans hm⟩, fun o => ?_⟩
  rw [← hb.cell (p := ⟨w.heap.size, o, none⟩) (Nat.lt_succ_self _)]
  refine World.cell?_of_block (w := w2) (a := ⟨w.heap.size, o, none⟩) (hm.block w.heap.size (by omega) (fun h => ?_))
  have := hT.own
  rcases h with h | h | h
  · omega
  · omega
  · have := this.1 _ h; omega
set_option maxRecDepth 100000 in
set_option maxHeartbeats 4000000 in
theorem play_answer (bx bp br bo N : Nat) (ow : Option Nat) (pe u : Int) (ob : Option Addr) (nb cb : Nat) (zb : List Int) (w : World) (hX : PairAt w bx bp br bo) (hT : Twin w bp br N ow) (hN : N < 10000000) (hB : Bytes w ob nb cb zb) :
    Calls Try.prog 24 #[.pointer (some ⟨bx, 0, none⟩), .agg #[.int .i64 3, .int .i64 pe, .int .u64 u, .slice ob nb cb]] w fun e w' => e = .returned (.bool true) ∧ (∃ N' ow', N' ≤ N + 1 ∧ Twin w' bp br N' ow' ∧ ∀ k, ow' = some k → ow = some k ∨ w.heap.size ≤ k) ∧ Moved w w' (S3 bp br ow) := by
  have hbx : bx < w.heap.size := (Array.getElem?_eq_some_iff.1 hX).1
  have HX := hid_of hX
  have HT := hid_of hT
  have HB := hid_of hB
  clear hX hT hB
  go_enter Try.func24, Try.ntmps24
  go_wp2_with fail
  have hs1 : ∀ o, (w.alloc (.cells #[.int .i64 3, .int .i64 pe, .int .u64 u, .slice ob nb cb] 60)).drew.cell? ⟨w.heap.size, o, none⟩ = (w.alloc (.cells #[.int .i64 3, .int .i64 pe, .int .u64 u, .slice ob nb cb] 60)).cell? ⟨w.heap.size, o, none⟩ := fun o => rfl
  have hs2 : ∀ o, (w.alloc (.cells #[.int .i64 3, .int .i64 pe, .int .u64 u, .slice ob nb cb] 60)).cell? ⟨w.heap.size, o, none⟩ = (w.alloc (.cells #[.int .i64 3, .int .i64 pe, .int .u64 u, .slice ob nb cb] 60)).cell? ⟨w.heap.size, o, none⟩ := fun o => rfl
  go_region_held3 (fun w' => ∀ o, w'.cell? ⟨w.heap.size, o, none⟩ = (w.alloc (.cells #[.int .i64 3, .int .i64 pe, .int .u64 u, .slice ob nb cb] 60)).cell? ⟨w.heap.size, o, none⟩) (first | exact hs1 | exact hs2 | exact k1 | exact k2) (first | (go_at_call 47; refine (answer_call bx bp br bo N ow 3 pe u ob nb cb zb w HX.out HT.out HB.out).mono ?_; rintro e w2 ⟨g, c, zs, rfl, hbz, hgz, hm2, k1⟩) | (go_at_call 46; refine (pairTake_call bx bp br bo N ow g c zs u 3 pe ob nb cb w w2 HX.out HT.out hN hbz hgz hm2).mono ?_; rintro e w3 ⟨rfl, hfin, k2⟩))
  have FIN := hid_of hfin
  clear hfin hs2 k1 k2
  go_wp2
  go_ret
  exact ⟨rfl, FIN.out⟩
end Go.Proofs.Ytjdcnlggpfkopaa
