/- A step of a script, whatever it is. -/
import Derived.Test.YtjdcnlggpfkopaaPlayD
namespace Go.Proofs.Ytjdcnlggpfkopaa
open Go.ChangeShapes Go.WideShapes Go.ChangeAt Go.RowKit
set_option linter.unusedVariables false

theorem play_any (W0 bx bp br bo N m : Nat) (ow : Option Nat) (kd pe u : Int) (ob : Option Addr) (nb cb : Nat) (zb : List Int) (w : World) (hX : PairAt w bx bp br bo) (hT : Twin w bp br N ow) (hN : N < 10000000) (hm : m < 100000000) (hu : 0 ≤ u ∧ u ≤ 18446744073709551615) (hB : Bytes w ob nb cb zb) (hob : 0 < nb → ∀ x, ob = some x → x.block < W0) (hK : Booked w bo w.heap.size m) (h1 : W0 ≤ bo) (h2 : W0 ≤ bp) (h3 : W0 ≤ br) (h4 : ∀ k, ow = some k → W0 ≤ k) :
    Calls Try.prog 24 #[.pointer (some ⟨bx, 0, none⟩), .agg #[.int .i64 kd, .int .i64 pe, .int .u64 u, .slice ob nb cb]] w fun e w' => e = .returned (.bool true) ∧ (∃ m' N' ow', m' ≤ m + 1 ∧ N' ≤ N + 1 ∧ Booked w' bo w'.heap.size m' ∧ Twin w' bp br N' ow' ∧ ∀ k, ow' = some k → ow = some k ∨ w.heap.size ≤ k) ∧ Frame w w' W0 (S3 bp br ow) := by
  have hW : W0 ≤ w.heap.size := by have := hK.lt; omega
  have hS : ∀ k, S3 bp br ow k → W0 ≤ k := fun k hk => by
    rcases hk with rfl | rfl | hk
    · exact h2
    · exact h3
    · exact h4 k hk
  by_cases k1 : kd = 1
  · subst k1
    refine (play_ask bx bp br bo N m ow pe u ob nb cb w hX hT hu hK hm).mono ?_
    rintro e w' ⟨rfl, hk, ht, hf⟩
    exact ⟨rfl, ⟨m + 1, N, ow, Nat.le_refl _, by omega, hk, ht, fun k h => Or.inl h⟩, hf W0 h1 h2 h3⟩
  · by_cases k2 : kd = 2
    · subst k2
      refine (play_take bx bp br bo N ow pe u ob nb cb zb w hX hT hN hB (fun k hk hn x hx => by have := hob hn x hx; have := h4 k hk; omega)).mono ?_
      rintro e w' ⟨rfl, ⟨N', ow', hN', hT', hk'⟩, hmv⟩
      exact ⟨rfl, ⟨m, N', ow', by omega, hN', hK.moved hmv hT.odd, hT', hk'⟩, Frame.of_moved hmv hW hS⟩
    · by_cases k3 : kd = 3
      · subst k3
        refine (play_answer bx bp br bo N ow pe u ob nb cb zb w hX hT hN hB).mono ?_
        rintro e w' ⟨rfl, ⟨N', ow', hN', hT', hk'⟩, hmv⟩
        exact ⟨rfl, ⟨m, N', ow', by omega, hN', hK.moved hmv hT.odd, hT', hk'⟩, Frame.of_moved hmv hW hS⟩
      · by_cases k4 : kd = 4
        · subst k4
          refine (play_best bx bp br bo N ow pe u ob nb cb w hX hT (by omega)).mono ?_
          rintro e w' ⟨rfl, hb⟩
          exact ⟨rfl, ⟨m, N, ow, by omega, by omega, hK.now hb, hT.below hb, fun k h => Or.inl h⟩, Frame.of_below hb hW⟩
        · refine (play_none bx kd pe u ob nb cb w k1 k2 k3 k4).mono ?_
          rintro e w' ⟨rfl, hb⟩
          exact ⟨rfl, ⟨m, N, ow, by omega, by omega, hK.now hb, hT.below hb, fun k h => Or.inl h⟩, Frame.of_below hb hW⟩
/-- Two pairs beside one another, with one book. -/
structure Scene (w : World) (W0 bo bx by_ : Nat) (q : Nat) : Prop where
  ex : ∃ bp br bq bs N1 N2 m ow1 ow2, PairAt w bx bp br bo ∧ PairAt w by_ bq bs bo ∧ Twin w bp br N1 ow1 ∧ Twin w bq bs N2 ow2 ∧ Booked w bo w.heap.size m ∧ N1 ≤ q ∧ N2 ≤ q ∧ m ≤ q ∧ W0 ≤ bo ∧ W0 ≤ bp ∧ W0 ≤ br ∧ W0 ≤ bq ∧ W0 ≤ bs ∧ (∀ k, ow1 = some k → W0 ≤ k) ∧ (∀ k, ow2 = some k → W0 ≤ k) ∧ bp ≠ bq ∧ br ≠ bs ∧ (∀ k, ow1 = some k → ow2 ≠ some k)
theorem Scene.swap {w : World} {W0 bo bx by_ q : Nat} (h : Scene w W0 bo bx by_ q) : Scene w W0 bo by_ bx q := by
  obtain ⟨bp, br, bq, bs, N1, N2, m, ow1, ow2, a1, a2, a3, a4, a5, a6, a7, a8, a9, b1, b2, b3, b4, b5, b6, b7, b8, b9⟩ := h.ex
  exact ⟨bq, bs, bp, br, N2, N1, m, ow2, ow1, a2, a1, a4, a3, a5, a7, a6, a8, a9, b3, b4, b1, b2, b6, b5, b7.symm, b8.symm, fun k h1 h2 => b9 k h2 h1⟩
theorem twin_ne {w : World} {bp br bq bs N1 N2 : Nat} {ow1 ow2 : Option Nat} (h1 : Twin w bp br N1 ow1) (h2 : Twin w bq bs N2 ow2) (e1 : bp ≠ bq) (e2 : br ≠ bs) (e3 : ∀ k, ow1 = some k → ow2 ≠ some k) : ¬ S3 bp br ow1 bq ∧ ¬ S3 bp br ow1 bs ∧ ∀ k, ow2 = some k → ¬ S3 bp br ow1 k := by
  obtain ⟨wt, t, sm, a, cc, base, ss, hp, hr, _⟩ := h1.ex
  obtain ⟨wt', t', sm', a', cc', base', ss', hp', hr', _⟩ := h2.ex
  refine ⟨fun h => ?_, fun h => ?_, fun k hk h => ?_⟩
  · rcases h with h | h | h
    · exact e1 h.symm
    · subst h; unfold PeerAt at hp'; unfold RefAt at hr; rw [hp'] at hr; cases hr
    · exact h1.own.2.2.2 bq _ _ _ hp' (by decide) bq h rfl
  · rcases h with h | h | h
    · subst h; unfold PeerAt at hp; unfold RefAt at hr'; rw [hp] at hr'; cases hr'
    · exact e2 h.symm
    · exact h1.own.2.2.2 bs _ _ _ hr' (by decide) bs h rfl
  · rcases h with h | h | h
    · exact h2.own.2.2.2 bp _ _ _ hp (by decide) k hk h
    · exact h2.own.2.2.2 br _ _ _ hr (by decide) k hk h
    · exact e3 k h hk
theorem play_scene (W0 bo bx by_ q : Nat) (kd pe u : Int) (ob : Option Addr) (nb cb : Nat) (zb : List Int) (w : World) (h : Scene w W0 bo bx by_ q) (hq : q < 10000000) (hu : 0 ≤ u ∧ u ≤ 18446744073709551615) (hB : Bytes w ob nb cb zb) (hob : 0 < nb → ∀ x, ob = some x → x.block < W0) :
    Calls Try.prog 24 #[.pointer (some ⟨bx, 0, none⟩), .agg #[.int .i64 kd, .int .i64 pe, .int .u64 u, .slice ob nb cb]] w fun e w' => e = .returned (.bool true) ∧ Scene w' W0 bo bx by_ (q + 1) ∧ Below W0 w w' := by
  obtain ⟨bp, br, bq, bs, N1, N2, m, ow1, ow2, a1, a2, a3, a4, a5, a6, a7, a8, a9, b1, b2, b3, b4, b5, b6, b7, b8, b9⟩ := h.ex
  refine (play_any W0 bx bp br bo N1 m ow1 kd pe u ob nb cb zb w a1 a3 (by omega) (by omega) hu hB hob a5 a9 b1 b2 b5).mono ?_
  rintro e w' ⟨rfl, ⟨m', N', ow', hm', hN', hK', hT', hk'⟩, hF⟩
  obtain ⟨d1, d2, d3⟩ := twin_ne a3 a4 b7 b8 b9
  have pk : ∀ b x y, PairAt w b x y bo → PairAt w' b x y bo := fun b x y hP => by
    obtain ⟨wt, t, sm, a, cc, base, ss, hp, hr, _⟩ := a3.ex
    unfold PairAt
    rw [hF.others b _ _ _ hP ⟨by decide, by decide, by decide⟩ (fun h => ?_)]
    · exact hP
    · rcases h with h | h | h
      · subst h; unfold PairAt at hP; unfold PeerAt at hp; rw [hP] at hp; cases hp
      · subst h; unfold PairAt at hP; unfold RefAt at hr; rw [hP] at hr; cases hr
      · exact a3.own.2.2.2 b _ _ _ hP (by decide) b h rfl
  refine ⟨rfl, ⟨bp, br, bq, bs, N', N2, m', ow', ow2, pk _ _ _ a1, pk _ _ _ a2, hT', a4.frame hF d1 d2 d3, hK', by omega, by omega, by omega, a9, b1, b2, b3, b4, fun k hk => ?_, b6, b7, b8, fun k hk h2 => ?_⟩, hF.bel⟩
  · rcases hk' k hk with h | h
    · exact b5 k h
    · have := a5.lt; omega
  · rcases hk' k hk with h | h
    · exact b9 k h h2
    · have := a4.own.1 k h2; omega
end Go.Proofs.Ytjdcnlggpfkopaa
