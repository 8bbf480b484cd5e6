/- Told texts, in any row's figures: what Read answers. -/
import Derived.Test.YtjdcnlggpfkopaaDoorRetN
namespace Go.Proofs.YtjdcnlggpfkopaaDoor
open Go.ChangeShapes Go.WideShapes Go.ChangeAt Go.RowKit
set_option linter.unusedVariables false

theorem told_order (t u : Int) (ht0 : 0 ≤ t) (ht1 : t ≤ 18446744073709551615) (hu0 : 0 ≤ u) (hu1 : u ≤ 18446744073709551615)
    (hl : (tellOf (decOf (t / 4294967296).toNat) t).length = (tellOf (decOf (u / 4294967296).toNat) u).length) :
    lexL (tellOf (decOf (t / 4294967296).toNat) t) (tellOf (decOf (u / 4294967296).toNat) u) = (decide (t < u) && !decide (tellOf (decOf (t / 4294967296).toNat) t = tellOf (decOf (u / 4294967296).toNat) u)) ∧
    (tellOf (decOf (t / 4294967296).toNat) t = tellOf (decOf (u / 4294967296).toNat) u → t = u) := by
  have hd : (decOf (t / 4294967296).toNat).length = (decOf (u / 4294967296).toNat).length := by
    unfold tellOf at hl; simp [fracDigs_len] at hl; exact hl
  obtain ⟨d1, d2⟩ := lex_val _ _ hd (dec_digs _) (dec_digs _)
  obtain ⟨f1, f2⟩ := lex_val (fracDigs 10 (t % 4294967296)) (fracDigs 10 (u % 4294967296)) (by rw [fracDigs_len, fracDigs_len]) (frac_digs _ _ (by omega) (by omega)) (frac_digs _ _ (by omega) (by omega))
  rw [dec_val, dec_val] at d1 d2
  rw [frac_val _ _ (by omega) (by omega), frac_val _ _ (by omega) (by omega)] at f1 f2
  have e10 : (10 : Int) ^ 10 = 10000000000 := by decide
  rw [e10] at f1 f2
  have heq : tellOf (decOf (t / 4294967296).toNat) t = tellOf (decOf (u / 4294967296).toNat) u ↔ (((t / 4294967296).toNat : Nat) : Int) = (((u / 4294967296).toNat : Nat) : Int) ∧ t % 4294967296 * 10000000000 / 4294967296 = u % 4294967296 * 10000000000 / 4294967296 := by
    unfold tellOf
    rw [List.append_inj' (s₁ := decOf (t / 4294967296).toNat) (s₂ := decOf (u / 4294967296).toNat) |> fun h => (⟨fun k => h k (by simp [fracDigs_len]), fun k => by rw [k.1, k.2]⟩ : _ ↔ _), List.cons_inj_right, ← d2, ← f2]
  have hlex : lexL (tellOf (decOf (t / 4294967296).toNat) t) (tellOf (decOf (u / 4294967296).toNat) u) = (decide ((((t / 4294967296).toNat : Nat) : Int) < (((u / 4294967296).toNat : Nat) : Int)) || (decide ((((t / 4294967296).toNat : Nat) : Int) = (((u / 4294967296).toNat : Nat) : Int)) && decide (t % 4294967296 * 10000000000 / 4294967296 < u % 4294967296 * 10000000000 / 4294967296))) := by
    unfold tellOf
    rw [lex_app _ _ _ _ hd, d1]
    simp only [lexL, Int.lt_irrefl, decide_false, Bool.false_or, decide_true, Bool.true_and, f1]
    rw [decide_eq_decide.2 d2]
  have hdec : decide (tellOf (decOf (t / 4294967296).toNat) t = tellOf (decOf (u / 4294967296).toNat) u) = decide ((((t / 4294967296).toNat : Nat) : Int) = (((u / 4294967296).toNat : Nat) : Int) ∧ t % 4294967296 * 10000000000 / 4294967296 = u % 4294967296 * 10000000000 / 4294967296) := decide_eq_decide.2 heq
  rw [hlex, hdec]
  refine ⟨?_, fun k => ?_⟩
  · rw [Bool.eq_iff_iff]
    simp only [Bool.or_eq_true, Bool.and_eq_true, decide_eq_true_eq, Bool.not_eq_true', decide_eq_false_iff_not]
    omega
  · have := heq.1 k
    omega
end Go.Proofs.YtjdcnlggpfkopaaDoor
