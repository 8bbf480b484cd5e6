/- Read, the code's. -/
import Derived.Test.YtjdcnlggpfkopaaDoorTime
import Derived.Defers
import Derived.Recover
import Derived.Laws.Pointers
namespace Go.Proofs.YtjdcnlggpfkopaaDoor
open Go.ChangeShapes Go.WideShapes Go.ChangeAt Go.RowKit
set_option linter.unusedVariables false

theorem assert_fault (e p : Int) (w : World) : (Instr.typeAssert (.iface 66 (.agg #[.int .i64 e, .int .i64 p])) 20 66 true).run Tryd.prog w = .ok (.tuple #[.agg #[.int .i64 e, .int .i64 p], .bool true]) w := by kernel_rfl
theorem assert_nil (w : World) : (Instr.typeAssert .nilIface 20 66 true).run Tryd.prog w = .ok (.tuple #[.agg #[.int .i64 0, .int .i64 0], .bool false]) w := by kernel_rfl

theorem caught (n : Nat) (x0 x1 x2 en pl : Int) (w : World) (hn : n + 1 + 1 < w.heap.size)
    (c0 : w.cell? ⟨n, 0, none⟩ = some (.int .u64 x0)) (c1 : w.cell? ⟨n + 1, 0, none⟩ = some (.int .i64 x1)) (c2 : w.cell? ⟨n + 1 + 1, 0, none⟩ = some (.int .i64 x2))
    (f0 : w.frozen? ⟨n, 0, none⟩ = false) (f1 : w.frozen? ⟨n + 1, 0, none⟩ = false) (f2 : w.frozen? ⟨n + 1 + 1, 0, none⟩ = false) :
    CallsD Tryd.prog 35 #[.pointer (some ⟨n, 0, none⟩), .pointer (some ⟨n + 1, 0, none⟩), .pointer (some ⟨n + 1 + 1, 0, none⟩)] (.panicking (fault en pl)) w fun e u' w' =>
      e = .returned (.tuple #[]) ∧ u' = .panicking [{ v := .iface 66 (.agg #[.int .i64 en, .int .i64 pl]), recovered := true }] ∧
      w'.cell? ⟨n, 0, none⟩ = some (.int .u64 0) ∧ w'.cell? ⟨n + 1, 0, none⟩ = some (.int .i64 en) ∧ w'.cell? ⟨n + 1 + 1, 0, none⟩ = some (.int .i64 pl) ∧ Below n w w' := by
  have ha := assert_fault en pl
  have hl0 : n < w.heap.size := by omega
  have hl1 : n + 1 < w.heap.size := by omega
  refine callsD_of_wpS Tryd.func35 rfl fun c₀ cs hu => ?_
  apply wpS_seq
  apply wpS_region
  simp [wpOpsS, go_sem, recoverD, hu, fault, Tryd.ntmps35, Exit.thenS, ha]
  apply wpS_seq
  apply wpS_region
  simp [wpOpsS, go_sem, Exit.thenS, Array.replicate]
  refine wpS_cond (t := true) (by simp [Act.eval]) ?_
  simp only [if_true]
  refine wpS_of_wp ?_
  go_region
  have hB : Below n w ((((w.setCell ⟨n, 0, none⟩ (.int .u64 0)).setCell ⟨n + 1, 0, none⟩ (.int .i64 en)).setCell ⟨n + 1 + 1, 0, none⟩ (.int .i64 pl)).alloc (.cells #[.int .i64 en, .int .i64 pl] 66)).drew :=
    Below.drew (Below.alloc (Below.setCell (Below.setCell (Below.setCell (Below.refl _ _) (by exact Nat.le_refl _) _) (by exact Nat.le_succ _) _) (by show n ≤ n + 1 + 1; omega) _) (by simp only [World.size_setCell]; omega) _)
  simp [bodyPostS, results, Tryd.results35, go_sem, c0, c1, c2, hl0, hl1, hn]
  exact hB

theorem idle (n : Nat) (w : World) :
    CallsD Tryd.prog 35 #[.pointer (some ⟨n, 0, none⟩), .pointer (some ⟨n + 1, 0, none⟩), .pointer (some ⟨n + 1 + 1, 0, none⟩)] .returning w fun e u' w' =>
      e = .returned (.tuple #[]) ∧ u' = .returning ∧ w' = w.alloc (.cells #[.int .i64 0, .int .i64 0] 66) := by
  have ha := assert_nil
  refine callsD_of_wpS Tryd.func35 rfl fun c₀ cs hu => ?_
  apply wpS_seq
  apply wpS_region
  simp [wpOpsS, go_sem, recoverD, hu, Tryd.ntmps35, Exit.thenS, ha]
  apply wpS_seq
  apply wpS_region
  simp [wpOpsS, go_sem, Exit.thenS, Array.replicate]
  refine wpS_cond (t := false) (by simp [Act.eval]) ?_
  simp only [Bool.false_eq_true, if_false]
  refine wpS_of_wp (wp_skip ?_)
  cases c₀
  simp_all [bodyPostS, results, Tryd.results35]
end Go.Proofs.YtjdcnlggpfkopaaDoor
