/- A peer: what is checked. -/
import Derived.Test.YtjdcnlggpfkopaaPeer
namespace Go.Proofs.Ytjdcnlggpfkopaa
open Go.ChangeShapes Go.WideShapes Go.ChangeAt Go.RowKit
set_option linter.unusedVariables false

/-- The error of an answer that was read. -/
def checkOf (wt : Bool) (t lp md st og rx tx : Int) : Int := if md ≠ 4 then 4 else if wt = false then 7 else if og ≠ t then 7 else if st < 1 then 8 else if 15 < st then 8 else if lp = 3 then 8 else if diff tx rx < 0 then 9 else 0
set_option maxRecDepth 100000 in
set_option maxHeartbeats 2000000 in
theorem check_any (b : Nat) (wt : Bool) (t : Int) (sm : Nat → Int) (q : Int) (w : World) (hP : PeerAt w b wt t sm q) (a v m c d e f gg h i j k l : Int) :
    Calls Try.prog 94 #[.pointer (some ⟨b, 0, none⟩), .agg #[.int .i64 a, .int .i64 v, .int .i64 m, .int .i64 c, .int .i64 d, .int .i64 e, .int .u32 f, .int .u32 gg, .int .u32 h, .int .u64 i, .int .u64 j, .int .u64 k, .int .u64 l]] w fun r w' => r = .returned (.int .i64 (checkOf wt t a m c j k l)) ∧ Below w.heap.size w w' := by
  have hb : b < w.heap.size := (Array.getElem?_eq_some_iff.1 hP).1
  have c0 : w.cell? ⟨b, 0, none⟩ = some (.bool wt) := by rw [cell_of_row w b 0 _ _ _ hP]; rfl
  have c1 : w.cell? ⟨b, 1, none⟩ = some (.int .u64 t) := by rw [cell_of_row w b 1 _ _ _ hP]; rfl
  clear hP
  by_cases h1 : m = 4
  · subst h1
    cases wt with
    | false =>
      have HE : Hid (checkOf false t a 4 c j k l = 7) := by show _ = _; unfold checkOf; rw [if_neg (by simp), if_pos rfl]
      go_enter Try.func94, Try.ntmps94
      go_wp2
      refine region_stillS (by kernel_rfl) (by kernel_rfl) ?_
      repeat (apply StillS.step; intro K hK; constructor; go_simp; apply hK; clear hK K)
      apply StillS.nil
      go_wp2
      go_ret
      rw [HE.out]
      exact ⟨rfl, ((Below.refl _ _).alloc (Nat.le_refl _) _).drew⟩
    | true =>
      by_cases h2 : j = t
      · subst h2
        by_cases h3 : c < 1
        · skip
          have HE : Hid (checkOf true j a 4 c j k l = 8) := by show _ = _; unfold checkOf; rw [if_neg (by simp), if_neg (by simp), if_neg (by simp), if_pos h3]
          go_enter Try.func94, Try.ntmps94
          go_wp2
          refine region_stillS (by kernel_rfl) (by kernel_rfl) ?_
          repeat (apply StillS.step; intro K hK; constructor; go_simp; apply hK; clear hK K)
          apply StillS.nil
          go_wp2
          go_ret
          rw [HE.out]
          exact ⟨rfl, ((Below.refl _ _).alloc (Nat.le_refl _) _).drew⟩
        · by_cases h4 : 15 < c
          · skip
            have HE : Hid (checkOf true j a 4 c j k l = 8) := by show _ = _; unfold checkOf; rw [if_neg (by simp), if_neg (by simp), if_neg (by simp), if_neg h3, if_pos h4]
            go_enter Try.func94, Try.ntmps94
            go_wp2
            refine region_stillS (by kernel_rfl) (by kernel_rfl) ?_
            repeat (apply StillS.step; intro K hK; constructor; go_simp; apply hK; clear hK K)
            apply StillS.nil
            go_wp2
            go_ret
            rw [HE.out]
            exact ⟨rfl, ((Below.refl _ _).alloc (Nat.le_refl _) _).drew⟩
          · by_cases h5 : a = 3
            · skip
              have HE : Hid (checkOf true j a 4 c j k l = 8) := by show _ = _; unfold checkOf; rw [if_neg (by simp), if_neg (by simp), if_neg (by simp), if_neg h3, if_neg h4, if_pos h5]
              go_enter Try.func94, Try.ntmps94
              go_wp2
              refine region_stillS (by kernel_rfl) (by kernel_rfl) ?_
              repeat (apply StillS.step; intro K hK; constructor; go_simp; apply hK; clear hK K)
              apply StillS.nil
              go_wp2
              go_ret
              rw [HE.out]
              exact ⟨rfl, ((Below.refl _ _).alloc (Nat.le_refl _) _).drew⟩
            · have h5' : (a == 3) = false := by simp [h5]
              by_cases h6 : diff l k < 0
              · have h6' : decide (diff l k < 0) = true := by simp [h6]
                have HE : Hid (checkOf true j a 4 c j k l = 9) := by show _ = _; unfold checkOf; rw [if_neg (by simp), if_neg (by simp), if_neg (by simp), if_neg h3, if_neg h4, if_neg h5, if_pos h6]
                go_enter Try.func94, Try.ntmps94
                go_wp2
                refine region_stillS (by kernel_rfl) (by kernel_rfl) ?_
                repeat (apply StillS.step; intro K hK; constructor; go_simp; apply hK; clear hK K)
                apply StillS.nil
                go_wp2_with (refine (ahead_any l k _).mono ?_; rintro e w2 ⟨rfl, rfl⟩; rw [h6'])
                go_ret
                rw [HE.out]
                exact ⟨rfl, ((Below.refl _ _).alloc (Nat.le_refl _) _).drew⟩
              · have h6' : decide (diff l k < 0) = false := by simp [h6]
                have HE : Hid (checkOf true j a 4 c j k l = 0) := by show _ = _; unfold checkOf; rw [if_neg (by simp), if_neg (by simp), if_neg (by simp), if_neg h3, if_neg h4, if_neg h5, if_neg h6]
                go_enter Try.func94, Try.ntmps94
                go_wp2
                refine region_stillS (by kernel_rfl) (by kernel_rfl) ?_
                repeat (apply StillS.step; intro K hK; constructor; go_simp; apply hK; clear hK K)
                apply StillS.nil
                go_wp2_with (refine (ahead_any l k _).mono ?_; rintro e w2 ⟨rfl, rfl⟩; rw [h6'])
                go_ret
                rw [HE.out]
                exact ⟨rfl, ((Below.refl _ _).alloc (Nat.le_refl _) _).drew⟩
      · skip
        have HE : Hid (checkOf true t a 4 c j k l = 7) := by show _ = _; unfold checkOf; rw [if_neg (by simp), if_neg (by simp), if_pos h2]
        go_enter Try.func94, Try.ntmps94
        go_wp2
        refine region_stillS (by kernel_rfl) (by kernel_rfl) ?_
        repeat (apply StillS.step; intro K hK; constructor; go_simp; apply hK; clear hK K)
        apply StillS.nil
        go_wp2
        go_ret
        rw [HE.out]
        exact ⟨rfl, ((Below.refl _ _).alloc (Nat.le_refl _) _).drew⟩
  · skip
    have HE : Hid (checkOf wt t a m c j k l = 4) := by show _ = _; unfold checkOf; rw [if_pos h1]
    go_enter Try.func94, Try.ntmps94
    go_wp2
    go_ret
    rw [HE.out]
    exact ⟨rfl, (Below.refl _ _).alloc (Nat.le_refl _) _⟩
end Go.Proofs.Ytjdcnlggpfkopaa
