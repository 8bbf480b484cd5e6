/- The landed clock: Now, Publish, NewClock. -/
import Derived.Test.YtjdcnlggpfkopabDoorClkD
namespace Go.Proofs.YtjdcnlggpfkopabDoor
open Go.ChangeShapes Go.WideShapes Go.ChangeAt Go.RowKit
set_option linter.unusedVariables false

/-- Behind a call a box is made. -/
theorem below_box {w w1 : World} (h : Below w.heap.size w w1) (o : Obj) : Below w.heap.size w (w1.alloc o) := h.trans (((Below.refl _ _).alloc (Nat.le_refl _) _).mono h.size)
set_option maxRecDepth 100000 in
set_option maxHeartbeats 800000 in
theorem innerNow_any (b m : Nat) (kn : Bool) (cnt tm rt c : Int) (w : World) (hC : CkAt w b m kn cnt tm rt) (x0 : 0 ≤ c) (x1 : c ≤ 18446744073709551615) :
    Calls Tryd.prog 19 #[.pointer (some ⟨b, 0, none⟩), .int .u64 c] w fun e w' => e = .returned (.tuple #[.int .u64 (nowOf kn cnt tm rt c), .int .i64 (nowErr kn)]) ∧ Below w.heap.size w w' := by
  have HC := hid_here hC
  clear hC
  cases kn with
  | false =>
    have hm : m = 0 := by have := HC.out.known; simp at this; omega
    subst hm
    go_enter Tryd.func19, Tryd.ntmps19
    go_wp2_with (go_at_call 29; refine (read_none b cnt tm rt w HC.out).mono ?_; rintro e w1 ⟨rfl, hb1⟩; have B1 := hid_here hb1; clear hb1)
    go_ret2
    exact ⟨rfl, by first | exact B1.out | exact B1.out.trans (((Below.refl _ _).alloc (Nat.le_refl _) _).mono B1.out.size)⟩
  | true =>
    have HT : Hid (∀ W, Calls Tryd.prog 30 #[.agg #[.int .u64 cnt, .int .u64 tm, .int .i64 rt], .int .u64 c] W fun e w' => e = .returned (.int .u64 (toldAt cnt tm rt c)) ∧ Below W.heap.size W w') :=
      hid_here fun W => tell_told cnt tm rt c W HC.out.c0 HC.out.c1 HC.out.t0 HC.out.t1 HC.out.r0 HC.out.r1 x0 x1
    go_enter Tryd.func19, Tryd.ntmps19
    go_wp2_with (first
      | (go_at_call 29; refine (read_set b m cnt tm rt w HC.out).mono ?_; rintro e w1 ⟨rfl, hb1⟩; have B1 := hid_here hb1; clear hb1)
      | (go_at_call 30; refine (HT.out _).mono ?_; rintro e w2 ⟨rfl, hb2⟩; have B2 := hid_here hb2; clear hb2))
    go_ret2
    exact ⟨rfl, (below_box B1.out _).trans (B2.out.mono (by have := B1.out.size; simp; omega))⟩
set_option maxRecDepth 100000 in
set_option maxHeartbeats 800000 in
theorem innerPub_any (b m : Nat) (kn : Bool) (cnt tm rt c t r : Int) (w : World) (hC : CkAt w b m kn cnt tm rt) (hm : m < 1000000000000) (x0 : 0 ≤ c) (x1 : c ≤ 18446744073709551615) (y0 : 0 ≤ t) (y1 : t ≤ 18446744073709551615) (z0 : -9223372036854775808 ≤ r) (z1 : r ≤ 9223372036854775807) :
    Calls Tryd.prog 20 #[.pointer (some ⟨b, 0, none⟩), .int .u64 c, .int .u64 t, .int .i64 r] w fun e w' => e = .returned (.int .i64 (pubErr kn cnt c r)) ∧ (pubErr kn cnt c r = 0 → CkAt w' b (m + 1) true c (pubTime kn cnt tm rt c t) r) ∧ (pubErr kn cnt c r ≠ 0 → CkAt w' b m kn cnt tm rt) ∧ Below b w w' := by
  have HC := hid_here hC
  have hbl := hC.lt
  clear hC
  by_cases hr1 : r < -1000
  · have e : pubErr kn cnt c r = 5 := by unfold pubErr; rw [if_pos (Or.inl hr1)]
    rw [e]
    go_enter Tryd.func20, Tryd.ntmps20
    go_wp2
    go_ret
    first
      | exact ⟨rfl, HC.out, Below.refl _ _⟩
      | exact ⟨rfl, (fun h => absurd h (by decide)), fun _ => HC.out, Below.refl _ _⟩
  by_cases hr2 : 1000 < r
  · have e : pubErr kn cnt c r = 5 := by unfold pubErr; rw [if_pos (Or.inr hr2)]
    rw [e]
    go_enter Tryd.func20, Tryd.ntmps20
    go_wp2
    go_ret
    first
      | exact ⟨rfl, HC.out, Below.refl _ _⟩
      | exact ⟨rfl, (fun h => absurd h (by decide)), fun _ => HC.out, Below.refl _ _⟩
  cases kn with
  | false =>
    have hm : m = 0 := by have := HC.out.known; simp at this; omega
    subst hm
    have e : pubErr false cnt c r = 0 := by unfold pubErr; rw [if_neg (by omega), if_neg (by simp)]
    have e2 : pubTime false cnt tm rt c t = t := by unfold pubTime; simp
    rw [e, e2]
    clear e e2
    go_enter Tryd.func20, Tryd.ntmps20
    go_wp2_with (first
      | (go_at_call 29; refine (read_none b cnt tm rt w HC.out).mono ?_; rintro e w1 ⟨rfl, hb1⟩; have B1 := hid_here hb1; clear hb1)
      | (go_at_call 31; refine (set_any b 0 false cnt tm rt c t r _ (HC.out.below (below_box B1.out _)) (by omega) x0 x1 y0 y1 (by omega) (by omega)).mono ?_; rintro e w2 ⟨rfl, hc2, hb2⟩; have C2 := hid_here hc2; have B2 := hid_here hb2; clear hc2 hb2))
    go_ret
    exact ⟨rfl, fun _ => C2.out, (fun h => absurd rfl h), ((below_box B1.out _).mono (by omega)).trans B2.out⟩
  | true =>
    by_cases hc : c < cnt
    · have e : pubErr true cnt c r = 9 := by unfold pubErr; rw [if_neg (by omega), if_pos ⟨rfl, hc⟩]
      rw [e]
      clear e
      go_enter Tryd.func20, Tryd.ntmps20
      go_wp2_with (go_at_call 29; refine (read_set b m cnt tm rt w HC.out).mono ?_; rintro e w1 ⟨rfl, hb1⟩; have B1 := hid_here hb1; clear hb1)
      go_ret
      exact ⟨rfl, (fun h => absurd h (by decide)), fun _ => HC.out.below (below_box B1.out _), (below_box B1.out _).mono (by omega)⟩
    · have e : pubErr true cnt c r = 0 := by unfold pubErr; rw [if_neg (by omega), if_neg (by omega)]
      rw [e]
      clear e
      have HT : Hid (∀ W, Calls Tryd.prog 30 #[.agg #[.int .u64 cnt, .int .u64 tm, .int .i64 rt], .int .u64 c] W fun e w' => e = .returned (.int .u64 (toldAt cnt tm rt c)) ∧ Below W.heap.size W w') :=
        hid_here fun W => tell_told cnt tm rt c W HC.out.c0 HC.out.c1 HC.out.t0 HC.out.t1 HC.out.r0 HC.out.r1 x0 x1
      have b0 := told_nonneg cnt tm rt c HC.out.t0 HC.out.r0
      have b1 := told_le cnt tm rt c
      have HP : Hid (pubTime true cnt tm rt c t = if t < toldAt cnt tm rt c then toldAt cnt tm rt c else t) := hid_here (by unfold pubTime; simp)
      generalize toldAt cnt tm rt c = T at HT HP b0 b1
      by_cases hlt : t < T
      · rw [if_pos hlt] at HP
        go_enter Tryd.func20, Tryd.ntmps20
        go_wp2_with (first
          | (go_at_call 29; refine (read_set b m cnt tm rt w HC.out).mono ?_; rintro e w1 ⟨rfl, hb1⟩; have B1 := hid_here (below_box hb1 (.cells #[.int .u64 cnt, .int .u64 tm, .int .i64 rt] 74)); have L1 := hid_here hb1.size; clear hb1)
          | (go_at_call 30; refine (HT.out _).mono ?_; rintro e w2 ⟨rfl, hb2⟩; have B2 := hid_here (B1.out.trans (hb2.mono (by have := L1.out; simp; omega))); clear hb2)
          | (go_at_call 31; refine (set_any b m true cnt tm rt c T r _ (HC.out.below B2.out) hm x0 x1 (by omega) (by omega) (by omega) (by omega)).mono ?_; rintro e w3 ⟨rfl, hc3, hb3⟩; have C3 := hid_here hc3; have B3 := hid_here hb3; clear hc3 hb3))
        go_ret
        exact ⟨rfl, (fun _ => by rw [HP.out]; exact C3.out), (fun h => absurd rfl h), (B2.out.mono (by omega)).trans B3.out⟩
      · rw [if_neg hlt] at HP
        go_enter Tryd.func20, Tryd.ntmps20
        go_wp2_with (first
          | (go_at_call 29; refine (read_set b m cnt tm rt w HC.out).mono ?_; rintro e w1 ⟨rfl, hb1⟩; have B1 := hid_here (below_box hb1 (.cells #[.int .u64 cnt, .int .u64 tm, .int .i64 rt] 74)); have L1 := hid_here hb1.size; clear hb1)
          | (go_at_call 30; refine (HT.out _).mono ?_; rintro e w2 ⟨rfl, hb2⟩; have B2 := hid_here (B1.out.trans (hb2.mono (by have := L1.out; simp; omega))); clear hb2)
          | (go_at_call 31; refine (set_any b m true cnt tm rt c t r _ (HC.out.below B2.out) hm x0 x1 (by omega) (by omega) (by omega) (by omega)).mono ?_; rintro e w3 ⟨rfl, hc3, hb3⟩; have C3 := hid_here hc3; have B3 := hid_here hb3; clear hc3 hb3))
        go_ret
        exact ⟨rfl, (fun _ => by rw [HP.out]; exact C3.out), (fun h => absurd rfl h), (B2.out.mono (by omega)).trans B3.out⟩

/-- What the clock keeps to, as Onward asks it. -/
theorem now_any (b m : Nat) (kn : Bool) (cnt tm rt c : Int) (w : World) (hC : CkAt w b m kn cnt tm rt) (x0 : 0 ≤ c) (x1 : c ≤ 18446744073709551615) :
    Calls Tryd.prog 11 #[.pointer (some ⟨b, 0, none⟩), .int .u64 c] w fun e w' => e = .returned (.tuple #[.int .u64 (nowOf kn cnt tm rt c), .int .i64 (nowErr kn)]) ∧ CkAt w' b m kn cnt tm rt ∧ Below w.heap.size w w' := by
  have HC := hid_here hC
  clear hC
  go_enter Tryd.func11, Tryd.ntmps11
  go_wp2_with (go_at_call 19; refine (innerNow_any b m kn cnt tm rt c w HC.out x0 x1).mono ?_; rintro e w1 ⟨rfl, hb1⟩; have B1 := hid_here hb1; clear hb1)
  go_ret2
  exact ⟨rfl, HC.out.below B1.out, B1.out⟩
theorem pub_any (b m : Nat) (kn : Bool) (cnt tm rt c t r : Int) (w : World) (hC : CkAt w b m kn cnt tm rt) (hm : m < 1000000000000) (x0 : 0 ≤ c) (x1 : c ≤ 18446744073709551615) (y0 : 0 ≤ t) (y1 : t ≤ 18446744073709551615) (z0 : -9223372036854775808 ≤ r) (z1 : r ≤ 9223372036854775807) :
    Calls Tryd.prog 12 #[.pointer (some ⟨b, 0, none⟩), .int .u64 c, .int .u64 t, .int .i64 r] w fun e w' => e = .returned (.int .i64 (pubErr kn cnt c r)) ∧ (pubErr kn cnt c r = 0 → CkAt w' b (m + 1) true c (pubTime kn cnt tm rt c t) r) ∧ (pubErr kn cnt c r ≠ 0 → CkAt w' b m kn cnt tm rt) ∧ Below b w w' := by
  have HC := hid_here hC
  clear hC
  go_enter Tryd.func12, Tryd.ntmps12
  go_wp2_with (go_at_call 20; refine (innerPub_any b m kn cnt tm rt c t r w HC.out hm x0 x1 y0 y1 z0 z1).mono ?_; rintro e w1 ⟨rfl, hb1⟩; have B1 := hid_here hb1; clear hb1)
  go_ret
  exact ⟨rfl, B1.out⟩
theorem newClock_any (w : World) : Calls Tryd.prog 10 #[] w fun e w' => e = .returned (.pointer (some ⟨w.heap.size, 0, none⟩)) ∧ CkAt w' w.heap.size 0 false 0 0 0 ∧ Below w.heap.size w w' := by
  go_enter Tryd.func10, Tryd.ntmps10
  go_wp2
  go_ret
  exact ⟨rfl, ⟨heap_alloc_new _ _, by simp, by omega, by omega, by omega, by omega, by omega, by omega, by omega⟩, (Below.refl _ _).alloc (Nat.le_refl _) _⟩
end Go.Proofs.YtjdcnlggpfkopabDoor
