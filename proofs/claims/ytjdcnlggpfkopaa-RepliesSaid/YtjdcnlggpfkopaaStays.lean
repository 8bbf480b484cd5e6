/- The same bytes; bytes that stay. -/
import Derived.Test.YtjdcnlggpfkopaaLent
namespace Go.Proofs.Ytjdcnlggpfkopaa
open Go.ChangeShapes Go.WideShapes Go.ChangeAt Go.RowKit
set_option linter.unusedVariables false

set_option maxHeartbeats 400000 in
theorem same_true (a b : Option Addr) (n ca cb : Nat) (zs : List Int) (w : World) (hA : Bytes w a n ca zs) (hB : Bytes w b n cb zs) :
    Calls Try.prog 15 #[.slice a n ca, .slice b n cb] w fun e w' => e = .returned (.bool true) ∧ ∃ m, w' = w.drewN m := by
  have hle := hA.hle
  have HA : Hid (Bytes w a n ca zs) := hA
  have HB : Hid (Bytes w b n cb zs) := hB
  clear hA hB
  go_enter Try.func15, Try.ntmps15
  go_wp2
  go_loopw [5] (fun i wr => ∃ k : Nat, k ≤ n ∧ i = .int .i64 k ∧ ∃ m, wr = w.drewN m) (fun i _ => n - (intOf i).toNat)
  case atStart => exact ⟨0, Nat.zero_le _, rfl, 0, rfl⟩
  case round =>
    obtain ⟨k, hk, rfl, m, rfl⟩ := hrel
    by_cases hlt : k < n
    · obtain ⟨b1, o1, ha1, _, hc1⟩ := HA.out.hat (by omega)
      obtain ⟨b2, o2, ha2, _, hc2⟩ := HB.out.hat (by omega)
      have q1 := hc1 k hlt
      have q2 := hc2 k hlt
      generalize zs.getD k 0 = x at q1 q2
      clear hc1 hc2 HA HB
      subst ha1 ha2
      have hlt' : (k : Int) < (n : Int) := by omega
      go_wp2
      go_quiet (fail)
      go_wp2
      go_roundw
      case rel => exact ⟨k + 1, by omega, by go_num, _, rfl⟩
      case measure => simp [intOf]; omega
    · go_wp2
      go_ret
      exact ⟨rfl, m, rfl⟩

theorem lentRow_lt (zs : List Int) (k : Nat) (h : k < zs.length) : (lentRow zs 4)[k]? = some (.int .u8 (zs.getD k 0)) := by
  unfold lentRow u8s
  rw [List.getElem?_map, List.getElem?_append_left h, List.getD_eq_getElem?_getD, List.getElem?_eq_getElem h]
  rfl
theorem lentRow_ge (zs : List Int) (k : Nat) (h : zs.length ≤ k) (h' : k < zs.length + 4) : (lentRow zs 4)[k]? = some (.int .u8 77) := by
  unfold lentRow u8s
  rw [List.getElem?_map, List.getElem?_append_right h]
  obtain ⟨j, rfl⟩ : ∃ j, k = zs.length + j := ⟨k - zs.length, by omega⟩
  rw [Nat.add_sub_cancel_left]
  match j, h' with
  | 0, _ => rfl
  | 1, _ => rfl
  | 2, _ => rfl
  | 3, _ => rfl
  | j + 4, h' => omega

set_option maxHeartbeats 400000 in
theorem stays_true (g : Nat) (b : Option Addr) (n cb : Nat) (zs : List Int) (w : World) (hg : w.heap[g]? = some (.cells (lentRow zs 4).toArray 5 (0, 0))) (hB : Bytes w b n cb zs) :
    Calls Try.prog 17 #[.slice (some ⟨g, 0, none⟩) n (n + 4), .slice b n cb] w fun e w' => e = .returned (.bool true) ∧ ∃ m, w' = w.drewN m := by
  have hle := hB.hle
  have hl := hB.hlen
  have h1 : ∀ k, k < n → w.cell? ⟨g, k, none⟩ = some (.int .u8 (zs.getD k 0)) := fun k hk => by
    rw [cell_of_row w g k _ _ _ hg]
    rw [List.getElem?_toArray]; exact lentRow_lt zs k (by omega)
  have h2 : ∀ k, n ≤ k → k < n + 4 → w.cell? ⟨g, k, none⟩ = some (.int .u8 77) := fun k hk hk' => by
    rw [cell_of_row w g k _ _ _ hg]
    rw [List.getElem?_toArray]; exact lentRow_ge zs k (by omega) (by omega)
  have H1 : Hid (∀ k, k < n → w.cell? ⟨g, k, none⟩ = some (.int .u8 (zs.getD k 0))) := h1
  have H2 : Hid (∀ k, n ≤ k → k < n + 4 → w.cell? ⟨g, k, none⟩ = some (.int .u8 77)) := h2
  have HB : Hid (Bytes w b n cb zs) := hB
  clear hB h1 h2 hg hl
  go_enter Try.func17, Try.ntmps17
  go_wp2
  go_loopw [6] (fun i wr => ∃ k : Nat, k ≤ n + 4 ∧ i = .int .i64 k ∧ ∃ m, wr = w.drewN m) (fun i _ => n + 4 - (intOf i).toNat)
  case atStart => exact ⟨0, Nat.zero_le _, rfl, 0, rfl⟩
  case round =>
    obtain ⟨k, hk, rfl, m, rfl⟩ := hrel
    by_cases hlt : k < n
    · obtain ⟨b2, o2, ha2, _, hc2⟩ := HB.out.hat (by omega)
      have q1 := H1.out k hlt
      have q2 := hc2 k hlt
      generalize zs.getD k 0 = x at q1 q2
      clear hc2 HB H1 H2
      subst ha2
      have hlt' : (k : Int) < (n : Int) := by omega
      have hlt2 : (k : Int) < (n : Int) + 4 := by omega
      have hge : decide (n ≤ k) = false := by simp; omega
      go_wp2
      go_quiet (fail)
      go_wp2
      go_roundw
      case rel => exact ⟨k + 1, by omega, by go_num, _, rfl⟩
      case measure => simp [intOf]; omega
    · by_cases hlt2 : k < n + 4
      · have q1 := H2.out k (by omega) hlt2
        clear HB H1 H2
        have hlt' : decide (k < n) = false := by simp; omega
        have hlt3 : (k : Int) < (n : Int) + 4 := by omega
        have hge : (n : Int) ≤ (k : Int) := by omega
        go_wp2
        go_quiet (fail)
        go_wp2
        go_roundw
        case rel => exact ⟨k + 1, by omega, by go_num, _, rfl⟩
        case measure => simp [intOf]; omega
      · go_wp2
        go_ret
        exact ⟨rfl, m, rfl⟩
end Go.Proofs.Ytjdcnlggpfkopaa
