/- Parse, as it is called; what fits. -/
import Derived.Test.YtjdcnlggpfkopaaPkB
namespace Go.Proofs.Ytjdcnlggpfkopaa
open Go.ChangeShapes Go.WideShapes Go.ChangeAt Go.RowKit
set_option linter.unusedVariables false

/-- What is known of bytes that are handed in: nothing but their number, or, if there are 48, what they are. -/
structure Bytes48 (w : World) (a : Option Addr) (n cap : Nat) (z : Nat → Int) : Prop where
  le : n ≤ 9223372036854775807
  bd : ∀ j, 0 ≤ z j ∧ z j ≤ 255
  at48 : n = 48 → ∃ b off, a = some ⟨b, off, none⟩ ∧ 48 ≤ cap ∧ ∀ j, j < 48 → w.cell? ⟨b, off + j, none⟩ = some (.int .u8 (z j))

theorem packetParse_any (a : Option Addr) (n cap : Nat) (z : Nat → Int) (w : World) (h : Bytes48 w a n cap z) (r : Pk × Int) (hr : r = parseOf n z) :
    Calls Try.prog 34 #[.slice a n cap] w fun e w' => e = .returned (.tuple #[.agg r.1.cells, .int .i64 r.2]) ∧ Below w.heap.size w w' := by
  by_cases h1 : n < 48
  · have : r = (Pk.zero, 1) := by rw [hr]; unfold parseOf; rw [if_pos h1]
    subst this; exact parse_len a n cap w h1
  · by_cases h2 : 48 < n
    · have : r = (Pk.zero, 2) := by rw [hr]; unfold parseOf; rw [if_neg h1, if_pos h2]
      subst this; exact parse_long a n cap w h2 h.le
    · obtain rfl : n = 48 := by omega
      obtain ⟨b, off, rfl, hcap, hc⟩ := h.at48 rfl
      exact parse_48 z h.bd b off cap w hcap hc r hr
theorem Bytes48.alloc {w : World} {a : Option Addr} {n cap : Nat} {z : Nat → Int} (h : Bytes48 w a n cap z) (X : Obj) : Bytes48 (w.alloc X) a n cap z := by
  refine ⟨h.le, h.bd, fun hn => ?_⟩
  obtain ⟨b, off, h1, h2, h3⟩ := h.at48 hn
  refine ⟨b, off, h1, h2, fun j hj => ?_⟩
  have hb : b < w.heap.size := World.block_lt_of_cell? w _ (h3 0 (by omega))
  rw [World.cell?_alloc_past _ _ _ hb]; exact h3 j hj
theorem Bytes48.below {w w' : World} {a : Option Addr} {n cap : Nat} {z : Nat → Int} (h : Bytes48 w a n cap z) (hb : Below w.heap.size w w') : Bytes48 w' a n cap z := by
  refine ⟨h.le, h.bd, fun hn => ?_⟩
  obtain ⟨b, off, h1, h2, h3⟩ := h.at48 hn
  refine ⟨b, off, h1, h2, fun j hj => ?_⟩
  have hb' : b < w.heap.size := World.block_lt_of_cell? w _ (h3 0 (by omega))
  rw [hb.cell (p := ⟨b, off + j, none⟩) hb']; exact h3 j hj

set_option maxRecDepth 100000 in
set_option maxHeartbeats 800000 in
theorem parse_any (a : Option Addr) (n cap : Nat) (z : Nat → Int) (w : World) (h : Bytes48 w a n cap z) (r : Pk × Int) (hr : r = parseOf n z) :
    Calls Try.prog 11 #[.slice a n cap] w fun e w' => e = .returned (.tuple #[.agg r.1.cells, .int .i64 r.2]) ∧ Below w.heap.size w w' := by
  have HR : Hid (r = parseOf n z) := hr
  clear hr
  go_enter Try.func11, Try.ntmps11
  go_wp2_with fail
  refine (packetParse_any a n cap z _ (h.alloc _) r HR.out).mono ?_
  clear HR h
  obtain ⟨⟨u1, u2, u3, u4, u5, u6, u7, u8, u9, u10, u11, u12, u13⟩, er⟩ := r
  simp only [Pk.cells]
  rintro e w1 ⟨rfl, hb1⟩
  have s1 : w.heap.size < w1.heap.size := by have := hb1.size; simp at this; omega
  have hB : Below w.heap.size w w1 := ((Below.refl _ _).alloc (Nat.le_refl _) _).trans (hb1.mono (by simp))
  have hfz : ∀ o, w1.frozen? ⟨w.heap.size, o, none⟩ = false := fun o => by
    rw [(bcell' hb1).2 _ _ (by simp)]; simp [go_sem]
  have hcz : ∀ o, w1.cell? ⟨w.heap.size, o, none⟩ = (w.alloc (.cells Pk.zero.cells 26)).cell? ⟨w.heap.size, o, none⟩ := fun o => by
    rw [(bcell' hb1).1 _ _ (by simp)]; rfl
  simp only [Pk.zero, Pk.cells] at hcz
  clear hb1
  go_wp2
  exact bodyPost_ret (v := .tuple #[.agg (Pk.mk u1 u2 u3 u4 u5 u6 u7 u8 u9 u10 u11 u12 u13).cells, .int .i64 er]) (by simp [results, Try.results11, go_sem, hcz]) rfl ⟨rfl, Below.setCell (Below.setCell (Below.setCell (Below.setCell (Below.setCell (Below.setCell (Below.setCell (Below.setCell (Below.setCell (Below.setCell (Below.setCell (Below.setCell (Below.setCell (hB) (Nat.le_refl _) _) (Nat.le_refl _) _) (Nat.le_refl _) _) (Nat.le_refl _) _) (Nat.le_refl _) _) (Nat.le_refl _) _) (Nat.le_refl _) _) (Nat.le_refl _) _) (Nat.le_refl _) _) (Nat.le_refl _) _) (Nat.le_refl _) _) (Nat.le_refl _) _) (Nat.le_refl _) _⟩

set_option maxHeartbeats 400000 in
theorem within_any (n lo hi : Int) (w : World) :
    Calls Try.prog 83 #[.int .i64 n, .int .i64 lo, .int .i64 hi] w fun e w' => e = .returned (.bool (decide (lo ≤ n ∧ n ≤ hi))) ∧ w' = w := by
  by_cases h1 : lo ≤ n
  · by_cases h2 : n ≤ hi
    · go_enter Try.func83, Try.ntmps83
      go_wp2
      go_ret
      exact ⟨by simp [h1, h2], rfl⟩
    · go_enter Try.func83, Try.ntmps83
      go_wp2
      go_ret
      exact ⟨by simp [h2], rfl⟩
  · go_enter Try.func83, Try.ntmps83
    go_wp2
    go_ret
    exact ⟨by simp; omega, rfl⟩
set_option maxHeartbeats 400000 in
theorem fits_0 (a v m c d e f g h i j k l : Int) (w : World)  (h0 : decide (0 ≤ a ∧ a ≤ 3) = false) :
    Calls Try.prog 60 #[.agg #[.int .i64 a, .int .i64 v, .int .i64 m, .int .i64 c, .int .i64 d, .int .i64 e, .int .u32 f, .int .u32 g, .int .u32 h, .int .u64 i, .int .u64 j, .int .u64 k, .int .u64 l]] w fun e w' => e = .returned (.bool false) ∧ Below w.heap.size w w' := by
  go_enter Try.func60, Try.ntmps60
  go_wp2_with (go_at_call 83; refine (within_any _ _ _ _).mono ?_; rintro e w' ⟨rfl, rfl⟩)
  go_ret
  exact ⟨rfl, (Below.refl _ _).alloc (Nat.le_refl _) _⟩
set_option maxHeartbeats 400000 in
theorem fits_1 (a v m c d e f g h i j k l : Int) (w : World) (h0 : decide (0 ≤ a ∧ a ≤ 3) = true) (h1 : decide (0 ≤ c ∧ c ≤ 255) = false) :
    Calls Try.prog 60 #[.agg #[.int .i64 a, .int .i64 v, .int .i64 m, .int .i64 c, .int .i64 d, .int .i64 e, .int .u32 f, .int .u32 g, .int .u32 h, .int .u64 i, .int .u64 j, .int .u64 k, .int .u64 l]] w fun e w' => e = .returned (.bool false) ∧ Below w.heap.size w w' := by
  go_enter Try.func60, Try.ntmps60
  go_wp2_with (go_at_call 83; refine (within_any _ _ _ _).mono ?_; rintro e w' ⟨rfl, rfl⟩)
  go_ret
  exact ⟨rfl, (Below.refl _ _).alloc (Nat.le_refl _) _⟩
set_option maxHeartbeats 400000 in
theorem fits_2 (a v m c d e f g h i j k l : Int) (w : World) (h0 : decide (0 ≤ a ∧ a ≤ 3) = true) (h1 : decide (0 ≤ c ∧ c ≤ 255) = true) (h2 : decide (-128 ≤ d ∧ d ≤ 127) = false) :
    Calls Try.prog 60 #[.agg #[.int .i64 a, .int .i64 v, .int .i64 m, .int .i64 c, .int .i64 d, .int .i64 e, .int .u32 f, .int .u32 g, .int .u32 h, .int .u64 i, .int .u64 j, .int .u64 k, .int .u64 l]] w fun e w' => e = .returned (.bool false) ∧ Below w.heap.size w w' := by
  go_enter Try.func60, Try.ntmps60
  go_wp2_with (go_at_call 83; refine (within_any _ _ _ _).mono ?_; rintro e w' ⟨rfl, rfl⟩)
  go_ret
  exact ⟨rfl, (Below.refl _ _).alloc (Nat.le_refl _) _⟩
set_option maxHeartbeats 400000 in
theorem fits_3 (a v m c d e f g h i j k l : Int) (w : World) (h0 : decide (0 ≤ a ∧ a ≤ 3) = true) (h1 : decide (0 ≤ c ∧ c ≤ 255) = true) (h2 : decide (-128 ≤ d ∧ d ≤ 127) = true) (h3 : decide (-128 ≤ e ∧ e ≤ 127) = false) :
    Calls Try.prog 60 #[.agg #[.int .i64 a, .int .i64 v, .int .i64 m, .int .i64 c, .int .i64 d, .int .i64 e, .int .u32 f, .int .u32 g, .int .u32 h, .int .u64 i, .int .u64 j, .int .u64 k, .int .u64 l]] w fun e w' => e = .returned (.bool false) ∧ Below w.heap.size w w' := by
  go_enter Try.func60, Try.ntmps60
  go_wp2_with (go_at_call 83; refine (within_any _ _ _ _).mono ?_; rintro e w' ⟨rfl, rfl⟩)
  go_ret
  exact ⟨rfl, (Below.refl _ _).alloc (Nat.le_refl _) _⟩
set_option maxHeartbeats 400000 in
theorem fits_4 (a v m c d e f g h i j k l : Int) (w : World) (h0 : decide (0 ≤ a ∧ a ≤ 3) = true) (h1 : decide (0 ≤ c ∧ c ≤ 255) = true) (h2 : decide (-128 ≤ d ∧ d ≤ 127) = true) (h3 : decide (-128 ≤ e ∧ e ≤ 127) = true) :
    Calls Try.prog 60 #[.agg #[.int .i64 a, .int .i64 v, .int .i64 m, .int .i64 c, .int .i64 d, .int .i64 e, .int .u32 f, .int .u32 g, .int .u32 h, .int .u64 i, .int .u64 j, .int .u64 k, .int .u64 l]] w fun e w' => e = .returned (.bool true) ∧ Below w.heap.size w w' := by
  go_enter Try.func60, Try.ntmps60
  go_wp2_with (go_at_call 83; refine (within_any _ _ _ _).mono ?_; rintro e w' ⟨rfl, rfl⟩)
  go_ret
  exact ⟨rfl, (Below.refl _ _).alloc (Nat.le_refl _) _⟩

def fitsB (a c d e : Int) : Bool := decide (0 ≤ a ∧ a ≤ 3) && decide (0 ≤ c ∧ c ≤ 255) && decide (-128 ≤ d ∧ d ≤ 127) && decide (-128 ≤ e ∧ e ≤ 127)
theorem fits_any (a v m c d e f g h i j k l : Int) (w : World) :
    Calls Try.prog 60 #[.agg #[.int .i64 a, .int .i64 v, .int .i64 m, .int .i64 c, .int .i64 d, .int .i64 e, .int .u32 f, .int .u32 g, .int .u32 h, .int .u64 i, .int .u64 j, .int .u64 k, .int .u64 l]] w fun r w' => r = .returned (.bool (fitsB a c d e)) ∧ Below w.heap.size w w' := by
  unfold fitsB
  cases h0 : decide (0 ≤ a ∧ a ≤ 3) with
  | false => exact fits_0 a v m c d e f g h i j k l w h0
  | true =>
    cases h1 : decide (0 ≤ c ∧ c ≤ 255) with
    | false => exact fits_1 a v m c d e f g h i j k l w h0 h1
    | true =>
      cases h2 : decide (-128 ≤ d ∧ d ≤ 127) with
      | false => exact fits_2 a v m c d e f g h i j k l w h0 h1 h2
      | true =>
        cases h3 : decide (-128 ≤ e ∧ e ≤ 127) with
        | false => exact fits_3 a v m c d e f g h i j k l w h0 h1 h2 h3
        | true => exact fits_4 a v m c d e f g h i j k l w h0 h1 h2 h3
end Go.Proofs.Ytjdcnlggpfkopaa
