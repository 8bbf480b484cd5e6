/- Packets out of bytes: the document's own. -/
import Derived.Test.YtjdcnlggpfkopaaPkC
namespace Go.Proofs.Ytjdcnlggpfkopaa
open Go.ChangeShapes Go.WideShapes Go.ChangeAt Go.RowKit
set_option linter.unusedVariables false

theorem i8_of (x : Int) (h0 : 0 ≤ x) (h1 : x ≤ 255) : IntKind.i8.wrap x = if 127 < x then x - 256 else x := by
  simp only [IntKind.wrap, IntKind.bits, IntKind.signed]; simp; split <;> split <;> omega
set_option maxHeartbeats 400000 in
theorem refSigned_any (x : Int) (h0 : 0 ≤ x) (h1 : x ≤ 255) (w : World) :
    Calls Try.prog 35 #[.int .u8 x] w fun e w' => e = .returned (.int .i64 (IntKind.i8.wrap x)) ∧ w' = w := by
  rw [i8_of x h0 h1]
  by_cases h : 127 < x
  · rw [if_pos h]
    go_enter Try.func35, Try.ntmps35
    go_wp2
    go_ret
    exact ⟨rfl, rfl⟩
  · rw [if_neg h]
    go_enter Try.func35, Try.ntmps35
    go_wp2
    go_ret
    exact ⟨rfl, rfl⟩

set_option maxHeartbeats 400000 in
theorem refNumber_any (z : Nat → Int) (hz : ∀ j, 0 ≤ z j ∧ z j ≤ 255) (b off o n cap : Nat) (w : World) (ho : o + n ≤ 48) (hn : n ≤ 8)
    (hcell : ∀ j, j < 48 → w.cell? ⟨b, off + j, none⟩ = some (.int .u8 (z j))) :
    Calls Try.prog 36 #[.slice (some ⟨b, off, none⟩) 48 cap, .int .i64 o, .int .i64 n] w fun e w' => e = .returned (.int .u64 (beNum (shift z o) n)) ∧ w' = w := by
  go_enter Try.func36, Try.ntmps36
  go_wp2
  go_loop [7, 8] (fun v i => ∃ k : Nat, k ≤ n ∧ i = .int .i64 k ∧ v = .int .u64 (beNum (shift z o) k)) (fun _ i => n - (intOf i).toNat)
  case atStart => exact ⟨0, Nat.zero_le _, rfl, rfl⟩
  case round =>
    obtain ⟨k, hk, rfl, rfl⟩ := hrel
    by_cases hlt : k < n
    · have hc := hcell (o + k) (by omega)
      obtain ⟨hor, hb0, hb1⟩ := beNum_step (shift z o) (fun j => hz _) k (by omega)
      have hzk := hz (o + k)
      have HO : Hid (beNum (shift z o) (k + 1) = beNum (shift z o) k * 256 + z (o + k)) := rfl
      have hi1 : ((o : Int) + (k : Int)) < 48 := by omega
      have hi2 : ((o : Int) + (k : Int)).toNat = o + k := by omega
      have hlt' : (k : Int) < (n : Int) := by omega
      generalize hbe : beNum (shift z o) k = be at *
      clear hor hcell
      go_wp2
      go_round
      case rel => exact ⟨k + 1, by omega, by go_num, by rw [HO.out]⟩
      case measure => simp [intOf]; omega
    · have : k = n := by omega
      subst this
      go_wp2
      go_ret
      exact ⟨rfl, rfl⟩

set_option maxHeartbeats 400000 in
theorem refParse_len (a : Option Addr) (n cap : Nat) (w : World) (hn : n < 48) :
    Calls Try.prog 12 #[.slice a n cap] w fun e w' => e = .returned (.tuple #[.agg Pk.zero.cells, .int .i64 1]) ∧ Below w.heap.size w w' := by
  go_enter Try.func12, Try.ntmps12
  go_wp2
  exact bodyPost_ret (v := .tuple #[.agg Pk.zero.cells, .int .i64 1]) (by simp [results, Try.results12, go_sem, Pk.zero]) rfl ⟨rfl, (Below.refl _ _).alloc (Nat.le_refl _) _⟩
set_option maxHeartbeats 400000 in
theorem refParse_long (a : Option Addr) (n cap : Nat) (w : World) (hn : 48 < n) (hm : n ≤ 9223372036854775807) :
    Calls Try.prog 12 #[.slice a n cap] w fun e w' => e = .returned (.tuple #[.agg Pk.zero.cells, .int .i64 2]) ∧ Below w.heap.size w w' := by
  go_enter Try.func12, Try.ntmps12
  go_wp2
  exact bodyPost_ret (v := .tuple #[.agg Pk.zero.cells, .int .i64 2]) (by simp [results, Try.results12, go_sem, Pk.zero]) rfl ⟨rfl, (Below.refl _ _).alloc (Nat.le_refl _) _⟩

set_option maxRecDepth 100000 in
set_option maxHeartbeats 1000000 in
theorem refParse_48 (z : Nat → Int) (hz : ∀ j, 0 ≤ z j ∧ z j ≤ 255) (b off cap : Nat) (w : World) (hcap : 48 ≤ cap)
    (hcell : ∀ j, j < 48 → w.cell? ⟨b, off + j, none⟩ = some (.int .u8 (z j))) (r : Pk × Int) (hr : r = parseOf 48 z) :
    Calls Try.prog 12 #[.slice (some ⟨b, off, none⟩) 48 cap] w fun e w' => e = .returned (.tuple #[.agg r.1.cells, .int .i64 r.2]) ∧ Below w.heap.size w w' := by
  have hb : b < w.heap.size := World.block_lt_of_cell? w _ (hcell 0 (by omega))
  have c0 : w.cell? ⟨b, off, none⟩ = some (.int .u8 (z 0)) := hcell 0 (by omega)
  have c1 : w.cell? ⟨b, off + 1, none⟩ = some (.int .u8 (z 1)) := hcell 1 (by omega)
  have c2 : w.cell? ⟨b, off + 2, none⟩ = some (.int .u8 (z 2)) := hcell 2 (by omega)
  have c3 : w.cell? ⟨b, off + 3, none⟩ = some (.int .u8 (z 3)) := hcell 3 (by omega)
  have HW : Hid (∀ (X : Obj) (j : Nat), j < 48 → (w.alloc X).cell? ⟨b, off + j, none⟩ = some (.int .u8 (z j))) := fun X j hj => by
    have := hcell j hj
    simpa [go_sem, hb] using this
  have HWW : Hid (∀ (X Y : Obj) (j : Nat), j < 48 → ((w.alloc X).alloc Y).cell? ⟨b, off + j, none⟩ = some (.int .u8 (z j))) := fun X Y j hj => by
    have := hcell j hj
    simpa [go_sem, hb, Nat.lt_succ_of_lt hb] using this
  have HR : Hid (r = parseOf 48 z) := hr
  have z0 := hz 0
  have z1 := hz 1
  have z2 := hz 2
  have z3 := hz 3
  clear hr hcell
  go_enter Try.func12, Try.ntmps12
  go_wp2_with fail
  refine (refSigned_any _ z2.1 z2.2 _).mono ?_
  rintro e w1 ⟨rfl, rfl⟩
  go_wp2_with fail
  refine (refSigned_any _ z3.1 z3.2 _).mono ?_
  rintro e w1 ⟨rfl, rfl⟩
  go_wp2_with fail
  refine (refNumber_any z hz b off 4 4 cap _ (by decide) (by decide) (HWW.out _ _)).mono ?_
  rintro e w1 ⟨rfl, rfl⟩
  go_wp2_with fail
  refine (refNumber_any z hz b off 8 4 cap _ (by decide) (by decide) (HWW.out _ _)).mono ?_
  rintro e w1 ⟨rfl, rfl⟩
  go_wp2_with fail
  refine (refNumber_any z hz b off 12 4 cap _ (by decide) (by decide) (HWW.out _ _)).mono ?_
  rintro e w1 ⟨rfl, rfl⟩
  go_wp2_with fail
  refine (refNumber_any z hz b off 16 8 cap _ (by decide) (by decide) (HWW.out _ _)).mono ?_
  rintro e w1 ⟨rfl, rfl⟩
  go_wp2_with fail
  refine (refNumber_any z hz b off 24 8 cap _ (by decide) (by decide) (HWW.out _ _)).mono ?_
  rintro e w1 ⟨rfl, rfl⟩
  go_wp2_with fail
  refine (refNumber_any z hz b off 32 8 cap _ (by decide) (by decide) (HWW.out _ _)).mono ?_
  rintro e w1 ⟨rfl, rfl⟩
  go_wp2_with fail
  refine (refNumber_any z hz b off 40 8 cap _ (by decide) (by decide) (HWW.out _ _)).mono ?_
  rintro e w1 ⟨rfl, rfl⟩
  go_wp2
  all_goals
    have e4 := be4 z hz 4
    have e5 := be4 z hz 8
    have e6 := be4 z hz 12
    refine bodyPost_ret (v := .tuple #[.agg r.1.cells, .int .i64 r.2]) ?_ rfl ⟨rfl, ((Below.refl _ _).alloc (Nat.le_refl _) _).alloc (by simp) _⟩
    rw [HR.out]
    clear HR HW HWW c0 c1 c2 c3 hz hcap hb
    unfold parseOf
    simp_all [results, Try.results12, go_sem, unpackOf, kindOf, Pk.zero]

theorem refParse_any (a : Option Addr) (n cap : Nat) (z : Nat → Int) (w : World) (h : Bytes48 w a n cap z) (r : Pk × Int) (hr : r = parseOf n z) :
    Calls Try.prog 12 #[.slice a n cap] w fun e w' => e = .returned (.tuple #[.agg r.1.cells, .int .i64 r.2]) ∧ Below w.heap.size w w' := by
  by_cases h1 : n < 48
  · have : r = (Pk.zero, 1) := by rw [hr]; unfold parseOf; rw [if_pos h1]
    subst this; exact refParse_len a n cap w h1
  · by_cases h2 : 48 < n
    · have : r = (Pk.zero, 2) := by rw [hr]; unfold parseOf; rw [if_neg h1, if_pos h2]
      subst this; exact refParse_long a n cap w h2 h.le
    · obtain rfl : n = 48 := by omega
      obtain ⟨b, off, rfl, hcap, hc⟩ := h.at48 rfl
      exact refParse_48 z h.bd b off cap w hcap hc r hr
end Go.Proofs.Ytjdcnlggpfkopaa
