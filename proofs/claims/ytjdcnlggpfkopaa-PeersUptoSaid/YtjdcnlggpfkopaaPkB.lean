/- Parse: the code's. -/
import Derived.Test.YtjdcnlggpfkopaaPk
import Derived.Deep.Light
namespace Go.Proofs.Ytjdcnlggpfkopaa
open Go.ChangeShapes Go.WideShapes Go.ChangeAt Go.RowKit
set_option linter.unusedVariables false

def kindOf (v m : Int) : Int := if v ≠ 3 ∧ v ≠ 4 then 3 else if m ≠ 3 ∧ m ≠ 4 then 4 else 0
theorem ret_int' {k : IntKind} {a b : Int} (h : a = b) : Ending.returned (.int k a) = .returned (.int k b) := by rw [h]
theorem bcell' {W w1 : World} (hb : Below W.heap.size W w1) : (∀ b o, b < W.heap.size → w1.cell? ⟨b, o, none⟩ = W.cell? ⟨b, o, none⟩) ∧ (∀ b o, b < W.heap.size → w1.frozen? ⟨b, o, none⟩ = W.frozen? ⟨b, o, none⟩) :=
  ⟨fun b o h => hb.cell (p := ⟨b, o, none⟩) h, fun b o h => hb.frozen (p := ⟨b, o, none⟩) h⟩

set_option maxHeartbeats 400000 in
theorem checkKind_any (a v m c d e f g h i j k l : Int) (w : World) :
    Calls Try.prog 59 #[.agg #[.int .i64 a, .int .i64 v, .int .i64 m, .int .i64 c, .int .i64 d, .int .i64 e, .int .u32 f, .int .u32 g, .int .u32 h, .int .u64 i, .int .u64 j, .int .u64 k, .int .u64 l]] w fun e w' => e = .returned (.int .i64 (kindOf v m)) ∧ Below w.heap.size w w' := by
  go_enter Try.func59, Try.ntmps59
  go_wp2
  all_goals
    go_ret
    refine ⟨ret_int' ?_, (Below.refl _ _).alloc (Nat.le_refl _) _⟩
    go_light
    try simp only [bne_iff_ne, ne_eq, bne_eq_false_iff_eq] at *
    unfold kindOf
    split <;> (try split) <;> omega

/-- The code's Parse: the error, and the packet. -/
def parseOf (n : Nat) (z : Nat → Int) : Pk × Int :=
  if n < 48 then (Pk.zero, 1) else if 48 < n then (Pk.zero, 2) else if kindOf (unpackOf z).version (unpackOf z).mode ≠ 0 then (Pk.zero, kindOf (unpackOf z).version (unpackOf z).mode) else (unpackOf z, 0)

set_option maxHeartbeats 400000 in
theorem parse_len (a : Option Addr) (n cap : Nat) (w : World) (hn : n < 48) :
    Calls Try.prog 34 #[.slice a n cap] w fun e w' => e = .returned (.tuple #[.agg Pk.zero.cells, .int .i64 1]) ∧ Below w.heap.size w w' := by
  go_enter Try.func34, Try.ntmps34
  go_wp2
  exact bodyPost_ret (v := .tuple #[.agg Pk.zero.cells, .int .i64 1]) (by simp [results, Try.results34, go_sem, Pk.zero]) rfl ⟨rfl, (Below.refl _ _).alloc (Nat.le_refl _) _⟩
set_option maxHeartbeats 400000 in
theorem parse_long (a : Option Addr) (n cap : Nat) (w : World) (hn : 48 < n) (hm : n ≤ 9223372036854775807) :
    Calls Try.prog 34 #[.slice a n cap] w fun e w' => e = .returned (.tuple #[.agg Pk.zero.cells, .int .i64 2]) ∧ Below w.heap.size w w' := by
  go_enter Try.func34, Try.ntmps34
  go_wp2
  exact bodyPost_ret (v := .tuple #[.agg Pk.zero.cells, .int .i64 2]) (by simp [results, Try.results34, go_sem, Pk.zero]) rfl ⟨rfl, (Below.refl _ _).alloc (Nat.le_refl _) _⟩

set_option maxRecDepth 100000 in
set_option maxHeartbeats 800000 in
theorem parse_48 (z : Nat → Int) (hz : ∀ j, 0 ≤ z j ∧ z j ≤ 255) (b off cap : Nat) (w : World) (hcap : 48 ≤ cap)
    (hcell : ∀ j, j < 48 → w.cell? ⟨b, off + j, none⟩ = some (.int .u8 (z j))) (r : Pk × Int) (hr : r = parseOf 48 z) :
    Calls Try.prog 34 #[.slice (some ⟨b, off, none⟩) 48 cap] w fun e w' => e = .returned (.tuple #[.agg r.1.cells, .int .i64 r.2]) ∧ Below w.heap.size w w' := by
  have hb : b < w.heap.size := World.block_lt_of_cell? w _ (hcell 0 (by omega))
  have HW : Hid (∀ (X : Obj) j, j < 48 → (w.alloc X).cell? ⟨b, off + j, none⟩ = some (.int .u8 (z j))) := fun X j hj => by
    have := hcell j hj
    simpa [go_sem, hb] using this
  have HR : Hid (r = parseOf 48 z) := hr
  clear hr hcell
  go_enter Try.func34, Try.ntmps34
  go_wp2_with fail
  refine (unpack_any z hz b off cap _ hcap (HW.out _)).mono ?_
  rintro e w1 ⟨rfl, hb1⟩
  generalize hu : unpackOf z = u
  have HU : Hid (unpackOf z = u) := hu
  clear hu
  obtain ⟨u1, u2, u3, u4, u5, u6, u7, u8, u9, u10, u11, u12, u13⟩ := u
  simp only [Pk.cells]
  go_wp2_with fail
  refine (checkKind_any _ _ _ _ _ _ _ _ _ _ _ _ _ _).mono ?_
  rintro e w2 ⟨rfl, hb2⟩
  have s1 : w.heap.size < w1.heap.size := by have := hb1.size; simp at this; omega
  have s2 : w1.heap.size < w2.heap.size := by have := hb2.size; simp at this; omega
  have hB : Below w.heap.size w w2 := ((Below.refl _ _).alloc (Nat.le_refl _) _).trans ((hb1.mono (by simp)).trans (((Below.refl _ _).alloc (by omega) _).trans (hb2.mono (by simp; omega))))
  have hfz : ∀ o, w2.frozen? ⟨w.heap.size, o, none⟩ = false := fun o => by
    rw [(bcell' hb2).2 _ _ (by simp; omega), frozen?_alloc_cells, (bcell' hb1).2 _ _ (by simp)]; simp [go_sem]
  have hcz : ∀ o, w2.cell? ⟨w.heap.size, o, none⟩ = (w.alloc (.cells Pk.zero.cells 26)).cell? ⟨w.heap.size, o, none⟩ := fun o => by
    rw [(bcell' hb2).1 _ _ (by simp; omega), World.cell?_alloc_past _ _ _ s1, (bcell' hb1).1 _ _ (by simp)]; rfl
  have hcu : ∀ o, w2.cell? ⟨w1.heap.size, o, none⟩ = (w1.alloc (.cells #[.int .i64 u1, .int .i64 u2, .int .i64 u3, .int .i64 u4, .int .i64 u5, .int .i64 u6, .int .u32 u7, .int .u32 u8, .int .u32 u9, .int .u64 u10, .int .u64 u11, .int .u64 u12, .int .u64 u13] 26)).cell? ⟨w1.heap.size, o, none⟩ := fun o =>
    (bcell' hb2).1 _ _ (by simp)
  simp only [Pk.zero, Pk.cells] at hcz
  clear hb1 hb2 HW
  by_cases hk : (kindOf u2 u3 != 0) = true
  · have HP : Hid (parseOf 48 z = (Pk.zero, kindOf u2 u3)) := by
      show _ = _
      unfold parseOf; rw [HU.out, if_neg (by omega), if_neg (by omega), if_pos (by simpa using hk)]
    go_wp2
    exact bodyPost_ret (v := .tuple #[.agg Pk.zero.cells, .int .i64 (kindOf u2 u3)]) (by simp [results, Try.results34, go_sem, hcz, Pk.zero]) rfl ⟨by rw [HR.out, HP.out], Below.setCell (Below.setCell (Below.setCell (Below.setCell (Below.setCell (Below.setCell (Below.setCell (Below.setCell (Below.setCell (Below.setCell (Below.setCell (Below.setCell (Below.setCell (hB) (Nat.le_refl _) _) (Nat.le_refl _) _) (Nat.le_refl _) _) (Nat.le_refl _) _) (Nat.le_refl _) _) (Nat.le_refl _) _) (Nat.le_refl _) _) (Nat.le_refl _) _) (Nat.le_refl _) _) (Nat.le_refl _) _) (Nat.le_refl _) _) (Nat.le_refl _) _) (Nat.le_refl _) _⟩
  · have hk' : (kindOf u2 u3 != 0) = false := by simpa using hk
    have HP : Hid (parseOf 48 z = (⟨u1, u2, u3, u4, u5, u6, u7, u8, u9, u10, u11, u12, u13⟩, 0)) := by
      show _ = _
      unfold parseOf; rw [HU.out, if_neg (by omega), if_neg (by omega), if_neg (by simpa using hk')]
    clear hk
    go_wp2
    exact bodyPost_ret (v := .tuple #[.agg (Pk.mk u1 u2 u3 u4 u5 u6 u7 u8 u9 u10 u11 u12 u13).cells, .int .i64 0]) (by simp [results, Try.results34, go_sem, hcz]) rfl ⟨by rw [HR.out, HP.out], Below.setCell (Below.setCell (Below.setCell (Below.setCell (Below.setCell (Below.setCell (Below.setCell (Below.setCell (Below.setCell (Below.setCell (Below.setCell (Below.setCell (Below.setCell (hB) (Nat.le_refl _) _) (Nat.le_refl _) _) (Nat.le_refl _) _) (Nat.le_refl _) _) (Nat.le_refl _) _) (Nat.le_refl _) _) (Nat.le_refl _) _) (Nat.le_refl _) _) (Nat.le_refl _) _) (Nat.le_refl _) _) (Nat.le_refl _) _) (Nat.le_refl _) _) (Nat.le_refl _) _⟩
end Go.Proofs.Ytjdcnlggpfkopaa
