/- The document's examples: what 'known' answers. -/
import Derived.Test.YtjdcnlggpfkopaaDoorTellB
import Derived.Test.YtjdcnlggpfkopaaDoorReadB
import Derived.Test.YtjdcnlggpfkopaaDoorMeas
namespace Go.Proofs.YtjdcnlggpfkopaaDoor
open Go.ChangeShapes Go.WideShapes Go.ChangeAt Go.RowKit
set_option linter.unusedVariables false

theorem read_any (s : ByteArray) (w : World) (hZ : Zeros w) (hs : s.size ≤ maxLen) :
    Calls Tryd.prog 9 #[.string s] w fun e w' => e = .returned (.tuple #[.int .u64 (readOf s).1, .int .i64 (readOf s).2.1, .int .i64 (readOf s).2.2]) ∧ Below w.heap.size w w' := by
  go_enter Tryd.func9, Tryd.ntmps9
  go_wp2_with fail
  refine (read_walk s _ hZ hs).mono ?_
  rintro e w1 ⟨rfl, hb⟩
  go_wp2
  go_ret3
  exact ⟨rfl, hb⟩
theorem tell_any (t : Int) (D : List Int) (w : World) (h0 : 0 ≤ t) (h1 : t ≤ 18446744073709551615) (hD : D.length ≤ 20) (hA : Hid (AppSaid (t / 4294967296) D w)) :
    Calls Tryd.prog 8 #[.int .u64 t] w fun e w' => e = .returned (.string (bytesOf (tellOf D t))) ∧ Below w.heap.size w w' := by
  go_enter Tryd.func8, Tryd.ntmps8
  go_wp2_with fail
  refine (tell_walk t D _ h0 h1 hD hA).mono ?_
  rintro e w1 ⟨rfl, hb⟩
  go_wp2
  go_ret
  exact ⟨rfl, hb⟩

def str15 : ByteArray := ⟨#[49, 46, 53]⟩
def strC5 : ByteArray := ⟨#[49, 44, 53]⟩
def str1500 : ByteArray := ⟨#[49, 46, 53, 48, 48, 48, 48, 48, 48, 48, 48, 48]⟩
theorem read15 : readOf str15 = (6442450944, 0, 0) := by decide +kernel
theorem readC5 : readOf strC5 = (0, 6, 1) := by decide +kernel
theorem tell15 : bytesOf (tellOf (smallDigs 1) 6442450944) = str1500 := by decide +kernel
theorem off13 : offsetOf 10 25 26 15 = 13 := by decide +kernel
theorem del4 : delayOf 10 25 26 15 = 4 := by decide +kernel

theorem read15_any (w : World) (hZ : Zeros w) :
    Calls Tryd.prog 9 #[.string ⟨#[49, 46, 53]⟩] w fun e w' => e = .returned (.tuple #[.int .u64 6442450944, .int .i64 0, .int .i64 0]) ∧ Below w.heap.size w w' := by
  have h := read_any str15 w hZ (by decide)
  rw [read15] at h
  exact h
theorem readC5_any (w : World) (hZ : Zeros w) :
    Calls Tryd.prog 9 #[.string ⟨#[49, 44, 53]⟩] w fun e w' => e = .returned (.tuple #[.int .u64 0, .int .i64 6, .int .i64 1]) ∧ Below w.heap.size w w' := by
  have h := read_any strC5 w hZ (by decide)
  rw [readC5] at h
  exact h
theorem tell15_any (w : World) :
    Calls Tryd.prog 8 #[.int .u64 6442450944] w fun e w' => e = .returned (.string ⟨#[49, 46, 53, 48, 48, 48, 48, 48, 48, 48, 48, 48]⟩) ∧ Below w.heap.size w w' := by
  have h := tell_any 6442450944 (smallDigs 1) w (by decide) (by decide) (by decide) (by
    show AppSaid (6442450944 / 4294967296) (smallDigs 1) w
    exact append_small 1 (by decide) w)
  rw [tell15] at h
  exact h
theorem measure13 (w : World) :
    Calls Tryd.prog 16 #[.int .u64 10, .int .u64 25, .int .u64 26, .int .u64 15] w fun e w' => e = .returned (.agg #[.int .i64 13, .int .i64 4]) ∧ Below w.heap.size w w' := by
  have h := measure_any 10 25 26 15 w
  rw [off13, del4] at h
  exact h

set_option maxHeartbeats 400000 in
theorem known_any (w : World) (hZ : Zeros w) :
    Calls Tryd.prog 12 #[] w fun e w' => e = .returned (.bool true) ∧ Below w.heap.size w w' := by
  go_enter Tryd.func12, Tryd.ntmps12
  go_wp2_with fail
  refine (read15_any _ hZ).mono ?_
  rintro e w1 ⟨rfl, hb1⟩
  have hZ1 := hZ.below hb1
  go_wp2_with fail
  refine (tell15_any _).mono ?_
  rintro e w2 ⟨rfl, hb2⟩
  have hZ2 := hZ1.below hb2
  go_wp2_with fail
  refine (measure13 _).mono ?_
  rintro e w3 ⟨rfl, hb3⟩
  have hZ3 := hZ2.below hb3
  go_wp2_with fail
  have hZ4 : Zeros (w3.alloc (.cells #[.int .i64 13, .int .i64 4] 43)) := hZ3.below ((Below.refl _ _).alloc (Nat.le_refl _) _)
  refine (readC5_any _ hZ4).mono ?_
  rintro e w4 ⟨rfl, hb4⟩
  have hz : w3.heap.size < w4.heap.size := by have := hb4.size; simp at this; omega
  have s1 := hb1.size
  have s2 := hb2.size
  have s3 := hb3.size
  have hB : Below w.heap.size w w4 := hb1.trans ((hb2.mono s1).trans ((hb3.mono (by omega)).trans (((Below.refl _ _).alloc (by omega) _).trans (hb4.mono (by simp; omega)))))
  obtain ⟨hc, hf⟩ := bcell hb4
  simp only [World.size_alloc] at hc hf
  clear hb1 hb2 hb3 hb4 hZ hZ1 hZ2 hZ3 hZ4 hf
  go_wp2
  go_ret
  exact ⟨rfl, hB⟩
end Go.Proofs.YtjdcnlggpfkopaaDoor
