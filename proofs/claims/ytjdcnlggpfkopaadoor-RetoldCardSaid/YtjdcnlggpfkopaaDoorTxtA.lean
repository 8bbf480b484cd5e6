/- The law Texts: the walk. -/
import Derived.Test.YtjdcnlggpfkopaaDoorRefRead
import Derived.Test.YtjdcnlggpfkopaaDoorKnown
namespace Go.Proofs.YtjdcnlggpfkopaaDoor
open Go.ChangeShapes Go.WideShapes Go.ChangeAt Go.RowKit
set_option linter.unusedVariables false

theorem tellAll (t : Int) (w : World) (h0 : 0 ≤ t) (h1 : t ≤ 18446744073709551615) (hT : Tens w) :
    Calls Tryd.prog 8 #[.int .u64 t] w fun e w' => e = .returned (.string (bytesOf (tellOf (decOf (t / 4294967296).toNat) t))) ∧ Below w.heap.size w w' := by
  have h := append_any (t / 4294967296).toNat (by omega) w hT
  rw [show (((t / 4294967296).toNat : Nat) : Int) = t / 4294967296 by omega] at h
  exact tell_any t (decOf (t / 4294967296).toNat) w h0 h1 (Nat.le_trans (dec_len _ 19 (by omega)) (by decide)) h
set_option maxRecDepth 100000 in
set_option maxHeartbeats 800000 in
theorem texts_walk (t : Int) (s : ByteArray) (w : World) (hZ : Zeros w) (hT : Tens w) (h0 : 0 ≤ t) (h1 : t ≤ 18446744073709551615) (hs : s.size ≤ maxLen) :
    Calls Tryd.prog 3 #[.int .u64 t, .string s] w fun e w' => e = .returned (.bool true) ∧ Below w.heap.size w w' := by
  have HZ : Hid (Zeros w) := hZ
  have HT : Hid (Tens w) := hT
  clear hZ hT
  go_enter Tryd.func3, Tryd.ntmps3
  go_wp2_with fail
  refine (tellAll t w h0 h1 HT.out).mono ?_
  rintro e w1 ⟨rfl, hb1⟩
  have B1 := hideIt hb1
  generalize hX : bytesOf (tellOf (decOf (t / 4294967296).toNat) t) = X
  have HX := hideIt hX
  clear hb1 hX
  go_wp2_with fail
  refine (read_any s w1 (HZ.out.below B1.out) hs).mono ?_
  rintro e w2 ⟨rfl, hb2⟩
  have B2 : Hid (Below w.heap.size w w2) := B1.out.trans (hb2.mono B1.out.size)
  clear hb2
  go_wp2_with fail
  refine (refRead_any s w2 hs).mono ?_
  rintro e w3 ⟨rfl, hb3⟩
  have B3 : Hid (Below w.heap.size w w3) := B2.out.trans (hb3.mono B2.out.size)
  clear hb3
  generalize (readOf s).1 = r1
  generalize (readOf s).2.1 = r2
  generalize (readOf s).2.2 = r3
  go_wp2_with fail
  refine (refTell_any t w3 h0 h1).mono ?_
  rw [HX.out]
  rintro e w4 ⟨rfl, hb4⟩
  have B4 : Hid (Below w.heap.size w w4) := B3.out.trans (hb4.mono B3.out.size)
  clear hb4 HX
  go_wp2
  go_ret
  exact ⟨rfl, B4.out⟩
end Go.Proofs.YtjdcnlggpfkopaaDoor
