/- The walk of Onward, whatever the clock is made of. -/
import Derived.Test.YtjdcnlggpfkopabDoorPick
import Derived.Test.YtjdcnlggpfkopabDoorClkM
import Derived.Deep.CutBlock
import Derived.Deep.DeepCutAuto
namespace Go.Proofs.YtjdcnlggpfkopabDoor
open Go.ChangeShapes Go.WideShapes Go.ChangeAt Go.RowKit
set_option linter.unusedVariables false

/-- What the code's clock keeps to: CK says that it lies at b, what it knows, and its three numbers. -/
structure ClockKeeps (CK : World → Nat → Nat → Bool → Int → Int → Int → Prop) : Prop where
  new : ∀ w : World, Calls Tryd.prog 10 #[] w fun e w' => ∃ b, e = .returned (.pointer (some ⟨b, 0, none⟩)) ∧ w.heap.size ≤ b ∧ CK w' b 0 false 0 0 0 ∧ Below w.heap.size w w'
  now : ∀ (w : World) (b m : Nat) (kn : Bool) (cnt tm rt c : Int), CK w b m kn cnt tm rt → 0 ≤ c → c ≤ 18446744073709551615 →
    Calls Tryd.prog 11 #[.pointer (some ⟨b, 0, none⟩), .int .u64 c] w fun e w' => e = .returned (.tuple #[.int .u64 (nowOf kn cnt tm rt c), .int .i64 (nowErr kn)]) ∧ CK w' b m kn cnt tm rt ∧ ∀ B, B ≤ b → Below B w w'
  pub : ∀ (w : World) (b m : Nat) (kn : Bool) (cnt tm rt c t r : Int), CK w b m kn cnt tm rt → m < 1000000000000 → 0 ≤ c → c ≤ 18446744073709551615 → 0 ≤ t → t ≤ 18446744073709551615 → -9223372036854775808 ≤ r → r ≤ 9223372036854775807 →
    Calls Tryd.prog 12 #[.pointer (some ⟨b, 0, none⟩), .int .u64 c, .int .u64 t, .int .i64 r] w fun e w' => e = .returned (.int .i64 (pubErr kn cnt c r)) ∧ (pubErr kn cnt c r = 0 → CK w' b (m + 1) true c (pubTime kn cnt tm rt c t) r) ∧ (pubErr kn cnt c r ≠ 0 → CK w' b m kn cnt tm rt) ∧ ∀ B, B ≤ b → Below B w w'
/-- Ints of one kind that a walk is handed, each in its bounds. -/
structure NumsIn (w : World) (K : IntKind) (lo hi : Int) (a : Option Addr) (n : Nat) (f : Nat → Int) : Prop where
  hat : 0 < n → ∃ b off, a = some ⟨b, off, none⟩ ∧ b < w.heap.size ∧ ∀ j, j < n → w.cell? ⟨b, off + j, none⟩ = some (.int K (f j)) ∧ lo ≤ f j ∧ f j ≤ hi
theorem NumsIn.get {w w' : World} {K : IntKind} {lo hi : Int} {a : Option Addr} {n B : Nat} {f : Nat → Int} (h : NumsIn w K lo hi a n f) (hB : w.heap.size ≤ B) (hb : Below B w w') {j : Nat} (hj : j < n) : ∃ b off, a = some ⟨b, off, none⟩ ∧ w'.cell? ⟨b, off + j, none⟩ = some (.int K (f j)) ∧ lo ≤ f j ∧ f j ≤ hi := by
  obtain ⟨b, off, h1, h2, h3⟩ := h.hat (by omega)
  refine ⟨b, off, h1, ?_, (h3 j hj).2⟩
  rw [hb.cell (p := ⟨b, off + j, none⟩) (Nat.lt_of_lt_of_le h2 hB)]
  exact (h3 j hj).1
theorem pub_ok (cnt c r : Int) (h1 : cnt ≤ c) (h2 : -1000 ≤ r) (h3 : r ≤ 1000) : pubErr true cnt c r = 0 := by
  unfold pubErr
  rw [if_neg (by omega), if_neg (by omega)]
set_option maxRecDepth 100000 in
set_option maxHeartbeats 8000000 in
theorem onward_walk (CK : World → Nat → Nat → Bool → Int → Int → Int → Prop) (HK : ClockKeeps CK) (a1 a2 a3 : Option Addr) (n1 n2 n3 c1 c2 c3 : Nat) (st ts rs : Nat → Int) (w : World) (hZ : Zeros w)
    (h1 : NumsIn w .u32 0 4294967295 a1 n1 st) (h2 : NumsIn w .u64 0 18446744073709551615 a2 n2 ts) (h3 : NumsIn w .i64 (-9223372036854775808) 9223372036854775807 a3 n3 rs) (hn1 : n1 ≤ 1048576) (hn2 : n2 ≤ 1048576) (hn3 : n3 ≤ 1048576) :
    Calls Tryd.prog 4 #[.slice a1 n1 c1, .slice a2 n2 c2, .slice a3 n3 c3] w fun e w' => e = .returned (.bool true) ∧ Below w.heap.size w w' := by
  have HH : Hid (ClockKeeps CK) := HK
  have H1 : Hid (NumsIn w .u32 0 4294967295 a1 n1 st) := h1
  have H2 : Hid (NumsIn w .u64 0 18446744073709551615 a2 n2 ts) := h2
  have H3 : Hid (NumsIn w .i64 (-9223372036854775808) 9223372036854775807 a3 n3 rs) := h3
  clear HK h1 h2 h3
  go_enter Tryd.func4, Tryd.ntmps4
  go_wp2_with fail
  refine (known_any _ hZ).mono ?_
  rintro e w0 ⟨rfl, hB0⟩
  have B0 : Hid (Below w.heap.size w w0) := hB0
  clear hB0 hZ
  go_wp2_with (first
    | (go_at_call 10; refine (HH.out.new _).mono ?_; rintro e1 w1 ⟨b, rfl, hb1, hk1, hbel1⟩; have K1 : Hid (CK w1 b 0 false 0 0 0) := hk1; have B1 : Hid (Below w.heap.size w w1) := B0.out.trans (hbel1.mono B0.out.size); have ZB : Hid (w.heap.size ≤ b) := Nat.le_trans B0.out.size hb1; clear hk1 hbel1 hb1)
    | (go_at_call 11; refine (HH.out.now _ _ _ _ _ _ _ 5 K1.out (by omega) (by omega)).mono ?_; rintro e1 w2 ⟨rfl, hk2, hbel2⟩; have K2 : Hid (CK w2 b 0 false 0 0 0) := hk2; have B2 : Hid (Below w.heap.size w w2) := B1.out.trans (hbel2 _ ZB.out); clear hk2 hbel2; rw [show nowOf false 0 0 0 5 = 0 from rfl, show nowErr false = 10 from rfl])
    | (go_at_call 12; refine (HH.out.pub _ _ _ _ _ _ _ 0 7 0 K2.out (by omega) (by omega) (by omega) (by omega) (by omega) (by omega) (by omega)).mono ?_; rintro e1 w3 ⟨rfl, hk3, hno3, hbel3⟩; clear hno3; have K3 : Hid (CK w3 b 1 true 0 7 0) := hk3 rfl; have B3 : Hid (Below w.heap.size w w3) := B2.out.trans (hbel3 _ ZB.out); clear hk3 hbel3; rw [show pubErr false 0 0 0 = 0 from rfl]))
  go_loopw [10, 11, 12, 13] (fun ev cv lv i wr => ∃ (k mv : Nat) (C L cnt tm rt : Int), k ≤ n1 ∧ mv ≤ k + 1 ∧ i = .int .i64 k ∧ ev = .int .i64 0 ∧ cv = .int .u64 C ∧ lv = .int .u64 L ∧ CK wr b mv true cnt tm rt ∧ cnt ≤ C ∧ 0 ≤ C ∧ C ≤ (k : Int) * 4294967295 ∧ 0 ≤ L ∧ L ≤ toldAt cnt tm rt C ∧ 0 ≤ tm ∧ tm ≤ 18446744073709551615 ∧ -1000 ≤ rt ∧ rt ≤ 1000 ∧ Below w.heap.size w wr) (fun _ _ _ i _ => n1 - (intOf i).toNat)
  case atStart =>
    refine ⟨0, 1, 0, 0, 0, 7, 0, by omega, by omega, rfl, rfl, rfl, rfl, K3.out, by omega, by omega, by omega, by omega, ?_, by omega, by omega, by omega, by omega, B3.out⟩
    exact told_nonneg 0 7 0 0 (by omega) (by omega)
  case round =>
    clear K1 K2 K3 B1 B2 B3 B0
    obtain ⟨k, mv, C, L, cnt, tm, rt, hk, hmv, rfl, rfl, rfl, rfl, hck, hcC, hC0, hC1, hL0, hL1, ht0, ht1, hr0, hr1, hbw⟩ := hrel
    have KR : Hid (CK wr b mv true cnt tm rt) := hck
    have HW : Hid (Below w.heap.size w wr) := hbw
    clear hck hbw
    by_cases hlt : k < n1
    · have hlt' : (k : Int) < n1 := by omega
      obtain ⟨b1, o1, rfl, q1, s0, s1⟩ := H1.out.get (Nat.le_refl _) HW.out hlt
      have HLT : Hid (L ≤ toldAt cnt tm rt (C + st k)) := Int.le_trans hL1 (told_mono cnt tm rt C (C + st k) (by omega) hr0)
      generalize st k = S at q1 s0 s1 HLT
      have hT0 := told_nonneg cnt tm rt (C + S) ht0 hr0
      have hT1 := told_le cnt tm rt (C + S)
      obtain ⟨T, hT⟩ : ∃ T, T = toldAt cnt tm rt (C + S) := ⟨_, rfl⟩
      have HT : Hid (nowOf true cnt tm rt (C + S) = T) := hT.symm
      have HTE : Hid (toldAt cnt tm rt (C + S) = T) := hT.symm
      rw [← hT] at hT0 hT1 HLT
      have hLT : ¬ T < L := by have := HLT.out; omega
      clear hT hL1 HLT
      by_cases hk2 : k < n2
      · have hk2' : (k : Int) < n2 := by omega
        have hk2n : ¬ (n2 : Int) ≤ k := by omega
        have get2 : ∀ (W : World), Below w.heap.size w W → ∃ b2 o2, a2 = some ⟨b2, o2, none⟩ ∧ W.cell? ⟨b2, o2 + k, none⟩ = some (.int .u64 (ts k)) ∧ 0 ≤ ts k ∧ ts k ≤ 18446744073709551615 := fun W hW => H2.out.get (Nat.le_refl _) hW hk2
        obtain ⟨b2, o2, rfl, _, x0, x1⟩ := get2 wr HW.out
        have G2 : Hid (∀ (W : World), Below w.heap.size w W → W.cell? ⟨b2, o2 + k, none⟩ = some (.int .u64 (ts k))) := fun W hW => by
          obtain ⟨b2', o2', e, h, _⟩ := get2 W hW
          cases e
          exact h
        clear get2
        generalize ts k = X at *
        by_cases hodd : X % 2 = 1
        · have hodd' : X.tmod 2 = 1 := by rw [Int.tmod_eq_emod_of_nonneg x0]; exact hodd
          go_wp2_with (first | (go_at_call 11; refine (HH.out.now _ _ _ _ _ _ _ _ KR.out (by omega) (by omega)).mono ?_; rintro e1 w4 ⟨rfl, hk4, hbel4⟩; have K4 : Hid (CK w4 b mv true cnt tm rt) := hk4; have B4 : Hid (Below w.heap.size w w4) := HW.out.trans (hbel4 _ ZB.out); clear hk4 hbel4; rw [HT.out, show nowErr true = 0 from rfl]; have cx : w4.cell? ⟨b2, o2 + k, none⟩ = some (.int .u64 X) := G2.out _ B4.out))
          go_roundw
          case rel => exact ⟨k + 1, mv, C + S, T, cnt, tm, rt, by omega, by omega, by go_num, rfl, rfl, rfl, K4.out, by omega, by omega, by omega, hT0, by rw [HTE.out]; omega, ht0, ht1, hr0, hr1, B4.out⟩
          case measure => simp [intOf]; omega
        · have heven : X % 2 = 0 := by omega
          clear hodd
          by_cases hk3 : k < n3
          · have hk3' : (k : Int) < n3 := by omega
            have get3 : ∀ (W : World), Below w.heap.size w W → ∃ b3 o3, a3 = some ⟨b3, o3, none⟩ ∧ W.cell? ⟨b3, o3 + k, none⟩ = some (.int .i64 (rs k)) ∧ -9223372036854775808 ≤ rs k ∧ rs k ≤ 9223372036854775807 := fun W hW => H3.out.get (Nat.le_refl _) hW hk3
            obtain ⟨b3, o3, rfl, _, y0, y1⟩ := get3 wr HW.out
            have G3 : Hid (∀ (W : World), Below w.heap.size w W → W.cell? ⟨b3, o3 + k, none⟩ = some (.int .i64 (rs k))) := fun W hW => by
              obtain ⟨b3', o3', e, h, _⟩ := get3 W hW
              cases e
              exact h
            clear get3
            have pb := pick_bd (rs k) 2001 (by omega)
            have HPE : Hid (pubErr true cnt (C + S) (pickOf (rs k) 2001 - 1000) = 0) := pub_ok _ _ _ (by omega) (by omega) (by omega)
            have HPT : Hid (pubTime true cnt tm rt (C + S) X = if X < T then T else X) := by show _ = _; unfold pubTime; rw [HTE.out]; simp
            obtain ⟨U, hU⟩ : ∃ U, U = if X < T then T else X := ⟨_, rfl⟩
            have hUb : T ≤ U ∧ X ≤ U ∧ 0 ≤ U ∧ U ≤ 18446744073709551615 ∧ (U = X ∨ U = T) := by rw [hU]; split <;> omega
            rw [← hU] at HPT
            have HNU : Hid (nowOf true (C + S) U (pickOf (rs k) 2001 - 1000) (C + S) = U) := told_at (C + S) U (pickOf (rs k) 2001 - 1000) (C + S) (by omega) (by omega)
            have u1 : ¬ U < T := by omega
            have u2 : ¬ U < X := by omega
            have HUU : Hid (U = X ∨ U = T) := hUb.2.2.2.2
            have uu0 : 0 ≤ U := hUb.2.2.1
            have uu1 : U ≤ 18446744073709551615 := hUb.2.2.2.1
            clear hUb
            clear hU
            by_cases hTU : T < U
            · have hux : U = X := by have := HUU.out; omega
              subst hux
              go_wp2_with (first
                | (go_at_call 11; refine (HH.out.now _ _ _ _ _ _ _ _ K6H.out (by omega) (by omega)).mono ?_; rintro e1 w7 ⟨rfl, hk7, hbel7⟩; have K7 : Hid (CK w7 b (mv + 1) true (C + S) U (pickOf (rs k) 2001 - 1000)) := hk7; have B7 : Hid (Below w.heap.size w w7) := B6.out.trans (hbel7 _ ZB.out); clear hk7 hbel7; rw [HNU.out, show nowErr true = 0 from rfl]; have cx7 : w7.cell? ⟨b2, o2 + k, none⟩ = some (.int .u64 U) := G2.out _ B7.out)
                | (go_at_call 11; refine (HH.out.now _ _ _ _ _ _ _ _ KR.out (by omega) (by omega)).mono ?_; rintro e1 w4 ⟨rfl, hk4, hbel4⟩; have K4 : Hid (CK w4 b mv true cnt tm rt) := hk4; have B4 : Hid (Below w.heap.size w w4) := HW.out.trans (hbel4 _ ZB.out); clear hk4 hbel4; rw [HT.out, show nowErr true = 0 from rfl]; have cx : w4.cell? ⟨b2, o2 + k, none⟩ = some (.int .u64 U) := G2.out _ B4.out; have cr : w4.cell? ⟨b3, o3 + k, none⟩ = some (.int .i64 (rs k)) := G3.out _ B4.out)
                | (go_at_call 7; refine (pick_any _ _ _ y0 y1 (by omega) (by omega)).mono ?_; rintro r1 w5 ⟨rfl, hw5⟩; replace hw5 := hw5.symm; subst hw5)
                | (go_at_call 12; refine (HH.out.pub _ _ _ _ _ _ _ _ _ _ K4.out (by omega) (by omega) (by omega) (by omega) (by omega) (by omega) (by omega)).mono ?_; rintro e1 w6 ⟨rfl, hk6, hno6, hbel6⟩; clear hno6; have K6 := hk6 HPE.out; rw [HPT.out] at K6; have K6H : Hid (CK w6 b (mv + 1) true (C + S) U (pickOf (rs k) 2001 - 1000)) := K6; have B6 : Hid (Below w.heap.size w w6) := B4.out.trans (hbel6 _ ZB.out); clear hk6 hbel6 K6; rw [HPE.out]))
              go_roundw
              case rel => exact ⟨k + 1, mv + 1, C + S, U, C + S, U, (pickOf (rs k) 2001 - 1000), by omega, by omega, by go_num, rfl, rfl, rfl, K7.out, by omega, by omega, by omega, uu0, by rw [told_at _ _ _ _ (Int.le_refl _) uu1]; omega, uu0, uu1, by omega, by omega, B7.out⟩
              case measure => simp [intOf]; omega
            · go_wp2_with (first
                | (go_at_call 11; refine (HH.out.now _ _ _ _ _ _ _ _ K6H.out (by omega) (by omega)).mono ?_; rintro e1 w7 ⟨rfl, hk7, hbel7⟩; have K7 : Hid (CK w7 b (mv + 1) true (C + S) U (pickOf (rs k) 2001 - 1000)) := hk7; have B7 : Hid (Below w.heap.size w w7) := B6.out.trans (hbel7 _ ZB.out); clear hk7 hbel7; rw [HNU.out, show nowErr true = 0 from rfl]; have cx7 : w7.cell? ⟨b2, o2 + k, none⟩ = some (.int .u64 X) := G2.out _ B7.out)
                | (go_at_call 11; refine (HH.out.now _ _ _ _ _ _ _ _ KR.out (by omega) (by omega)).mono ?_; rintro e1 w4 ⟨rfl, hk4, hbel4⟩; have K4 : Hid (CK w4 b mv true cnt tm rt) := hk4; have B4 : Hid (Below w.heap.size w w4) := HW.out.trans (hbel4 _ ZB.out); clear hk4 hbel4; rw [HT.out, show nowErr true = 0 from rfl]; have cx : w4.cell? ⟨b2, o2 + k, none⟩ = some (.int .u64 X) := G2.out _ B4.out; have cr : w4.cell? ⟨b3, o3 + k, none⟩ = some (.int .i64 (rs k)) := G3.out _ B4.out)
                | (go_at_call 7; refine (pick_any _ _ _ y0 y1 (by omega) (by omega)).mono ?_; rintro r1 w5 ⟨rfl, hw5⟩; replace hw5 := hw5.symm; subst hw5)
                | (go_at_call 12; refine (HH.out.pub _ _ _ _ _ _ _ _ _ _ K4.out (by omega) (by omega) (by omega) (by omega) (by omega) (by omega) (by omega)).mono ?_; rintro e1 w6 ⟨rfl, hk6, hno6, hbel6⟩; clear hno6; have K6 := hk6 HPE.out; rw [HPT.out] at K6; have K6H : Hid (CK w6 b (mv + 1) true (C + S) U (pickOf (rs k) 2001 - 1000)) := K6; have B6 : Hid (Below w.heap.size w w6) := B4.out.trans (hbel6 _ ZB.out); clear hk6 hbel6 K6; rw [HPE.out]))
              go_roundw
              case rel => exact ⟨k + 1, mv + 1, C + S, U, C + S, U, (pickOf (rs k) 2001 - 1000), by omega, by omega, by go_num, rfl, rfl, rfl, K7.out, by omega, by omega, by omega, uu0, by rw [told_at _ _ _ _ (Int.le_refl _) uu1]; omega, uu0, uu1, by omega, by omega, B7.out⟩
              case measure => simp [intOf]; omega
          · have hk3' : ¬ (k : Int) < n3 := by omega
            have HPE : Hid (pubErr true cnt (C + S) 0 = 0) := pub_ok _ _ _ (by omega) (by omega) (by omega)
            have HPT : Hid (pubTime true cnt tm rt (C + S) X = if X < T then T else X) := by show _ = _; unfold pubTime; rw [HTE.out]; simp
            obtain ⟨U, hU⟩ : ∃ U, U = if X < T then T else X := ⟨_, rfl⟩
            have hUb : T ≤ U ∧ X ≤ U ∧ 0 ≤ U ∧ U ≤ 18446744073709551615 ∧ (U = X ∨ U = T) := by rw [hU]; split <;> omega
            rw [← hU] at HPT
            have HNU : Hid (nowOf true (C + S) U 0 (C + S) = U) := told_at (C + S) U 0 (C + S) (by omega) (by omega)
            have u1 : ¬ U < T := by omega
            have u2 : ¬ U < X := by omega
            have HUU : Hid (U = X ∨ U = T) := hUb.2.2.2.2
            have uu0 : 0 ≤ U := hUb.2.2.1
            have uu1 : U ≤ 18446744073709551615 := hUb.2.2.2.1
            clear hUb
            clear hU
            by_cases hTU : T < U
            · have hux : U = X := by have := HUU.out; omega
              subst hux
              go_wp2_with (first
                | (go_at_call 11; refine (HH.out.now _ _ _ _ _ _ _ _ K6H.out (by omega) (by omega)).mono ?_; rintro e1 w7 ⟨rfl, hk7, hbel7⟩; have K7 : Hid (CK w7 b (mv + 1) true (C + S) U 0) := hk7; have B7 : Hid (Below w.heap.size w w7) := B6.out.trans (hbel7 _ ZB.out); clear hk7 hbel7; rw [HNU.out, show nowErr true = 0 from rfl]; have cx7 : w7.cell? ⟨b2, o2 + k, none⟩ = some (.int .u64 U) := G2.out _ B7.out)
                | (go_at_call 11; refine (HH.out.now _ _ _ _ _ _ _ _ KR.out (by omega) (by omega)).mono ?_; rintro e1 w4 ⟨rfl, hk4, hbel4⟩; have K4 : Hid (CK w4 b mv true cnt tm rt) := hk4; have B4 : Hid (Below w.heap.size w w4) := HW.out.trans (hbel4 _ ZB.out); clear hk4 hbel4; rw [HT.out, show nowErr true = 0 from rfl]; have cx : w4.cell? ⟨b2, o2 + k, none⟩ = some (.int .u64 U) := G2.out _ B4.out)
                | (go_at_call 12; refine (HH.out.pub _ _ _ _ _ _ _ _ _ _ K4.out (by omega) (by omega) (by omega) (by omega) (by omega) (by omega) (by omega)).mono ?_; rintro e1 w6 ⟨rfl, hk6, hno6, hbel6⟩; clear hno6; have K6 := hk6 HPE.out; rw [HPT.out] at K6; have K6H : Hid (CK w6 b (mv + 1) true (C + S) U 0) := K6; have B6 : Hid (Below w.heap.size w w6) := B4.out.trans (hbel6 _ ZB.out); clear hk6 hbel6 K6; rw [HPE.out]))
              go_roundw
              case rel => exact ⟨k + 1, mv + 1, C + S, U, C + S, U, 0, by omega, by omega, by go_num, rfl, rfl, rfl, K7.out, by omega, by omega, by omega, uu0, by rw [told_at _ _ _ _ (Int.le_refl _) uu1]; omega, uu0, uu1, by omega, by omega, B7.out⟩
              case measure => simp [intOf]; omega
            · go_wp2_with (first
                | (go_at_call 11; refine (HH.out.now _ _ _ _ _ _ _ _ K6H.out (by omega) (by omega)).mono ?_; rintro e1 w7 ⟨rfl, hk7, hbel7⟩; have K7 : Hid (CK w7 b (mv + 1) true (C + S) U 0) := hk7; have B7 : Hid (Below w.heap.size w w7) := B6.out.trans (hbel7 _ ZB.out); clear hk7 hbel7; rw [HNU.out, show nowErr true = 0 from rfl]; have cx7 : w7.cell? ⟨b2, o2 + k, none⟩ = some (.int .u64 X) := G2.out _ B7.out)
                | (go_at_call 11; refine (HH.out.now _ _ _ _ _ _ _ _ KR.out (by omega) (by omega)).mono ?_; rintro e1 w4 ⟨rfl, hk4, hbel4⟩; have K4 : Hid (CK w4 b mv true cnt tm rt) := hk4; have B4 : Hid (Below w.heap.size w w4) := HW.out.trans (hbel4 _ ZB.out); clear hk4 hbel4; rw [HT.out, show nowErr true = 0 from rfl]; have cx : w4.cell? ⟨b2, o2 + k, none⟩ = some (.int .u64 X) := G2.out _ B4.out)
                | (go_at_call 12; refine (HH.out.pub _ _ _ _ _ _ _ _ _ _ K4.out (by omega) (by omega) (by omega) (by omega) (by omega) (by omega) (by omega)).mono ?_; rintro e1 w6 ⟨rfl, hk6, hno6, hbel6⟩; clear hno6; have K6 := hk6 HPE.out; rw [HPT.out] at K6; have K6H : Hid (CK w6 b (mv + 1) true (C + S) U 0) := K6; have B6 : Hid (Below w.heap.size w w6) := B4.out.trans (hbel6 _ ZB.out); clear hk6 hbel6 K6; rw [HPE.out]))
              go_roundw
              case rel => exact ⟨k + 1, mv + 1, C + S, U, C + S, U, 0, by omega, by omega, by go_num, rfl, rfl, rfl, K7.out, by omega, by omega, by omega, uu0, by rw [told_at _ _ _ _ (Int.le_refl _) uu1]; omega, uu0, uu1, by omega, by omega, B7.out⟩
              case measure => simp [intOf]; omega
      · have hk2' : (n2 : Int) ≤ k := by omega
        go_wp2_with (go_at_call 11; refine (HH.out.now _ _ _ _ _ _ _ _ KR.out (by omega) (by omega)).mono ?_; rintro e1 w4 ⟨rfl, hk4, hbel4⟩; have K4 : Hid (CK w4 b mv true cnt tm rt) := hk4; have B4 : Hid (Below w.heap.size w w4) := HW.out.trans (hbel4 _ ZB.out); clear hk4 hbel4; rw [HT.out, show nowErr true = 0 from rfl])
        go_roundw
        case rel => exact ⟨k + 1, mv, C + S, T, cnt, tm, rt, by omega, by omega, by go_num, rfl, rfl, rfl, K4.out, by omega, by omega, by omega, hT0, by rw [HTE.out]; omega, ht0, ht1, hr0, hr1, B4.out⟩
        case measure => simp [intOf]; omega
    · obtain rfl : k = n1 := by omega
      have hlt' : ¬ (k : Int) < k := by omega
      go_wp2
      go_ret
      exact ⟨rfl, HW.out⟩
end Go.Proofs.YtjdcnlggpfkopabDoor
