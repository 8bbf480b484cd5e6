/- The law Mirrors: the walk. -/
import Derived.Test.YtjdcnlggpfkopaaDoorPkE
import Derived.Test.YtjdcnlggpfkopaaDoorPick
import Derived.Deep.RegionHeld3
import Derived.Deep.DeepCutAuto
import Derived.Test.YtjdcnlggpfkopaaDoorPkM
import Derived.Laws.BytesString
namespace Go.Proofs.YtjdcnlggpfkopaaDoor
open Go.ChangeShapes Go.WideShapes Go.ChangeAt Go.RowKit
set_option linter.unusedVariables false

theorem keep_alloc {w1 : World} {b : Nat} {V : Nat → Option Value} (h : b < w1.heap.size) (hx : ∀ o, w1.cell? ⟨b, o, none⟩ = V o) (X : Obj) : ∀ o, ((w1.alloc X).drew).cell? ⟨b, o, none⟩ = V o := fun o => by
  show (w1.alloc X).cell? ⟨b, o, none⟩ = V o
  rw [World.cell?_alloc_past _ _ _ h]; exact hx o

set_option maxRecDepth 100000 in
set_option maxHeartbeats 4000000 in
theorem mirrors_walk (a v m c d e f gg h i j k l : Int) (o : Option Addr) (n cap : Nat) (z : Nat → Int) (w : World) (hZ : Zeros w) (hF : Fits a v m c d e f gg h i j k l) (hb : Bytes48 w o n cap z)
    (ba0 : -9223372036854775808 ≤ a) (ba1 : a ≤ 9223372036854775807) (bv0 : -9223372036854775808 ≤ v) (bv1 : v ≤ 9223372036854775807) (bm0 : -9223372036854775808 ≤ m) (bm1 : m ≤ 9223372036854775807) (bc0 : -9223372036854775808 ≤ c) (bc1 : c ≤ 9223372036854775807) (bd0 : -9223372036854775808 ≤ d) (bd1 : d ≤ 9223372036854775807) (be0 : -9223372036854775808 ≤ e) (be1 : e ≤ 9223372036854775807) :
    Calls Tryd.prog 4 #[.agg #[.int .i64 a, .int .i64 v, .int .i64 m, .int .i64 c, .int .i64 d, .int .i64 e, .int .u32 f, .int .u32 gg, .int .u32 h, .int .u64 i, .int .u64 j, .int .u64 k, .int .u64 l], .slice o n cap] w fun r w' => r = .returned (.bool true) ∧ Below w.heap.size w w' := by
  have hZ1 : Zeros (w.alloc (.cells #[.int .i64 a, .int .i64 v, .int .i64 m, .int .i64 c, .int .i64 d, .int .i64 e, .int .u32 f, .int .u32 gg, .int .u32 h, .int .u64 i, .int .u64 j, .int .u64 k, .int .u64 l] 30)) := hZ.below ((Below.refl _ _).alloc (Nat.le_refl _) _)
  go_enter Tryd.func4, Tryd.ntmps4
  go_wp2_with fail
  refine (known_any _ hZ1).mono ?_
  rintro r w1 ⟨rfl, hb1⟩
  have hs1 : w.heap.size < w1.heap.size := by have := hb1.size; simp at this; omega
  have hx : ∀ o, w1.cell? ⟨w.heap.size, o, none⟩ = (w.alloc (.cells #[.int .i64 a, .int .i64 v, .int .i64 m, .int .i64 c, .int .i64 d, .int .i64 e, .int .u32 f, .int .u32 gg, .int .u32 h, .int .u64 i, .int .u64 j, .int .u64 k, .int .u64 l] 30)).cell? ⟨w.heap.size, o, none⟩ := fun o => (bcell' hb1).1 _ _ (by simp)
  have HF : Hid (Fits a v m c d e f gg h i j k l) := hF
  have HB : Hid (Bytes48 w o n cap z) := hb
  have HB1 : Hid (Below w.heap.size w w1) := ((Below.refl _ _).alloc (Nat.le_refl _) _).trans (hb1.mono (by simp))
  clear hb1 hZ1 hF hb
  obtain ⟨ka0, ka1⟩ := pick_bd a 4 (by decide)
  obtain ⟨kv0, kv1⟩ := pick_bd v 2 (by decide)
  obtain ⟨km0, km1⟩ := pick_bd m 2 (by decide)
  obtain ⟨kc0, kc1⟩ := pick_bd c 256 (by decide)
  obtain ⟨kd0, kd1⟩ := pick_bd d 256 (by decide)
  obtain ⟨ke0, ke1⟩ := pick_bd e 256 (by decide)
  have n1 : IntKind.i64.wrap (3 + pickOf v 2) = 3 + pickOf v 2 := IntWalk.i64_in _ ⟨by omega, by omega⟩
  have n2 : IntKind.i64.wrap (3 + pickOf m 2) = 3 + pickOf m 2 := IntWalk.i64_in _ ⟨by omega, by omega⟩
  have n3 : IntKind.i64.wrap (pickOf d 256 - 128) = pickOf d 256 - 128 := IntWalk.i64_in _ ⟨by omega, by omega⟩
  have n4 : IntKind.i64.wrap (pickOf e 256 - 128) = pickOf e 256 - 128 := IntWalk.i64_in _ ⟨by omega, by omega⟩
  go_wp2
  go_cut [6] (fun p wc => p = .pointer (some ⟨w1.heap.size, 0, none⟩) ∧ wc = (w1.alloc (.cells #[.int .i64 (pickOf a 4), .int .i64 (3 + pickOf v 2), .int .i64 (3 + pickOf m 2), .int .i64 (pickOf c 256), .int .i64 (pickOf d 256 - 128), .int .i64 (pickOf e 256 - 128), .int .u32 f, .int .u32 gg, .int .u32 h, .int .u64 i, .int .u64 j, .int .u64 k, .int .u64 l] 30)).drew)
  case first =>
    go_region_held3 (fun w' => ∀ o, w'.cell? ⟨w.heap.size, o, none⟩ = (w.alloc (.cells #[.int .i64 a, .int .i64 v, .int .i64 m, .int .i64 c, .int .i64 d, .int .i64 e, .int .u32 f, .int .u32 gg, .int .u32 h, .int .u64 i, .int .u64 j, .int .u64 k, .int .u64 l] 30)).cell? ⟨w.heap.size, o, none⟩) (first | exact hx | exact keep_alloc hs1 hx _) (first | (go_at_call 13; refine (pick_any _ _ _ (by omega) (by omega) (by omega) (by omega)).mono ?_; rintro e w' ⟨rfl, rfl⟩))
    all_goals
      go_wp2
      go_meet
      case rel => exact ⟨rfl, rfl⟩
  case rest =>
    obtain ⟨rfl, rfl⟩ := hcut
    clear n1 n2 n3 n4
    have hF2 : Fits (pickOf a 4) (3 + pickOf v 2) (3 + pickOf m 2) (pickOf c 256) (pickOf d 256 - 128) (pickOf e 256 - 128) f gg h i j k l := ⟨HF.out.bf, HF.out.bg, HF.out.bh, HF.out.bi, HF.out.bj, HF.out.bk, HF.out.bl⟩
    have hE : formErr (pickOf a 4) (3 + pickOf v 2) (3 + pickOf m 2) (pickOf c 256) (pickOf d 256 - 128) (pickOf e 256 - 128) = 0 := by
      unfold formErr fitsB kindOf
      rw [if_neg (by simp only [Bool.and_eq_false_iff, decide_eq_false_iff_not]; omega), if_neg (by omega), if_neg (by omega)]
    have HE : Hid (formErr (pickOf a 4) (3 + pickOf v 2) (3 + pickOf m 2) (pickOf c 256) (pickOf d 256 - 128) (pickOf e 256 - 128) = 0) := hE
    clear hE hx
    go_wp2_with fail
    refine (form_any _ _ _ _ _ _ f gg h i j k l _ hF2).mono ?_
    rintro r w2 ⟨s, rfl, hf, hb2⟩
    rw [HE.out] at hf
    rw [HE.out]
    obtain ⟨g, hg, hsv, hh⟩ : ∃ g, w1.heap.size + 1 ≤ g ∧ s = .slice (some ⟨g, 0, none⟩) 48 48 ∧ w2.heap[g]? = some (.cells ((formList (pickOf a 4 * 64 + (3 + pickOf v 2) * 8 + (3 + pickOf m 2)) (pickOf c 256 % 256) ((pickOf d 256 - 128) % 256) ((pickOf e 256 - 128) % 256) f gg h i j k l).map (Value.int .u8)).toArray 5 (0, 0)) := by
      rcases hf with ⟨h0, _⟩ | ⟨_, g, hg, h1, h2⟩
      · exact absurd rfl h0
      · exact ⟨g, by simpa using hg, h1, h2⟩
    subst hsv
    have hP := parse_form (pickOf a 4) (3 + pickOf v 2) (3 + pickOf m 2) (pickOf c 256) (pickOf d 256 - 128) (pickOf e 256 - 128) f gg h i j k l (by omega) (by omega) (by omega) (by omega) (by omega) (by omega) hF2
    have hBy := row_bytes hh (formList_len _ _ _ _ _ _ _ _ _ _ _) (formList_bd _ _ _ _ _ _ _ _ _ _ _ (by omega) (by omega) (by omega) (by omega))
    have HP : Hid (parseOf 48 (listZ (formList (pickOf a 4 * 64 + (3 + pickOf v 2) * 8 + (3 + pickOf m 2)) (pickOf c 256 % 256) ((pickOf d 256 - 128) % 256) ((pickOf e 256 - 128) % 256) f gg h i j k l)) = (⟨pickOf a 4, 3 + pickOf v 2, 3 + pickOf m 2, pickOf c 256, pickOf d 256 - 128, pickOf e 256 - 128, f, gg, h, i, j, k, l⟩, 0)) := hP
    clear hP hf hh
    have hq2 : ∀ o, w2.cell? ⟨w1.heap.size, o, none⟩ = (w1.alloc (.cells #[.int .i64 (pickOf a 4), .int .i64 (3 + pickOf v 2), .int .i64 (3 + pickOf m 2), .int .i64 (pickOf c 256), .int .i64 (pickOf d 256 - 128), .int .i64 (pickOf e 256 - 128), .int .u32 f, .int .u32 gg, .int .u32 h, .int .u64 i, .int .u64 j, .int .u64 k, .int .u64 l] 30)).cell? ⟨w1.heap.size, o, none⟩ := fun o => (bcell' hb2).1 _ _ (by simp)
    have s2 : w1.heap.size < w2.heap.size := by have := hb2.size; simp at this; omega
    have hB2 : Below w.heap.size w w2 := HB1.out.trans ((((Below.refl _ _).alloc (by omega) _).drew).trans (hb2.mono (by simp; omega)))
    clear hb2
    go_wp2_with fail
    refine (parse_any _ 48 48 _ _ hBy _ HP.out.symm).mono ?_
    clear hBy HP
    rintro r w3 ⟨rfl, hb3⟩
    have s3 : w2.heap.size ≤ w3.heap.size := hb3.size
    have hq3 : ∀ o, w3.cell? ⟨w1.heap.size, o, none⟩ = (w1.alloc (.cells #[.int .i64 (pickOf a 4), .int .i64 (3 + pickOf v 2), .int .i64 (3 + pickOf m 2), .int .i64 (pickOf c 256), .int .i64 (pickOf d 256 - 128), .int .i64 (pickOf e 256 - 128), .int .u32 f, .int .u32 gg, .int .u32 h, .int .u64 i, .int .u64 j, .int .u64 k, .int .u64 l] 30)).cell? ⟨w1.heap.size, o, none⟩ := fun o => by rw [(bcell' hb3).1 _ _ s2, hq2]
    have hB3 : Below w.heap.size w w3 := hB2.trans (hb3.mono (by have := hB2.size; omega))
    clear hb3 hq2 hB2
    have s4 : w1.heap.size < w3.heap.size := by omega
    go_wp2_with fail
    clear hq3 hF2 HE hg s2 s3 s4 ka0 ka1 kv0 kv1 km0 km1 kc0 kc1 kd0 kd1 ke0 ke1 HF HB1 hs1
    refine (parse_any o n cap z _ ((HB.out.below hB3).alloc _) _ rfl).mono ?_
    rintro r w4 ⟨rfl, hb4⟩
    have s4 : w.heap.size ≤ w3.heap.size := hB3.size
    have s5 : w3.heap.size < w4.heap.size := by have := hb4.size; simp at this; omega
    have hB4 : Below w.heap.size w w4 := hB3.trans (((Below.refl _ _).alloc s4 _).trans (hb4.mono (by simp; omega)))
    clear hb4 hB3
    rcases parse_err n z with ⟨her, hze⟩ | ⟨rfl, hok, hkd⟩
    · rw [hze]
      generalize (parseOf n z).2 = er at her ⊢
      have hne : (er != 0) = true := by simpa using her
      clear her hze
      simp only [Pk.zero, Pk.cells]
      go_wp2
      go_ret
      exact ⟨rfl, hB4.alloc (by omega) _⟩
    · rw [hok]
      clear hok
      obtain ⟨hfit, hFu⟩ := unpack_fits z HB.out.bd
      have hfu := form_unpack z HB.out.bd
      obtain ⟨bb, off, rfl, hcap, hcell⟩ := HB.out.at48 rfl
      have hbb : bb < w.heap.size := World.block_lt_of_cell? w _ (hcell 0 (by omega))
      generalize unpackOf z = u at hfit hFu hfu hkd ⊢
      obtain ⟨u1, u2, u3, u4, u5, u6, u7, u8, u9, u10, u11, u12, u13⟩ := u
      simp only at hfit hFu hfu hkd
      have HE : Hid (formErr u1 u2 u3 u4 u5 u6 = 0) := by show _ = _; unfold formErr; rw [if_neg (by simp [hfit]), hkd]
      have HU : Hid (formList (u1 * 64 + u2 * 8 + u3) (u4 % 256) (u5 % 256) (u6 % 256) u7 u8 u9 u10 u11 u12 u13 = list48 z) := hfu
      have HC : Hid (∀ j, j < 48 → w.cell? ⟨bb, off + j, none⟩ = some (.int .u8 (z j))) := hcell
      clear hfit hfu hkd hcell HB
      simp only [Pk.cells]
      go_wp2_with fail
      refine (form_any _ _ _ _ _ _ _ _ _ _ _ _ _ _ hFu).mono ?_
      rintro r w5 ⟨s', rfl, hf, hb5⟩
      rw [HE.out, HU.out] at hf
      rw [HE.out]
      obtain ⟨g2, hg2, hsv, hh⟩ : ∃ g, w4.heap.size + 1 ≤ g ∧ s' = .slice (some ⟨g, 0, none⟩) 48 48 ∧ w5.heap[g]? = some (.cells ((list48 z).map (Value.int .u8)).toArray 5 (0, 0)) := by
        rcases hf with ⟨h0, _⟩ | ⟨_, g, hg, h1, h2⟩
        · exact absurd rfl h0
        · exact ⟨g, by simpa using hg, h1, h2⟩
      subst hsv
      have hB5 : Below w.heap.size w w5 := hB4.trans (((Below.refl _ _).alloc (by omega) _).trans (hb5.mono (by simp; omega)))
      have cv1 : ∀ cap, (convert 31 9 (.slice (some ⟨g2, 0, none⟩) 48 cap)).run Tryd.prog w5 = .ok (.string (strOf (list48 z))) w5 := fun cap =>
        conv_cells (list48 z) (list48_len z) (cells48 (fun j hj => by rw [Nat.zero_add, cell_of_row w5 g2 j _ _ _ hh]; simp [list48_at z j hj]))
      have cv2 : (convert 31 9 (.slice (some ⟨bb, off, none⟩) 48 cap)).run Tryd.prog w5 = .ok (.string (strOf (list48 z))) w5 :=
        conv_cells (list48 z) (list48_len z) (cells48 (fun j hj => by rw [hB5.cell (p := ⟨bb, off + j, none⟩) hbb]; exact HC.out j hj))
      clear hf hh hb5 hg2
      generalize strOf (list48 z) = str at cv1 cv2
      go_wp2
      go_ret
      exact ⟨rfl, hB5⟩
end Go.Proofs.YtjdcnlggpfkopaaDoor
