/- Reply: the document's own. -/
import Derived.Test.YtjdcnlggpfkopaaRep
import Derived.Test.YtjdcnlggpfkopaaRefMeas
import Derived.Test.YtjdcnlggpfkopaaRefPk
import Derived.Test.YtjdcnlggpfkopaaRefFormB
namespace Go.Proofs.Ytjdcnlggpfkopaa
open Go.ChangeShapes Go.WideShapes Go.ChangeAt Go.RowKit
set_option linter.unusedVariables false

theorem RefFormed.more {w0 w1 w' : World} {r : Value} {er : Int} {zs : List Int} (h : RefFormed w1 w' r er zs) (hs : w0.heap.size ≤ w1.heap.size) : RefFormed w0 w' r er zs := by
  rcases h with h | ⟨h, ho⟩
  · exact Or.inl h
  · refine Or.inr ⟨h, ho.1, ?_⟩
    rcases ho.2 with h0 | ⟨g, c, cur, h1, h2, h3⟩
    · exact Or.inl h0
    · exact Or.inr ⟨g, c, cur, h1, by omega, h3⟩
set_option maxRecDepth 100000 in
set_option maxHeartbeats 2000000 in
theorem refReply_any (a v m c d e f gg h i j k l rc tr : Int) (o : Option Addr) (n cap : Nat) (z : Nat → Int) (w : World) (hB : Bytes48 w o n cap z) (hF : Fits a v m c d e f gg h i j k l) (hrc : 0 ≤ rc ∧ rc ≤ 18446744073709551615) (htr : 0 ≤ tr ∧ tr ≤ 18446744073709551615) (r : Pk × Int) (hr : r = parseOf n z) :
    Calls Try.prog 22 #[.slice o n cap, .agg #[.int .i64 a, .int .i64 v, .int .i64 m, .int .i64 c, .int .i64 d, .int .i64 e, .int .u32 f, .int .u32 gg, .int .u32 h, .int .u64 i, .int .u64 j, .int .u64 k, .int .u64 l], .int .u64 rc, .int .u64 tr] w fun q w' => ∃ s, q = .returned (.tuple #[s, .int .i64 (replyErr r a c e rc tr)]) ∧ RefFormed w w' s (replyErr r a c e rc tr) (replyList r a c e f gg h i rc tr) ∧ Below w.heap.size w w' := by
  have HB : Hid (Bytes48 w o n cap z) := hB
  have HF : Hid (Fits a v m c d e f gg h i j k l) := hF
  have HR : Hid (r = parseOf n z) := hr
  have HZ : Hid ((0 ≤ rc ∧ rc ≤ 18446744073709551615) ∧ (0 ≤ tr ∧ tr ≤ 18446744073709551615)) := ⟨hrc, htr⟩
  have HP : Hid (r.2 = 0 → 0 ≤ r.1.transmit ∧ r.1.transmit ≤ 18446744073709551615) := fun h => by
    obtain ⟨_, h1, _⟩ := parseOf_ok n z r hr h
    rw [h1]; exact (unpack_bd z hB.bd).2.2.2
  clear hB hF hr hrc htr
  go_enter Try.func22, Try.ntmps22
  go_wp2_with fail
  refine (refParse_any o n cap z _ (HB.out.alloc _) r HR.out).mono ?_
  rintro r1 w1 ⟨rfl, hb1⟩
  have B1 : Hid (Below w.heap.size w w1) := ((Below.refl _ _).alloc (Nat.le_refl _) _).trans (hb1.mono (by simp))
  have cs : ∀ o, w1.cell? ⟨w.heap.size, o, none⟩ = (w.alloc (.cells #[.int .i64 a, .int .i64 v, .int .i64 m, .int .i64 c, .int .i64 d, .int .i64 e, .int .u32 f, .int .u32 gg, .int .u32 h, .int .u64 i, .int .u64 j, .int .u64 k, .int .u64 l] 26)).cell? ⟨w.heap.size, o, none⟩ := fun o => hb1.cell (p := ⟨w.heap.size, o, none⟩) (by simp)
  have lt1 : w.heap.size < w1.heap.size := by have := hb1.size; simp at this; omega
  clear hb1 HB HR
  obtain ⟨⟨x1, x2, x3, x4, x5, x6, x7, x8, x9, x10, x11, x12, x13⟩, xe⟩ := r
  simp only [Pk.cells]
  by_cases h1 : xe = 0
  · subst h1
    by_cases h2 : x3 = 3
    · subst h2
      by_cases h3 : diff tr rc < 0
      · have hE : replyErr (⟨x1, x2, 3, x4, x5, x6, x7, x8, x9, x10, x11, x12, x13⟩, 0) a c e rc tr = 9 := by simp [replyErr, h3]
        have HE := hid_of hE
        clear hE HP
        go_wp2_with (refine (refDifference_any tr rc _).mono ?_; rintro e w2 ⟨rfl, rfl⟩)
        go_ret2
        rw [HE.out]
        exact ⟨_, rfl, Or.inl ⟨by decide, rfl⟩, B1.out.trans ((Below.refl _ _).alloc (by omega) _)⟩
      · have hE : replyErr (⟨x1, x2, 3, x4, x5, x6, x7, x8, x9, x10, x11, x12, x13⟩, 0) a c e rc tr = formErr a x2 4 c x5 e := by simp [replyErr, h3]
        have HE := hid_of hE
        have HFF : Hid (Fits a x2 4 c x5 e f gg h i x13 rc tr) := ⟨HF.out.bf, HF.out.bg, HF.out.bh, HF.out.bi, HP.out rfl, HZ.out.1, HZ.out.2⟩
        clear hE HP HF HZ
        go_wp2_with (first | (refine (refDifference_any tr rc _).mono ?_; rintro e w2 ⟨rfl, rfl⟩) | fail)
        refine (refForm_any a x2 4 c x5 e f gg h i x13 rc tr _ HFF.out).mono ?_
        rintro r1 w2 ⟨s, rfl, hf, hb2⟩
        have HF2 : Hid (RefFormed w w2 s (formErr a x2 4 c x5 e) (formList (a * 64 + x2 * 8 + 4) (c % 256) (x5 % 256) (e % 256) f gg h i x13 rc tr)) := hf.more (by simp; omega)
        have B2 : Hid (Below w.heap.size w w2) := B1.out.trans (((Below.refl _ _).alloc (by omega) _).trans (((Below.refl _ _).alloc (by simp; omega) _).trans (hb2.mono (by simp; omega))))
        clear hf hb2 HFF cs B1
        go_wp2
        go_ret2
        rw [HE.out]
        exact ⟨_, rfl, HF2.out, B2.out⟩
    · have hE : replyErr (⟨x1, x2, x3, x4, x5, x6, x7, x8, x9, x10, x11, x12, x13⟩, 0) a c e rc tr = 4 := by simp [replyErr, h2]
      have HE := hid_of hE
      clear hE HP
      go_wp2
      go_ret2
      rw [HE.out]
      exact ⟨_, rfl, Or.inl ⟨by decide, rfl⟩, B1.out.trans ((Below.refl _ _).alloc (by omega) _)⟩
  · have hE : replyErr (⟨x1, x2, x3, x4, x5, x6, x7, x8, x9, x10, x11, x12, x13⟩, xe) a c e rc tr = xe := by simp [replyErr, h1]
    have HE := hid_of hE
    clear hE HP
    go_wp2
    go_ret2
    rw [HE.out]
    exact ⟨_, rfl, Or.inl ⟨h1, rfl⟩, B1.out.trans ((Below.refl _ _).alloc (by omega) _)⟩
end Go.Proofs.Ytjdcnlggpfkopaa
