/- Reply: the code's. -/
import Derived.Test.YtjdcnlggpfkopaaMeas
import Derived.Test.YtjdcnlggpfkopaaPkE
namespace Go.Proofs.Ytjdcnlggpfkopaa
open Go.ChangeShapes Go.WideShapes Go.ChangeAt Go.RowKit
set_option linter.unusedVariables false

theorem ahead_any (a b : Int) (w : World) :
    Calls Try.prog 64 #[.int .u64 a, .int .u64 b] w fun e w' => e = .returned (.bool (decide (diff a b < 0))) ∧ w' = w := by
  go_enter Try.func64, Try.ntmps64
  go_wp2_with (refine (difference_any _ _ _).mono ?_; rintro e w1 ⟨rfl, rfl⟩)
  go_ret
  exact ⟨rfl, rfl⟩

theorem parseOf_ok (n : Nat) (z : Nat → Int) (r : Pk × Int) (hr : r = parseOf n z) (h : r.2 = 0) : n = 48 ∧ r.1 = unpackOf z ∧ kindOf r.1.version r.1.mode = 0 := by
  unfold parseOf at hr
  by_cases h1 : n < 48
  · rw [if_pos h1] at hr; subst hr; cases h
  · rw [if_neg h1] at hr
    by_cases h2 : 48 < n
    · rw [if_pos h2] at hr; subst hr; cases h
    · rw [if_neg h2] at hr
      by_cases h3 : kindOf (unpackOf z).version (unpackOf z).mode ≠ 0
      · rw [if_pos h3] at hr; subst hr; exact absurd h h3
      · rw [if_neg h3] at hr; subst hr; exact ⟨by omega, rfl, by simpa using h3⟩
theorem unpack_bd (z : Nat → Int) (hz : ∀ j, 0 ≤ z j ∧ z j ≤ 255) :
    (0 ≤ (unpackOf z).reference ∧ (unpackOf z).reference ≤ 18446744073709551615) ∧ (0 ≤ (unpackOf z).origin ∧ (unpackOf z).origin ≤ 18446744073709551615) ∧ (0 ≤ (unpackOf z).receive ∧ (unpackOf z).receive ≤ 18446744073709551615) ∧ (0 ≤ (unpackOf z).transmit ∧ (unpackOf z).transmit ≤ 18446744073709551615) := by
  have e : (256 : Int) ^ 8 = 18446744073709551616 := by decide
  have h1 := beNum_bd (shift z 16) (fun j => hz _) 8
  have h2 := beNum_bd (shift z 24) (fun j => hz _) 8
  have h3 := beNum_bd (shift z 32) (fun j => hz _) 8
  have h4 := beNum_bd (shift z 40) (fun j => hz _) 8
  rw [e] at h1 h2 h3 h4
  exact ⟨⟨h1.1, Int.le_of_lt_add_one h1.2⟩, ⟨h2.1, Int.le_of_lt_add_one h2.2⟩, ⟨h3.1, Int.le_of_lt_add_one h3.2⟩, ⟨h4.1, Int.le_of_lt_add_one h4.2⟩⟩

theorem hid_of {P : Prop} (h : P) : Hid P := h
theorem Formed.more {w0 w1 w' : World} {r : Value} {er : Int} {zs : List Int} (h : Formed w1 w' r er zs) (hs : w0.heap.size ≤ w1.heap.size) : Formed w0 w' r er zs := by
  rcases h with h | ⟨h, g, hg, hr, hh⟩
  · exact Or.inl h
  · exact Or.inr ⟨h, g, Nat.le_trans hs hg, hr, hh⟩
/-- What Reply answers: the error; the bytes. -/
def replyErr (r : Pk × Int) (a c e rc tr : Int) : Int := if r.2 ≠ 0 then r.2 else if r.1.mode ≠ 3 then 4 else if diff tr rc < 0 then 9 else formErr a r.1.version 4 c r.1.poll e
def replyList (r : Pk × Int) (a c e f gg h i rc tr : Int) : List Int := formList (a * 64 + r.1.version * 8 + 4) (c % 256) (r.1.poll % 256) (e % 256) f gg h i r.1.transmit rc tr

set_option maxRecDepth 100000 in
set_option maxHeartbeats 2000000 in
theorem serverReply_any (a v m c d e f gg h i j k l rc tr : Int) (o : Option Addr) (n cap : Nat) (z : Nat → Int) (w : World) (hB : Bytes48 w o n cap z) (hF : Fits a v m c d e f gg h i j k l) (hrc : 0 ≤ rc ∧ rc ≤ 18446744073709551615) (htr : 0 ≤ tr ∧ tr ≤ 18446744073709551615) (r : Pk × Int) (hr : r = parseOf n z) :
    Calls Try.prog 43 #[.slice o n cap, .agg #[.int .i64 a, .int .i64 v, .int .i64 m, .int .i64 c, .int .i64 d, .int .i64 e, .int .u32 f, .int .u32 gg, .int .u32 h, .int .u64 i, .int .u64 j, .int .u64 k, .int .u64 l], .int .u64 rc, .int .u64 tr] w fun q w' => ∃ s, q = .returned (.tuple #[s, .int .i64 (replyErr r a c e rc tr)]) ∧ Formed w w' s (replyErr r a c e rc tr) (replyList r a c e f gg h i rc tr) ∧ Below w.heap.size w w' := by
  have HB : Hid (Bytes48 w o n cap z) := hB
  have HF : Hid (Fits a v m c d e f gg h i j k l) := hF
  have HR : Hid (r = parseOf n z) := hr
  have HZ : Hid ((0 ≤ rc ∧ rc ≤ 18446744073709551615) ∧ (0 ≤ tr ∧ tr ≤ 18446744073709551615)) := ⟨hrc, htr⟩
  have HP : Hid (r.2 = 0 → 0 ≤ r.1.transmit ∧ r.1.transmit ≤ 18446744073709551615) := fun h => by
    obtain ⟨_, h1, _⟩ := parseOf_ok n z r hr h
    rw [h1]; exact (unpack_bd z hB.bd).2.2.2
  clear hB hF hr hrc htr
  go_enter Try.func43, Try.ntmps43
  go_wp2_with fail
  refine (packetParse_any o n cap z _ (HB.out.alloc _) r HR.out).mono ?_
  rintro r1 w1 ⟨rfl, hb1⟩
  have B1 : Hid (Below w.heap.size w w1) := ((Below.refl _ _).alloc (Nat.le_refl _) _).trans (hb1.mono (by simp))
  have cs : ∀ o, w1.cell? ⟨w.heap.size, o, none⟩ = (w.alloc (.cells #[.int .i64 a, .int .i64 v, .int .i64 m, .int .i64 c, .int .i64 d, .int .i64 e, .int .u32 f, .int .u32 gg, .int .u32 h, .int .u64 i, .int .u64 j, .int .u64 k, .int .u64 l] 26)).cell? ⟨w.heap.size, o, none⟩ := fun o => hb1.cell (p := ⟨w.heap.size, o, none⟩) (by simp)
  have lt1 : w.heap.size < w1.heap.size := by have := hb1.size; simp at this; omega
  clear hb1 HB HR
  obtain ⟨⟨x1, x2, x3, x4, x5, x6, x7, x8, x9, x10, x11, x12, x13⟩, xe⟩ := r
  simp only [Pk.cells]
  by_cases h1 : xe = 0
  · subst h1
    by_cases h2 : x3 = 3
    · subst h2
      by_cases h3 : diff tr rc < 0
      · have hE : replyErr (⟨x1, x2, 3, x4, x5, x6, x7, x8, x9, x10, x11, x12, x13⟩, 0) a c e rc tr = 9 := by simp [replyErr, h3]
        have h3' : decide (diff tr rc < 0) = true := by simp [h3]
        have HE := hid_of hE
        clear hE HP
        go_wp2_with (refine (ahead_any tr rc _).mono ?_; rintro e w2 ⟨rfl, rfl⟩; rw [h3'])
        go_ret2
        rw [HE.out]
        exact ⟨_, rfl, Or.inl ⟨by decide, rfl⟩, B1.out.trans ((Below.refl _ _).alloc (by omega) _)⟩
      · have hE : replyErr (⟨x1, x2, 3, x4, x5, x6, x7, x8, x9, x10, x11, x12, x13⟩, 0) a c e rc tr = formErr a x2 4 c x5 e := by simp [replyErr, h3]
        have h3' : decide (diff tr rc < 0) = false := by simp [h3]
        have HE := hid_of hE
        have HFF : Hid (Fits a x2 4 c x5 e f gg h i x13 rc tr) := ⟨HF.out.bf, HF.out.bg, HF.out.bh, HF.out.bi, HP.out rfl, HZ.out.1, HZ.out.2⟩
        clear hE HP HF HZ
        go_wp2_with (first | (refine (ahead_any tr rc _).mono ?_; rintro e w2 ⟨rfl, rfl⟩; rw [h3']) | fail)
        refine (packetForm_any a x2 4 c x5 e f gg h i x13 rc tr _ HFF.out).mono ?_
        rintro r1 w2 ⟨s, rfl, hf, hb2⟩
        have HF2 : Hid (Formed w w2 s (formErr a x2 4 c x5 e) (formList (a * 64 + x2 * 8 + 4) (c % 256) (x5 % 256) (e % 256) f gg h i x13 rc tr)) := hf.more (by simp; omega)
        have B2 : Hid (Below w.heap.size w w2) := B1.out.trans (((Below.refl _ _).alloc (by omega) _).trans (hb2.mono (by simp; omega)))
        clear hf hb2 HFF h3' cs B1
        go_wp2
        go_ret2
        rw [HE.out]
        exact ⟨_, rfl, HF2.out, B2.out⟩
    · have hE : replyErr (⟨x1, x2, x3, x4, x5, x6, x7, x8, x9, x10, x11, x12, x13⟩, 0) a c e rc tr = 4 := by simp [replyErr, h2]
      have HE := hid_of hE
      clear hE HP
      go_wp2
      go_ret2
      rw [HE.out]
      exact ⟨_, rfl, Or.inl ⟨by decide, rfl⟩, B1.out.trans ((Below.refl _ _).alloc (by omega) _)⟩
  · have hE : replyErr (⟨x1, x2, x3, x4, x5, x6, x7, x8, x9, x10, x11, x12, x13⟩, xe) a c e rc tr = xe := by simp [replyErr, h1]
    have HE := hid_of hE
    clear hE HP
    go_wp2
    go_ret2
    rw [HE.out]
    exact ⟨_, rfl, Or.inl ⟨h1, rfl⟩, B1.out.trans ((Below.refl _ _).alloc (by omega) _)⟩

set_option maxRecDepth 100000 in
set_option maxHeartbeats 800000 in
theorem reply_any (a v m c d e f gg h i j k l rc tr : Int) (o : Option Addr) (n cap : Nat) (z : Nat → Int) (w : World) (hB : Bytes48 w o n cap z) (hF : Fits a v m c d e f gg h i j k l) (hrc : 0 ≤ rc ∧ rc ≤ 18446744073709551615) (htr : 0 ≤ tr ∧ tr ≤ 18446744073709551615) (r : Pk × Int) (hr : r = parseOf n z) :
    Calls Try.prog 21 #[.slice o n cap, .agg #[.int .i64 a, .int .i64 v, .int .i64 m, .int .i64 c, .int .i64 d, .int .i64 e, .int .u32 f, .int .u32 gg, .int .u32 h, .int .u64 i, .int .u64 j, .int .u64 k, .int .u64 l], .int .u64 rc, .int .u64 tr] w fun q w' => ∃ s, q = .returned (.tuple #[s, .int .i64 (replyErr r a c e rc tr)]) ∧ Formed w w' s (replyErr r a c e rc tr) (replyList r a c e f gg h i rc tr) ∧ Below w.heap.size w w' := by
  have HB : Hid (Bytes48 w o n cap z) := hB
  have HR : Hid (r = parseOf n z) := hr
  clear hB hr
  go_enter Try.func21, Try.ntmps21
  go_wp2_with fail
  refine (serverReply_any a v m c d e f gg h i j k l rc tr o n cap z _ (HB.out.alloc _) hF hrc htr r HR.out).mono ?_
  rintro r1 w1 ⟨s, rfl, hf, hb1⟩
  have HF2 : Hid (Formed w w1 s (replyErr r a c e rc tr) (replyList r a c e f gg h i rc tr)) := hf.more (by simp)
  have B2 : Hid (Below w.heap.size w w1) := ((Below.refl _ _).alloc (Nat.le_refl _) _).trans (hb1.mono (by simp))
  clear hf hb1 HB HR
  go_wp2
  go_ret2
  exact ⟨_, rfl, HF2.out, B2.out⟩
end Go.Proofs.Ytjdcnlggpfkopaa
