/- Form: the code's; what its bytes are. -/
import Derived.Test.YtjdcnlggpfkopaaPkD
namespace Go.Proofs.Ytjdcnlggpfkopaa
open Go.ChangeShapes Go.WideShapes Go.ChangeAt Go.RowKit
set_option linter.unusedVariables false

def formErr (a v m c d e : Int) : Int := if fitsB a c d e = false then 5 else kindOf v m
/-- The bytes of a number, the highest first. -/
def bytes4 (n : Int) : List Int := [n / 256 / 256 / 256 % 256, n / 256 / 256 % 256, n / 256 % 256, n % 256]
def bytes8 (n : Int) : List Int := [n / 256 / 256 / 256 / 256 / 256 / 256 / 256 % 256, n / 256 / 256 / 256 / 256 / 256 / 256 % 256, n / 256 / 256 / 256 / 256 / 256 % 256, n / 256 / 256 / 256 / 256 % 256, n / 256 / 256 / 256 % 256, n / 256 / 256 % 256, n / 256 % 256, n % 256]
def formList (b0 b1 b2 b3 f gg h i j k l : Int) : List Int := [b0, b1, b2, b3] ++ bytes4 f ++ bytes4 gg ++ bytes4 h ++ bytes8 i ++ bytes8 j ++ bytes8 k ++ bytes8 l
theorem formList_len (b0 b1 b2 b3 f gg h i j k l : Int) : (formList b0 b1 b2 b3 f gg h i j k l).length = 48 := rfl
set_option maxRecDepth 100000 in
theorem packOf_list (b0 b1 b2 b3 f gg h i j k l : Int) : packOf b0 b1 b2 b3 f gg h i j k l = ((formList b0 b1 b2 b3 f gg h i j k l).map (Value.int .u8)).toArray := by kernel_rfl

/-- What Form hands back. -/
def Formed (w0 w' : World) (r : Value) (er : Int) (zs : List Int) : Prop :=
  (er ≠ 0 ∧ r = .slice none 0 0) ∨ (er = 0 ∧ ∃ g, w0.heap.size ≤ g ∧ r = .slice (some ⟨g, 0, none⟩) 48 48 ∧ w'.heap[g]? = some (.cells (zs.map (Value.int .u8)).toArray 5 (0, 0)))

structure Fits (a v m c d e f gg h i j k l : Int) : Prop where
  bf : 0 ≤ f ∧ f ≤ 4294967295
  bg : 0 ≤ gg ∧ gg ≤ 4294967295
  bh : 0 ≤ h ∧ h ≤ 4294967295
  bi : 0 ≤ i ∧ i ≤ 18446744073709551615
  bj : 0 ≤ j ∧ j ≤ 18446744073709551615
  bk : 0 ≤ k ∧ k ≤ 18446744073709551615
  bl : 0 ≤ l ∧ l ≤ 18446744073709551615

theorem kind_bd (v m : Int) (h : kindOf v m = 0) : (v = 3 ∨ v = 4) ∧ (m = 3 ∨ m = 4) := by
  unfold kindOf at h
  split at h
  · omega
  · split at h
    · omega
    · omega

set_option maxRecDepth 100000 in
set_option maxHeartbeats 800000 in
theorem packetForm_any (a v m c d e f gg h i j k l : Int) (w : World) (hF : Fits a v m c d e f gg h i j k l) :
    Calls Try.prog 37 #[.agg #[.int .i64 a, .int .i64 v, .int .i64 m, .int .i64 c, .int .i64 d, .int .i64 e, .int .u32 f, .int .u32 gg, .int .u32 h, .int .u64 i, .int .u64 j, .int .u64 k, .int .u64 l]] w fun r w' => ∃ s, r = .returned (.tuple #[s, .int .i64 (formErr a v m c d e)]) ∧ Formed w w' s (formErr a v m c d e) (formList (a * 64 + v * 8 + m) (c % 256) (d % 256) (e % 256) f gg h i j k l) ∧ Below w.heap.size w w' := by
  cases hfit : fitsB a c d e with
  | false =>
    have he : formErr a v m c d e = 5 := by unfold formErr; rw [if_pos hfit]
    rw [he]
    clear he
    go_enter Try.func37, Try.ntmps37
    go_wp2_with fail
    refine (fits_any _ _ _ _ _ _ _ _ _ _ _ _ _ _).mono ?_
    rintro r w1 ⟨rfl, hb1⟩
    have s1 : w.heap.size < w1.heap.size := by have := hb1.size; simp at this; omega
    rw [hfit]
    clear hfit
    go_wp2
    go_ret2
    exact ⟨_, rfl, Or.inl ⟨by decide, rfl⟩, ((Below.refl _ _).alloc (Nat.le_refl _) _).trans (hb1.mono (by simp))⟩
  | true =>
    by_cases hk : kindOf v m = 0
    · obtain ⟨kv, km⟩ := kind_bd v m hk
      have he : formErr a v m c d e = 0 := by unfold formErr; rw [if_neg (by simp [hfit]), hk]
      rw [he]
      clear he
      have ba : 0 ≤ a ∧ a ≤ 3 := by
        unfold fitsB at hfit; simp only [Bool.and_eq_true, decide_eq_true_eq] at hfit; exact hfit.1.1.1
      have HK : Hid (kindOf v m = 0) := hk
      clear hk
      have HF : Hid (Fits a v m c d e f gg h i j k l) := hF
      have hF' := hF
      go_enter Try.func37, Try.ntmps37
      go_wp2_with fail
      refine (fits_any _ _ _ _ _ _ _ _ _ _ _ _ _ _).mono ?_
      rintro r w1 ⟨rfl, hb1⟩
      have s1 : w.heap.size < w1.heap.size := by have := hb1.size; simp at this; omega
      have hc1 : ∀ o, w1.cell? ⟨w.heap.size, o, none⟩ = (w.alloc (.cells #[.int .i64 a, .int .i64 v, .int .i64 m, .int .i64 c, .int .i64 d, .int .i64 e, .int .u32 f, .int .u32 gg, .int .u32 h, .int .u64 i, .int .u64 j, .int .u64 k, .int .u64 l] 26)).cell? ⟨w.heap.size, o, none⟩ := fun o => (bcell' hb1).1 _ _ (by simp)
      rw [hfit]
      go_wp2_with fail
      refine (checkKind_any _ _ _ _ _ _ _ _ _ _ _ _ _ _).mono ?_
      rintro r w2 ⟨rfl, hb2⟩
      have s2 : w1.heap.size ≤ w2.heap.size := hb2.size
      have hc2 : ∀ o, w2.cell? ⟨w.heap.size, o, none⟩ = (w.alloc (.cells #[.int .i64 a, .int .i64 v, .int .i64 m, .int .i64 c, .int .i64 d, .int .i64 e, .int .u32 f, .int .u32 gg, .int .u32 h, .int .u64 i, .int .u64 j, .int .u64 k, .int .u64 l] 26)).cell? ⟨w.heap.size, o, none⟩ := fun o => by rw [(bcell' hb2).1 _ _ s1, hc1]
      rw [HK.out]
      clear hc1
      go_wp2_with fail
      refine (pack_any a v m c d e f gg h i j k l _ ba.1 ba.2 (by omega) (by omega) (by omega) (by omega) hF'.bf hF'.bg hF'.bh hF'.bi hF'.bj hF'.bk hF'.bl).mono ?_
      rintro r w3 ⟨rfl, hg3, hb3⟩
      have HG : Hid (w3.heap[w2.heap.size + 1]? = some (.cells (packOf (a * 64 + v * 8 + m) (c % 256) (d % 256) (e % 256) f gg h i j k l) 5 (0, 0))) := hg3
      have hB : Below w.heap.size w w3 := ((Below.refl _ _).alloc (Nat.le_refl _) _).trans ((hb1.mono (by simp)).trans ((hb2.mono (by omega)).trans (hb3.mono (by omega))))
      clear hg3 hb1 hb2 hb3 hc2 hfit
      go_wp2
      go_ret2
      refine ⟨_, rfl, Or.inr ⟨rfl, w2.heap.size + 1, by omega, rfl, ?_⟩, hB⟩
      rw [HG.out, packOf_list]
    · have he : formErr a v m c d e = kindOf v m := by unfold formErr; rw [if_neg (by simp [hfit])]
      rw [he]
      have hkb : (kindOf v m != 0) = true := by simpa using hk
      clear he
      go_enter Try.func37, Try.ntmps37
      go_wp2_with fail
      refine (fits_any _ _ _ _ _ _ _ _ _ _ _ _ _ _).mono ?_
      rintro r w1 ⟨rfl, hb1⟩
      have s1 : w.heap.size < w1.heap.size := by have := hb1.size; simp at this; omega
      have hc1 : ∀ o, w1.cell? ⟨w.heap.size, o, none⟩ = (w.alloc (.cells #[.int .i64 a, .int .i64 v, .int .i64 m, .int .i64 c, .int .i64 d, .int .i64 e, .int .u32 f, .int .u32 gg, .int .u32 h, .int .u64 i, .int .u64 j, .int .u64 k, .int .u64 l] 26)).cell? ⟨w.heap.size, o, none⟩ := fun o => (bcell' hb1).1 _ _ (by simp)
      rw [hfit]
      go_wp2_with fail
      refine (checkKind_any _ _ _ _ _ _ _ _ _ _ _ _ _ _).mono ?_
      rintro r w2 ⟨rfl, hb2⟩
      have hB : Below w.heap.size w w2 := ((Below.refl _ _).alloc (Nat.le_refl _) _).trans ((hb1.mono (by simp)).trans (hb2.mono (by omega)))
      clear hb1 hb2 hc1 hfit
      go_wp2
      go_ret2
      exact ⟨_, rfl, Or.inl ⟨hk, rfl⟩, hB⟩

set_option maxRecDepth 100000 in
set_option maxHeartbeats 800000 in
theorem form_any (a v m c d e f gg h i j k l : Int) (w : World) (hF : Fits a v m c d e f gg h i j k l) :
    Calls Try.prog 13 #[.agg #[.int .i64 a, .int .i64 v, .int .i64 m, .int .i64 c, .int .i64 d, .int .i64 e, .int .u32 f, .int .u32 gg, .int .u32 h, .int .u64 i, .int .u64 j, .int .u64 k, .int .u64 l]] w fun r w' => ∃ s, r = .returned (.tuple #[s, .int .i64 (formErr a v m c d e)]) ∧ Formed w w' s (formErr a v m c d e) (formList (a * 64 + v * 8 + m) (c % 256) (d % 256) (e % 256) f gg h i j k l) ∧ Below w.heap.size w w' := by
  go_enter Try.func13, Try.ntmps13
  go_wp2_with fail
  refine (packetForm_any a v m c d e f gg h i j k l _ hF).mono ?_
  rintro r w1 ⟨s, rfl, hf, hb1⟩
  have HF : Hid (Formed (w.alloc (.cells #[.int .i64 a, .int .i64 v, .int .i64 m, .int .i64 c, .int .i64 d, .int .i64 e, .int .u32 f, .int .u32 gg, .int .u32 h, .int .u64 i, .int .u64 j, .int .u64 k, .int .u64 l] 26)) w1 s (formErr a v m c d e) (formList (a * 64 + v * 8 + m) (c % 256) (d % 256) (e % 256) f gg h i j k l)) := hf
  clear hf
  go_wp2
  go_ret2
  refine ⟨_, rfl, ?_, ((Below.refl _ _).alloc (Nat.le_refl _) _).trans (hb1.mono (by simp))⟩
  rcases HF.out with h | ⟨h, g, hg, hr, hh⟩
  · exact Or.inl h
  · exact Or.inr ⟨h, g, by simp at hg; omega, hr, hh⟩
end Go.Proofs.Ytjdcnlggpfkopaa
