/- Tell at every time: the document's own. -/
import Derived.Test.YtjdcnlggpfkopaaDoorRefTell
namespace Go.Proofs.YtjdcnlggpfkopaaDoor
open Go.ChangeShapes Go.WideShapes Go.ChangeAt Go.RowKit
set_option linter.unusedVariables false

theorem dot46 : (⟨#[46]⟩ : ByteArray) = bytesOf [46] := by decide
set_option maxHeartbeats 400000 in
theorem refTell_any (t : Int) (w : World) (h0 : 0 ≤ t) (h1 : t ≤ 18446744073709551615) :
    Calls Tryd.prog 11 #[.int .u64 t] w fun e w' => e = .returned (.string (bytesOf (tellOf (decOf (t / 4294967296).toNat) t))) ∧ Below w.heap.size w w' := by
  obtain ⟨D, hD⟩ : ∃ D, D = decOf (t / 4294967296).toNat := ⟨_, rfl⟩
  have HD : Hid (D = decOf (t / 4294967296).toNat) := hD
  have hDl : D.length ≤ 20 := by rw [hD]; exact dec_len _ 19 (by omega)
  rw [← hD]
  clear hD
  go_enter Tryd.func11, Tryd.ntmps11
  go_wp2_with fail
  refine (refDigits_any _ _ (by omega) (by omega)).mono ?_
  rintro e w1 ⟨rfl, hb1⟩
  have hB1 : Hid (Below w.heap.size w w1) := hb1
  clear hb1
  rw [← HD.out]
  have hs1 : (bytesOf D).size = D.length := bytesOf_size _
  have hs2 : (⟨#[46]⟩ : ByteArray).size = 1 := rfl
  go_wp2
  go_loopw [3, 4, 5] (fun sv p i wr => ∃ (k : Nat) (q : Int) (L : List Int), k ≤ 10 ∧ i = .int .i64 k ∧ p = .int .u64 q ∧ 0 ≤ q ∧ q < 4294967296 ∧ sv = .string (bytesOf L) ∧ L.length ≤ D.length + 1 + k ∧ L ++ fracDigs (10 - k) q = tellOf D t ∧ Below w.heap.size w wr) (fun _ _ i _ => 10 - (intOf i).toNat)
  case atStart => exact ⟨0, t % 4294967296, D ++ [46], by omega, rfl, rfl, by omega, by omega, by rw [← bytesOf_app, dot46], by simp, by simp [tellOf], hB1.out⟩
  case round =>
    obtain ⟨k, q, L, hk, rfl, rfl, hq0, hq1, rfl, hL, hfd, hb⟩ := hrel
    have HF : Hid (L ++ fracDigs (10 - k) q = tellOf D t) := hfd
    have hB : Hid (Below w.heap.size w wr) := hb
    clear hfd hb hs1 hs2
    by_cases hlt : (k : Int) < 10
    · have hs3 : (bytesOf L).size = L.length := bytesOf_size _
      go_wp2_with fail
      refine (refDigits_any _ _ (by omega) (by omega)).mono ?_
      rintro e w2 ⟨rfl, hb2⟩
      have hB2 : Hid (Below w.heap.size w w2) := hB.out.trans (hb2.mono hB.out.size)
      rw [dec_small _ (by omega), show (((q * 10 / 4294967296).toNat : Nat) : Int) = q * 10 / 4294967296 by omega]
      clear hb2 hB
      have hs4 : (bytesOf [48 + q * 10 / 4294967296]).size = 1 := bytesOf_size _
      go_wp2
      go_roundw
      case rel =>
        refine ⟨k + 1, q * 10 % 4294967296, L ++ [48 + q * 10 / 4294967296], by omega, by go_num, rfl, by omega, by omega, by rw [bytesOf_app], by simp; omega, ?_, hB2.out⟩
        rw [← HF.out, show 10 - k = (10 - (k + 1)) + 1 by omega]
        simp [fracDigs]
      case measure => simp [intOf]; omega
    · have hk10 : k = 10 := by omega
      subst hk10
      have HL : Hid (L = tellOf D t) := by have := HF.out; simpa [fracDigs, Hid] using this
      clear HF
      go_wp2
      go_ret
      exact ⟨ret_str (by rw [HL.out]), hB.out⟩
end Go.Proofs.YtjdcnlggpfkopaaDoor
