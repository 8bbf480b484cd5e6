/- Tell at every time: the code's, the document's own. -/
import Derived.Test.YtjdcnlggpfkopaaDoorAppU
namespace Go.Proofs.YtjdcnlggpfkopaaDoor
open Go.ChangeShapes Go.WideShapes Go.ChangeAt Go.RowKit
set_option linter.unusedVariables false

theorem bytes_fold (L : List Int) (a : ByteArray) : (L.foldl (fun r n => r.push (UInt8.ofNat n.toNat)) a).data.toList = a.data.toList ++ L.map (fun n => UInt8.ofNat n.toNat) := by
  induction L generalizing a with
  | nil => simp
  | cons x L ih => rw [List.foldl_cons, ih]; simp [ByteArray.push]
theorem bytesOf_data (L : List Int) : (bytesOf L).data.toList = L.map (fun n => UInt8.ofNat n.toNat) := by unfold bytesOf; rw [bytes_fold]; rfl
theorem bytesOf_size (L : List Int) : (bytesOf L).size = L.length := by
  show (bytesOf L).data.size = _
  rw [← Array.length_toList, bytesOf_data, List.length_map]
theorem bytesOf_app (a b : List Int) : bytesOf a ++ bytesOf b = bytesOf (a ++ b) := by
  have h : (bytesOf a ++ bytesOf b).data.toList = (bytesOf (a ++ b)).data.toList := by
    rw [bytesOf_data, List.map_append, ← bytesOf_data, ← bytesOf_data]; simp
  have := Array.toList_inj.1 h
  cases h1 : bytesOf a ++ bytesOf b; cases h2 : bytesOf (a ++ b)
  rw [h1, h2] at this
  simp_all
theorem dec_small (u : Nat) (h : u < 10) : decOf u = [48 + (u : Int)] := by
  unfold decOf; rw [Lib.decDigits, dif_pos h]
  simp; omega
theorem dec_big (u : Nat) (h : ¬ u < 10) : decOf u = decOf (u / 10) ++ [48 + (u : Int) % 10] := by
  unfold decOf; rw [Lib.decDigits, dif_neg h]
  simp; omega
theorem dec_len (u k : Nat) (h : u < 10 ^ (k + 1)) : (decOf u).length ≤ k + 1 := by
  induction k generalizing u with
  | zero => rw [dec_small u (by simpa using h)]; simp
  | succ k ih =>
    by_cases hu : u < 10
    · rw [dec_small u hu]; simp
    · rw [dec_big u hu]
      have := ih (u / 10) (by rw [Nat.pow_succ] at h; exact Nat.div_lt_of_lt_mul (by rw [Nat.mul_comm]; exact h))
      simp; omega
/-- The figures of what is left; none of nothing. -/
def decLeft (u : Nat) : List Int := if u = 0 then [] else decOf u
theorem decLeft_step (u : Nat) (h : u ≠ 0) : decLeft (u / 10) ++ [48 + (u : Int) % 10] = decLeft u := by
  unfold decLeft
  rw [if_neg h]
  by_cases hu : u < 10
  · rw [if_pos (by omega), dec_small u hu]; simp; omega
  · rw [if_neg (by omega), ← dec_big u hu]
theorem dec_first (u : Nat) : decLeft (u / 10) ++ [48 + (u : Int) % 10] = decOf u := by
  by_cases hu : u = 0
  · subst hu; rw [dec_small 0 (by decide)]; rfl
  · rw [decLeft_step u hu, decLeft, if_neg hu]

theorem tellIn_any (t : Nat) (w : World) (h1 : t < 18446744073709551616) (hT : Tens w) :
    Calls Tryd.prog 22 #[.int .u64 t] w fun e w' => e = .returned (.string (bytesOf (tellOf (decOf (t / 4294967296)) t))) ∧ Below w.heap.size w w' :=
  tell_walk t (decOf (t / 4294967296)) w (by omega) (by omega) (Nat.le_trans (dec_len _ 19 (by omega)) (by decide)) (append_any (t / 4294967296) (by omega) w hT)

theorem conv_one (W : World) (d : Int) : (convert 31 9 (.slice (some ⟨W.heap.size, 0, none⟩) 1 1)).run Tryd.prog (W.alloc (.cells #[.int .u8 d] 5)) = .ok (.string (bytesOf [d])) (W.alloc (.cells #[.int .u8 d] 5)) := by
  rw [run_convert_bytes_string _ 31 9 5 _ _ _ Tryd.underlying31 Tryd.underlying5 Tryd.underlying9]
  have := run_loadCells_list (P := Tryd.prog) (W.alloc (.cells #[.int .u8 d] 5)) ⟨W.heap.size, 0, none⟩ ([d].map (Value.int .u8)) (Go.cell_one_new _ _ _)
  exact run_bytesToString _ _ _ _ [d] this
set_option maxHeartbeats 400000 in
theorem refDigits_any (x : Int) (w : World) (h0 : 0 ≤ x) (h1 : x ≤ 18446744073709551615) :
    Calls Tryd.prog 26 #[.int .u64 x] w fun e w' => e = .returned (.string (bytesOf (decOf x.toNat))) ∧ Below w.heap.size w w' := by
  have cv := conv_one
  go_enter Tryd.func26, Tryd.ntmps26
  go_wp2
  go_loopw [0, 3] (fun nv sv wr => ∃ (y : Int) (L : List Int), nv = .int .u64 y ∧ sv = .string (bytesOf L) ∧ 0 ≤ y ∧ y ≤ 18446744073709551615 ∧ L.length ≤ 20 ∧ decLeft y.toNat ++ L = decOf x.toNat ∧ Below w.heap.size w wr) (fun nv _ _ => (intOf nv).toNat)
  case atStart =>
    refine ⟨x / 10, [48 + x % 10], rfl, rfl, by omega, by omega, by simp, ?_, (Below.refl _ _).alloc (Nat.le_refl _) _⟩
    rw [show (x / 10).toNat = x.toNat / 10 by omega, show x % 10 = (x.toNat : Int) % 10 by omega, dec_first]
  case round =>
    obtain ⟨y, L, rfl, rfl, hy0, hy1, hL, hdl, hb⟩ := hrel
    have HD : Hid (decLeft y.toNat ++ L = decOf x.toNat) := hdl
    have hB : Hid (Below w.heap.size w wr) := hb
    clear hdl hb
    by_cases hy : 0 < y
    · have hs1 : (bytesOf [48 + y % 10]).size = 1 := bytesOf_size _
      have hs2 : (bytesOf L).size = L.length := bytesOf_size _
      go_wp2
      go_roundw
      case rel =>
        refine ⟨y / 10, (48 + y % 10) :: L, rfl, by rw [bytesOf_app]; rfl, by omega, by omega, ?_, ?_, hB.out.alloc hB.out.size _⟩
        · have h2 := congrArg List.length HD.out
          have h3 := dec_len x.toNat 19 (by omega)
          rw [← decLeft_step y.toNat (by omega)] at h2
          simp at h2
          simp; omega
        · rw [← HD.out, ← decLeft_step y.toNat (by omega), show (y / 10).toNat = y.toNat / 10 by omega, show y % 10 = (y.toNat : Int) % 10 by omega]
          simp
      case measure => simp [intOf]; omega
    · obtain rfl : y = 0 := by omega
      have HL : Hid (L = decOf x.toNat) := by have := HD.out; simpa [decLeft, Hid] using this
      clear HD
      go_wp2
      go_ret
      exact ⟨ret_str (by rw [HL.out]), hB.out⟩
end Go.Proofs.YtjdcnlggpfkopaaDoor
