/- Bytes out of packets: the code's. -/
import Derived.Test.YtjdcnlggpfkopaaPkC
import Derived.Laws.Rows
namespace Go.Proofs.Ytjdcnlggpfkopaa
open Go.ChangeShapes Go.WideShapes Go.ChangeAt Go.RowKit
set_option linter.unusedVariables false

/-- A number put into k places from off on, the highest byte first. -/
def putN (cur : Array Value) (off : Nat) : Nat → Int → Array Value
  | 0, _ => cur
  | k + 1, n => putN (cur.setIfInBounds (off + k) (.int .u8 (n % 256))) off k (n / 256)
theorem putN_size (cur : Array Value) (off k : Nat) (n : Int) : (putN cur off k n).size = cur.size := by
  induction k generalizing cur n with
  | zero => rfl
  | succ k ih => simp [putN, ih]

set_option maxHeartbeats 400000 in
theorem putNumber_any (cur : Array Value) (g off len cap : Nat) (n : Int) (w : World) (h0 : 0 ≤ n) (h1 : n ≤ 18446744073709551615) (hl : off + len ≤ cur.size) (hs : cur.size ≤ 1000) (hlen : len ≤ 8)
    (hg : w.heap[g]? = some (.cells cur 5 (0, 0))) :
    Calls Try.prog 84 #[.slice (some ⟨g, off, none⟩) len cap, .int .u64 n] w fun e w' => e = .returned (.tuple #[]) ∧ w'.heap[g]? = some (.cells (putN cur off len n) 5 (0, 0)) ∧ Below g w w' ∧ w'.heap.size = w.heap.size := by
  have HG : Hid (w.heap[g]? = some (.cells cur 5 (0, 0))) := hg
  clear hg
  go_enter Try.func84, Try.ntmps84
  go_wp2
  go_loopw [1, 4] (fun nv i wr => ∃ (k : Nat) (x : Int) (c : Array Value), i = .int .i64 ((k : Int) - 1) ∧ nv = .int .u64 x ∧ 0 ≤ x ∧ x ≤ 18446744073709551615 ∧ k ≤ len ∧ wr.heap[g]? = some (.cells c 5 (0, 0)) ∧ c.size = cur.size ∧
      putN c off k x = putN cur off len n ∧ Below g w wr ∧ wr.heap.size = w.heap.size) (fun _ i _ => (intOf i + 1).toNat)
  case atStart => exact ⟨len, n, cur, rfl, rfl, h0, h1, Nat.le_refl _, HG.out, rfl, rfl, Below.refl _ _, rfl⟩
  case round =>
    obtain ⟨k, x, c, rfl, rfl, hx0, hx1, hk, hg, hcs, hput, hb, hsz⟩ := hrel
    have HG2 : Hid (wr.heap[g]? = some (.cells c 5 (0, 0))) := hg
    have HS : Hid (c.size = cur.size ∧ wr.heap.size = w.heap.size) := ⟨hcs, hsz⟩
    have HP : Hid (putN c off k x = putN cur off len n) := hput
    cases k with
    | zero =>
      clear hg hcs hput hsz
      go_wp2
      go_end0
      exact ⟨rfl, by rw [← HP.out]; exact HG2.out, hb, HS.out.2⟩
    | succ k =>
      have e1 : (((k + 1 : Nat) : Int) - 1) = (k : Int) := by omega
      rw [e1]
      have hfr := frozen_of_row wr g (off + k) c _ hg
      obtain ⟨old, hold⟩ : ∃ v, wr.cell? ⟨g, off + k, none⟩ = some v := ⟨_, by rw [cell_of_row wr g (off + k) c _ _ hg]; exact Array.getElem?_eq_getElem (by omega)⟩
      have hklt : (k : Int) < (len : Int) := by omega
      clear hg hcs hput hsz
      go_wp2
      go_roundw
      case rel =>
        refine ⟨k, x / 256, c.setIfInBounds (off + k) (.int .u8 (x % 256)), by go_num, by go_num, by omega, by omega, by omega, ?_, by rw [Array.size_setIfInBounds]; exact HS.out.1, HP.out, Below.setCell hb (Nat.le_refl _) _, by rw [World.size_setCell]; exact HS.out.2⟩
        exact heap_setCell_same wr g (off + k) c _ _ HG2.out
      case measure => simp [intOf]

def zero48 : Array Value := #[.int .u8 0, .int .u8 0, .int .u8 0, .int .u8 0, .int .u8 0, .int .u8 0, .int .u8 0, .int .u8 0, .int .u8 0, .int .u8 0, .int .u8 0, .int .u8 0, .int .u8 0, .int .u8 0, .int .u8 0, .int .u8 0, .int .u8 0, .int .u8 0, .int .u8 0, .int .u8 0, .int .u8 0, .int .u8 0, .int .u8 0, .int .u8 0, .int .u8 0, .int .u8 0, .int .u8 0, .int .u8 0, .int .u8 0, .int .u8 0, .int .u8 0, .int .u8 0, .int .u8 0, .int .u8 0, .int .u8 0, .int .u8 0, .int .u8 0, .int .u8 0, .int .u8 0, .int .u8 0, .int .u8 0, .int .u8 0, .int .u8 0, .int .u8 0, .int .u8 0, .int .u8 0, .int .u8 0, .int .u8 0]
theorem make48 (w : World) : (Instr.makeSlice 22 (.int .i64 48) (.int .i64 48)).run Try.prog w = .ok (.slice (some ⟨w.heap.size, 0, none⟩) 48 48) (w.alloc (.cells #[.int .u8 0, .int .u8 0, .int .u8 0, .int .u8 0, .int .u8 0, .int .u8 0, .int .u8 0, .int .u8 0, .int .u8 0, .int .u8 0, .int .u8 0, .int .u8 0, .int .u8 0, .int .u8 0, .int .u8 0, .int .u8 0, .int .u8 0, .int .u8 0, .int .u8 0, .int .u8 0, .int .u8 0, .int .u8 0, .int .u8 0, .int .u8 0, .int .u8 0, .int .u8 0, .int .u8 0, .int .u8 0, .int .u8 0, .int .u8 0, .int .u8 0, .int .u8 0, .int .u8 0, .int .u8 0, .int .u8 0, .int .u8 0, .int .u8 0, .int .u8 0, .int .u8 0, .int .u8 0, .int .u8 0, .int .u8 0, .int .u8 0, .int .u8 0, .int .u8 0, .int .u8 0, .int .u8 0, .int .u8 0] 5)) := by kernel_rfl

theorem or_i64 (a b : Nat) (k : Nat) (hk : a % 2 ^ k = 0) (hb : b < 2 ^ k) (h : a + b < 1000) : bits .or .i64 (a : Int) (b : Int) = (a : Int) + (b : Int) := by
  rw [(bits_nat .i64 62 (by decide) (fun n h0 h1 => by rw [IntKind.wrap_i64]; have : (2 : Int) ^ 62 = 4611686018427387904 := by decide
                                                       omega) a b (by have : (2 : Nat) ^ 62 = 4611686018427387904 := by decide
                                                                      omega) (by have : (2 : Nat) ^ 62 = 4611686018427387904 := by decide
                                                                                 omega)).2, nat_join k a b hk hb]
  omega
theorem first_byte (a v m : Int) (ha0 : 0 ≤ a) (ha1 : a ≤ 3) (hv0 : 0 ≤ v) (hv1 : v ≤ 7) (hm0 : 0 ≤ m) (hm1 : m ≤ 7) :
    bits .or .i64 (a * 64) (v * 8) = a * 64 + v * 8 ∧ bits .or .i64 (a * 64 + v * 8) m = a * 64 + v * 8 + m := by
  obtain ⟨a, rfl⟩ := Int.eq_ofNat_of_zero_le ha0
  obtain ⟨v, rfl⟩ := Int.eq_ofNat_of_zero_le hv0
  obtain ⟨m, rfl⟩ := Int.eq_ofNat_of_zero_le hm0
  constructor
  · have := or_i64 (a * 64) (v * 8) 6 (by show a * 64 % 64 = 0; omega) (by show v * 8 < 64; omega) (by omega)
    have e1 : ((a * 64 : Nat) : Int) = (a : Int) * 64 := by omega
    have e2 : ((v * 8 : Nat) : Int) = (v : Int) * 8 := by omega
    rw [e1, e2] at this; exact this
  · have := or_i64 (a * 64 + v * 8) m 3 (by show (a * 64 + v * 8) % 8 = 0; omega) (by show m < 8; omega) (by omega)
    have e1 : ((a * 64 + v * 8 : Nat) : Int) = (a : Int) * 64 + (v : Int) * 8 := by omega
    rw [e1] at this; exact this

theorem two_blocks (w : World) (X : Obj) (cur : Array Value) (t : TypeId) : (((w.alloc X).alloc (.cells cur t)).drew).heap[w.heap.size + 1]? = some (.cells cur t (0, 0)) := by
  have h := heap_alloc_new (w.alloc X) (.cells cur t)
  rw [World.size_alloc] at h
  exact h
def packStart (b0 b1 b2 b3 : Int) : Array Value := #[.int .u8 b0, .int .u8 b1, .int .u8 b2, .int .u8 b3, .int .u8 0, .int .u8 0, .int .u8 0, .int .u8 0, .int .u8 0, .int .u8 0, .int .u8 0, .int .u8 0, .int .u8 0, .int .u8 0, .int .u8 0, .int .u8 0, .int .u8 0, .int .u8 0, .int .u8 0, .int .u8 0, .int .u8 0, .int .u8 0, .int .u8 0, .int .u8 0, .int .u8 0, .int .u8 0, .int .u8 0, .int .u8 0, .int .u8 0, .int .u8 0, .int .u8 0, .int .u8 0, .int .u8 0, .int .u8 0, .int .u8 0, .int .u8 0, .int .u8 0, .int .u8 0, .int .u8 0, .int .u8 0, .int .u8 0, .int .u8 0, .int .u8 0, .int .u8 0, .int .u8 0, .int .u8 0, .int .u8 0, .int .u8 0]
def packOf (b0 b1 b2 b3 f gg h i j k l : Int) : Array Value :=
  putN (putN (putN (putN (putN (putN (putN (packStart b0 b1 b2 b3) 4 4 f) 8 4 gg) 12 4 h) 16 8 i) 24 8 j) 32 8 k) 40 8 l

set_option maxRecDepth 100000 in
set_option maxHeartbeats 2000000 in
theorem pack_any (a v m c d e f gg h i j k l : Int) (w : World) (ha0 : 0 ≤ a) (ha1 : a ≤ 3) (hv0 : 0 ≤ v) (hv1 : v ≤ 7) (hm0 : 0 ≤ m) (hm1 : m ≤ 7)
    (bf : 0 ≤ f ∧ f ≤ 4294967295) (bg : 0 ≤ gg ∧ gg ≤ 4294967295) (bh : 0 ≤ h ∧ h ≤ 4294967295) (bi : 0 ≤ i ∧ i ≤ 18446744073709551615) (bj : 0 ≤ j ∧ j ≤ 18446744073709551615) (bk : 0 ≤ k ∧ k ≤ 18446744073709551615) (bl : 0 ≤ l ∧ l ≤ 18446744073709551615) :
    Calls Try.prog 61 #[.agg #[.int .i64 a, .int .i64 v, .int .i64 m, .int .i64 c, .int .i64 d, .int .i64 e, .int .u32 f, .int .u32 gg, .int .u32 h, .int .u64 i, .int .u64 j, .int .u64 k, .int .u64 l]] w fun r w' => r = .returned (.slice (some ⟨w.heap.size + 1, 0, none⟩) 48 48) ∧
      w'.heap[w.heap.size + 1]? = some (.cells (packOf (a * 64 + v * 8 + m) (c % 256) (d % 256) (e % 256) f gg h i j k l) 5 (0, 0)) ∧ Below w.heap.size w w' := by
  have hmk := make48
  obtain ⟨o1, o2⟩ := first_byte a v m ha0 ha1 hv0 hv1 hm0 hm1
  have o3 : (a * 64 + v * 8 + m) % 256 = a * 64 + v * 8 + m := by omega
  have HPK : Hid (packOf (a * 64 + v * 8 + m) (c % 256) (d % 256) (e % 256) f gg h i j k l = putN (putN (putN (putN (putN (putN (putN (packStart (a * 64 + v * 8 + m) (c % 256) (d % 256) (e % 256)) 4 4 f) 8 4 gg) 12 4 h) 16 8 i) 24 8 j) 32 8 k) 40 8 l) := rfl
  go_enter Try.func61, Try.ntmps61
  go_wp2
  clear hmk o1 o2 o3
  refine region_tail 5 (by kernel_rfl) (by kernel_rfl) ?_
  simp only [List.take_succ_cons, List.take_zero, List.drop_succ_cons, List.drop_zero]
  repeat still_step
  refine wpStill_nil ?_
  go_wp2_with fail
  refine (putNumber_any (packStart (a * 64 + v * 8 + m) (c % 256) (d % 256) (e % 256)) (w.heap.size + 1) 4 4 _ f _ bf.1 (by omega) (by show 4 + 4 ≤ 48; decide) (by show 48 ≤ 1000; decide) (by decide) (by exact two_blocks w _ _ _)).mono ?_
  rintro r w1 ⟨rfl, hg1, hB1, hs1⟩
  have hb1 : Below (w.heap.size + 1) (w.alloc (.cells #[.int .i64 a, .int .i64 v, .int .i64 m, .int .i64 c, .int .i64 d, .int .i64 e, .int .u32 f, .int .u32 gg, .int .u32 h, .int .u64 i, .int .u64 j, .int .u64 k, .int .u64 l] 26)) w1 := (((Below.refl _ _).alloc (by simp) _).drew).trans hB1
  have hz1 : (putN (packStart (a * 64 + v * 8 + m) (c % 256) (d % 256) (e % 256)) 4 4 f).size = 48 := by rw [putN_size]; rfl
  obtain ⟨C1, hC1⟩ : ∃ C, C = putN (packStart (a * 64 + v * 8 + m) (c % 256) (d % 256) (e % 256)) 4 4 f := ⟨_, rfl⟩
  rw [← hC1] at hg1 hz1
  have HC1 : Hid (C1.size = 48) := hz1
  have HG1 : Hid (w1.heap[w.heap.size + 1]? = some (.cells C1 5 (0, 0))) := hg1
  have HB1 : Hid (Below (w.heap.size + 1) (w.alloc (.cells #[.int .i64 a, .int .i64 v, .int .i64 m, .int .i64 c, .int .i64 d, .int .i64 e, .int .u32 f, .int .u32 gg, .int .u32 h, .int .u64 i, .int .u64 j, .int .u64 k, .int .u64 l] 26)) w1) := hb1
  have HE1 : Hid (C1 = putN (packStart (a * 64 + v * 8 + m) (c % 256) (d % 256) (e % 256)) 4 4 f) := hC1
  have hx1 : w1.cell? ⟨w.heap.size, 7, none⟩ = some (.int .u32 gg) := by
    rw [hb1.cell (p := ⟨w.heap.size, 7, none⟩) (by exact Nat.lt_succ_self _)]; simp [go_sem]
  clear hz1 hg1 hb1 hC1 hB1 hs1
  go_wp2
  refine region_tail 5 (by kernel_rfl) (by kernel_rfl) ?_
  simp only [List.take_succ_cons, List.take_zero, List.drop_succ_cons, List.drop_zero]
  repeat still_step
  refine wpStill_nil ?_
  go_wp2_with fail
  refine (putNumber_any C1 (w.heap.size + 1) 8 4 _ gg _ bg.1 (by omega) (by rw [HC1.out]; decide) (by rw [HC1.out]; decide) (by decide) (by exact HG1.out)).mono ?_
  rintro r w2 ⟨rfl, hg2, hB2, hs2⟩
  have hb2 : Below (w.heap.size + 1) (w.alloc (.cells #[.int .i64 a, .int .i64 v, .int .i64 m, .int .i64 c, .int .i64 d, .int .i64 e, .int .u32 f, .int .u32 gg, .int .u32 h, .int .u64 i, .int .u64 j, .int .u64 k, .int .u64 l] 26)) w2 := ((HB1.out).drew).trans hB2
  have hz2 : (putN C1 8 4 gg).size = 48 := by rw [putN_size]; exact HC1.out
  obtain ⟨C2, hC2⟩ : ∃ C, C = putN C1 8 4 gg := ⟨_, rfl⟩
  rw [← hC2] at hg2 hz2
  have HC2 : Hid (C2.size = 48) := hz2
  have HG2 : Hid (w2.heap[w.heap.size + 1]? = some (.cells C2 5 (0, 0))) := hg2
  have HB2 : Hid (Below (w.heap.size + 1) (w.alloc (.cells #[.int .i64 a, .int .i64 v, .int .i64 m, .int .i64 c, .int .i64 d, .int .i64 e, .int .u32 f, .int .u32 gg, .int .u32 h, .int .u64 i, .int .u64 j, .int .u64 k, .int .u64 l] 26)) w2) := hb2
  have HE2 : Hid (C2 = putN C1 8 4 gg) := hC2
  have hx2 : w2.cell? ⟨w.heap.size, 8, none⟩ = some (.int .u32 h) := by
    rw [hb2.cell (p := ⟨w.heap.size, 8, none⟩) (by exact Nat.lt_succ_self _)]; simp [go_sem]
  clear hz2 hg2 hb2 hC2 hB2 hs2 hx1
  go_wp2
  refine region_tail 5 (by kernel_rfl) (by kernel_rfl) ?_
  simp only [List.take_succ_cons, List.take_zero, List.drop_succ_cons, List.drop_zero]
  repeat still_step
  refine wpStill_nil ?_
  go_wp2_with fail
  refine (putNumber_any C2 (w.heap.size + 1) 12 4 _ h _ bh.1 (by omega) (by rw [HC2.out]; decide) (by rw [HC2.out]; decide) (by decide) (by exact HG2.out)).mono ?_
  rintro r w3 ⟨rfl, hg3, hB3, hs3⟩
  have hb3 : Below (w.heap.size + 1) (w.alloc (.cells #[.int .i64 a, .int .i64 v, .int .i64 m, .int .i64 c, .int .i64 d, .int .i64 e, .int .u32 f, .int .u32 gg, .int .u32 h, .int .u64 i, .int .u64 j, .int .u64 k, .int .u64 l] 26)) w3 := ((HB2.out).drew).trans hB3
  have hz3 : (putN C2 12 4 h).size = 48 := by rw [putN_size]; exact HC2.out
  obtain ⟨C3, hC3⟩ : ∃ C, C = putN C2 12 4 h := ⟨_, rfl⟩
  rw [← hC3] at hg3 hz3
  have HC3 : Hid (C3.size = 48) := hz3
  have HG3 : Hid (w3.heap[w.heap.size + 1]? = some (.cells C3 5 (0, 0))) := hg3
  have HB3 : Hid (Below (w.heap.size + 1) (w.alloc (.cells #[.int .i64 a, .int .i64 v, .int .i64 m, .int .i64 c, .int .i64 d, .int .i64 e, .int .u32 f, .int .u32 gg, .int .u32 h, .int .u64 i, .int .u64 j, .int .u64 k, .int .u64 l] 26)) w3) := hb3
  have HE3 : Hid (C3 = putN C2 12 4 h) := hC3
  have hx3 : w3.cell? ⟨w.heap.size, 9, none⟩ = some (.int .u64 i) := by
    rw [hb3.cell (p := ⟨w.heap.size, 9, none⟩) (by exact Nat.lt_succ_self _)]; simp [go_sem]
  clear hz3 hg3 hb3 hC3 hB3 hs3 hx2
  go_wp2
  refine region_tail 4 (by kernel_rfl) (by kernel_rfl) ?_
  simp only [List.take_succ_cons, List.take_zero, List.drop_succ_cons, List.drop_zero]
  repeat still_step
  refine wpStill_nil ?_
  go_wp2_with fail
  refine (putNumber_any C3 (w.heap.size + 1) 16 8 _ i _ bi.1 (by omega) (by rw [HC3.out]; decide) (by rw [HC3.out]; decide) (by decide) (by exact HG3.out)).mono ?_
  rintro r w4 ⟨rfl, hg4, hB4, hs4⟩
  have hb4 : Below (w.heap.size + 1) (w.alloc (.cells #[.int .i64 a, .int .i64 v, .int .i64 m, .int .i64 c, .int .i64 d, .int .i64 e, .int .u32 f, .int .u32 gg, .int .u32 h, .int .u64 i, .int .u64 j, .int .u64 k, .int .u64 l] 26)) w4 := ((HB3.out).drew).trans hB4
  have hz4 : (putN C3 16 8 i).size = 48 := by rw [putN_size]; exact HC3.out
  obtain ⟨C4, hC4⟩ : ∃ C, C = putN C3 16 8 i := ⟨_, rfl⟩
  rw [← hC4] at hg4 hz4
  have HC4 : Hid (C4.size = 48) := hz4
  have HG4 : Hid (w4.heap[w.heap.size + 1]? = some (.cells C4 5 (0, 0))) := hg4
  have HB4 : Hid (Below (w.heap.size + 1) (w.alloc (.cells #[.int .i64 a, .int .i64 v, .int .i64 m, .int .i64 c, .int .i64 d, .int .i64 e, .int .u32 f, .int .u32 gg, .int .u32 h, .int .u64 i, .int .u64 j, .int .u64 k, .int .u64 l] 26)) w4) := hb4
  have HE4 : Hid (C4 = putN C3 16 8 i) := hC4
  have hx4 : w4.cell? ⟨w.heap.size, 10, none⟩ = some (.int .u64 j) := by
    rw [hb4.cell (p := ⟨w.heap.size, 10, none⟩) (by exact Nat.lt_succ_self _)]; simp [go_sem]
  clear hz4 hg4 hb4 hC4 hB4 hs4 hx3
  go_wp2
  refine region_tail 4 (by kernel_rfl) (by kernel_rfl) ?_
  simp only [List.take_succ_cons, List.take_zero, List.drop_succ_cons, List.drop_zero]
  repeat still_step
  refine wpStill_nil ?_
  go_wp2_with fail
  refine (putNumber_any C4 (w.heap.size + 1) 24 8 _ j _ bj.1 (by omega) (by rw [HC4.out]; decide) (by rw [HC4.out]; decide) (by decide) (by exact HG4.out)).mono ?_
  rintro r w5 ⟨rfl, hg5, hB5, hs5⟩
  have hb5 : Below (w.heap.size + 1) (w.alloc (.cells #[.int .i64 a, .int .i64 v, .int .i64 m, .int .i64 c, .int .i64 d, .int .i64 e, .int .u32 f, .int .u32 gg, .int .u32 h, .int .u64 i, .int .u64 j, .int .u64 k, .int .u64 l] 26)) w5 := ((HB4.out).drew).trans hB5
  have hz5 : (putN C4 24 8 j).size = 48 := by rw [putN_size]; exact HC4.out
  obtain ⟨C5, hC5⟩ : ∃ C, C = putN C4 24 8 j := ⟨_, rfl⟩
  rw [← hC5] at hg5 hz5
  have HC5 : Hid (C5.size = 48) := hz5
  have HG5 : Hid (w5.heap[w.heap.size + 1]? = some (.cells C5 5 (0, 0))) := hg5
  have HB5 : Hid (Below (w.heap.size + 1) (w.alloc (.cells #[.int .i64 a, .int .i64 v, .int .i64 m, .int .i64 c, .int .i64 d, .int .i64 e, .int .u32 f, .int .u32 gg, .int .u32 h, .int .u64 i, .int .u64 j, .int .u64 k, .int .u64 l] 26)) w5) := hb5
  have HE5 : Hid (C5 = putN C4 24 8 j) := hC5
  have hx5 : w5.cell? ⟨w.heap.size, 11, none⟩ = some (.int .u64 k) := by
    rw [hb5.cell (p := ⟨w.heap.size, 11, none⟩) (by exact Nat.lt_succ_self _)]; simp [go_sem]
  clear hz5 hg5 hb5 hC5 hB5 hs5 hx4
  go_wp2
  refine region_tail 4 (by kernel_rfl) (by kernel_rfl) ?_
  simp only [List.take_succ_cons, List.take_zero, List.drop_succ_cons, List.drop_zero]
  repeat still_step
  refine wpStill_nil ?_
  go_wp2_with fail
  refine (putNumber_any C5 (w.heap.size + 1) 32 8 _ k _ bk.1 (by omega) (by rw [HC5.out]; decide) (by rw [HC5.out]; decide) (by decide) (by exact HG5.out)).mono ?_
  rintro r w6 ⟨rfl, hg6, hB6, hs6⟩
  have hb6 : Below (w.heap.size + 1) (w.alloc (.cells #[.int .i64 a, .int .i64 v, .int .i64 m, .int .i64 c, .int .i64 d, .int .i64 e, .int .u32 f, .int .u32 gg, .int .u32 h, .int .u64 i, .int .u64 j, .int .u64 k, .int .u64 l] 26)) w6 := ((HB5.out).drew).trans hB6
  have hz6 : (putN C5 32 8 k).size = 48 := by rw [putN_size]; exact HC5.out
  obtain ⟨C6, hC6⟩ : ∃ C, C = putN C5 32 8 k := ⟨_, rfl⟩
  rw [← hC6] at hg6 hz6
  have HC6 : Hid (C6.size = 48) := hz6
  have HG6 : Hid (w6.heap[w.heap.size + 1]? = some (.cells C6 5 (0, 0))) := hg6
  have HB6 : Hid (Below (w.heap.size + 1) (w.alloc (.cells #[.int .i64 a, .int .i64 v, .int .i64 m, .int .i64 c, .int .i64 d, .int .i64 e, .int .u32 f, .int .u32 gg, .int .u32 h, .int .u64 i, .int .u64 j, .int .u64 k, .int .u64 l] 26)) w6) := hb6
  have HE6 : Hid (C6 = putN C5 32 8 k) := hC6
  have hx6 : w6.cell? ⟨w.heap.size, 12, none⟩ = some (.int .u64 l) := by
    rw [hb6.cell (p := ⟨w.heap.size, 12, none⟩) (by exact Nat.lt_succ_self _)]; simp [go_sem]
  clear hz6 hg6 hb6 hC6 hB6 hs6 hx5
  go_wp2
  refine region_tail 4 (by kernel_rfl) (by kernel_rfl) ?_
  simp only [List.take_succ_cons, List.take_zero, List.drop_succ_cons, List.drop_zero]
  repeat still_step
  refine wpStill_nil ?_
  go_wp2_with fail
  refine (putNumber_any C6 (w.heap.size + 1) 40 8 _ l _ bl.1 (by omega) (by rw [HC6.out]; decide) (by rw [HC6.out]; decide) (by decide) (by exact HG6.out)).mono ?_
  rintro r w7 ⟨rfl, hg7, hB7, hs7⟩
  have hb7 : Below (w.heap.size + 1) (w.alloc (.cells #[.int .i64 a, .int .i64 v, .int .i64 m, .int .i64 c, .int .i64 d, .int .i64 e, .int .u32 f, .int .u32 gg, .int .u32 h, .int .u64 i, .int .u64 j, .int .u64 k, .int .u64 l] 26)) w7 := ((HB6.out).drew).trans hB7
  have hz7 : (putN C6 40 8 l).size = 48 := by rw [putN_size]; exact HC6.out
  obtain ⟨C7, hC7⟩ : ∃ C, C = putN C6 40 8 l := ⟨_, rfl⟩
  rw [← hC7] at hg7 hz7
  have HC7 : Hid (C7.size = 48) := hz7
  have HG7 : Hid (w7.heap[w.heap.size + 1]? = some (.cells C7 5 (0, 0))) := hg7
  have HB7 : Hid (Below (w.heap.size + 1) (w.alloc (.cells #[.int .i64 a, .int .i64 v, .int .i64 m, .int .i64 c, .int .i64 d, .int .i64 e, .int .u32 f, .int .u32 gg, .int .u32 h, .int .u64 i, .int .u64 j, .int .u64 k, .int .u64 l] 26)) w7) := hb7
  have HE7 : Hid (C7 = putN C6 40 8 l) := hC7
  have hx7 : w7.cell? ⟨w.heap.size, 0, none⟩ = some (.int .i64 a) := by
    rw [hb7.cell (p := ⟨w.heap.size, 0, none⟩) (by exact Nat.lt_succ_self _)]; simp [go_sem]
  clear hz7 hg7 hb7 hC7 hB7 hs7 hx6
  go_wp2
  go_ret
  have eP : C7 = packOf (a * 64 + v * 8 + m) (c % 256) (d % 256) (e % 256) f gg h i j k l := by
    rw [HPK.out, HE7.out, HE6.out, HE5.out, HE4.out, HE3.out, HE2.out, HE1.out]
  exact ⟨rfl, by rw [← eP]; exact HG7.out, ((Below.refl _ _).alloc (Nat.le_refl _) _).trans (HB7.out.mono (Nat.le_succ _))⟩
end Go.Proofs.Ytjdcnlggpfkopaa
