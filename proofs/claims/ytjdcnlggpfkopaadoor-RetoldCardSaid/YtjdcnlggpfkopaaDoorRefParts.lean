/- The parts of a decimal fraction: the document's own. -/
import Derived.Test.YtjdcnlggpfkopaaDoorRefTellB
import Derived.Test.YtjdcnlggpfkopaaDoorTime
import Derived.Laws.CopyOwn
import Derived.Laws.MakeOwn
import Derived.Laws.Rows
namespace Go.Proofs.YtjdcnlggpfkopaaDoor
open Go.ChangeShapes Go.WideShapes Go.ChangeAt Go.RowKit
set_option linter.unusedVariables false

/-- The number that figures are. -/
def valR : List Int → Int
  | [] => 0
  | d :: l => d * 10 ^ l.length + valR l
def Digs (l : List Int) : Prop := ∀ d ∈ l, 0 ≤ d ∧ d ≤ 9
theorem valR_bd (l : List Int) (h : Digs l) : 0 ≤ valR l ∧ valR l < 10 ^ l.length := by
  induction l with
  | nil => simp [valR]
  | cons d l ih =>
    have h1 := h d (by simp)
    have h2 := ih (fun x hx => h x (by simp [hx]))
    have hp : (0 : Int) < 10 ^ l.length := Int.pow_pos (by decide)
    simp only [valR, List.length_cons, Int.pow_succ]
    have h3 : d * 10 ^ l.length ≤ 9 * 10 ^ l.length := Int.mul_le_mul_of_nonneg_right h1.2 (by omega)
    have h4 : 0 ≤ d * 10 ^ l.length := Int.mul_nonneg h1.1 (by omega)
    omega
theorem valR_snoc (l : List Int) (d : Int) : valR (l ++ [d]) = valR l * 10 + d := by
  induction l with
  | nil => simp [valR]
  | cons x l ih =>
    simp only [List.cons_append, valR, ih, List.length_append, List.length_cons, List.length_nil]
    rw [Int.pow_succ, ← Int.mul_assoc]
    omega
def ints (l : List Int) : List Value := l.map (Value.int .i64)
theorem introw : (Tryd.prog.info? 3).map (fun i => (i.zero, i.size, i.bytes)) = some (some (.int .i64 0), 1, 8) := by kernel_rfl
theorem intsize : (Tryd.prog.info? 3).map (·.size) = some 1 := by kernel_rfl
theorem madeInts (n : Nat) : madeCells (Value.int .i64 0).cells (n * 1) = (ints (List.replicate n 0)).toArray := by
  apply Array.ext
  · simp [madeCells, ints]
  · intro i h1 h2
    simp [madeCells, Value.cells, Nat.mod_one, ints]
theorem ints_one (l : List Int) : ∀ v ∈ ints l, v.oneCell' = true := by
  intro v hv
  simp only [ints, List.mem_map] at hv
  obtain ⟨x, _, rfl⟩ := hv
  rfl
/-- One doubling, from the end. -/
theorem step_val (c suf : List Int) (j : Nat) (cr : Int) (hj : j < c.length) (hs : suf.length = c.length - (j + 1)) (h : 2 * valR (c.drop (j + 1)) = cr * 10 ^ suf.length + valR suf) :
    2 * valR (c.drop j) = ((2 * c.getD j 0 + cr) / 10) * 10 ^ (((2 * c.getD j 0 + cr) % 10) :: suf).length + valR (((2 * c.getD j 0 + cr) % 10) :: suf) := by
  rw [List.drop_eq_getElem_cons hj]
  have e : c.getD j 0 = c[j] := by rw [List.getD_eq_getElem?_getD, List.getElem?_eq_getElem hj]; rfl
  rw [e]
  simp only [valR, List.length_cons, List.length_drop, Int.pow_succ]
  rw [show c.length - (j + 1) = suf.length by omega]
  generalize c[j] = x at *
  generalize (10 : Int) ^ suf.length = P at *
  have h1 : (2 * x + cr) / 10 * (P * 10) = ((2 * x + cr) / 10 * 10) * P := by rw [Int.mul_comm P 10, Int.mul_assoc]
  have h2 : ((2 * x + cr) / 10 * 10) * P + (2 * x + cr) % 10 * P = (2 * x + cr) * P := by rw [← Int.add_mul]; congr 1; omega
  have h3 : (2 * x + cr) * P = 2 * (x * P) + cr * P := by rw [Int.add_mul, Int.mul_assoc]
  omega
theorem set_at (c suf : List Int) (j : Nat) (y : Int) (hj : j < c.length) : (ints (c.take (j + 1) ++ suf)).set j (.int .i64 y) = ints (c.take j ++ y :: suf) := by
  unfold ints
  rw [← List.map_set]
  congr 1
  rw [List.set_append_left _ _ (by simp; omega), List.take_succ_eq_append_getElem hj, List.set_append_right _ _ (by simp; omega)]
  simp [Nat.min_eq_left (Nat.le_of_lt hj)]
theorem at_j (c suf : List Int) (j : Nat) (hj : j < c.length) : (ints (c.take (j + 1) ++ suf)).toArray[j]? = some (.int .i64 (c.getD j 0)) := by
  unfold ints
  rw [List.getElem?_toArray, List.getElem?_map, List.getElem?_append_left (by simp; omega), List.getElem?_take, if_pos (by omega), List.getD_eq_getElem?_getD, List.getElem?_eq_getElem hj]
  rfl
theorem cast_pe (V n F T M : Nat) (h : (V : Int) * 10 ^ n + (F : Int) = (T : Int) * (M : Int)) : V * 10 ^ n + F = T * M := by exact_mod_cast h
theorem parts_eq (T V F : Int) (n : Nat) (hn : n ≤ 12) (h0 : 0 ≤ T) (hF0 : 0 ≤ F) (hF1 : F < 10 ^ n) (hV : 0 ≤ V) (h : V * 10 ^ n + F = T * 4294967296) : V = (partsOf T.toNat n : Nat) := by
  unfold partsOf
  obtain ⟨T, rfl⟩ := Int.eq_ofNat_of_zero_le h0
  obtain ⟨V, rfl⟩ := Int.eq_ofNat_of_zero_le hV
  obtain ⟨F, rfl⟩ := Int.eq_ofNat_of_zero_le hF0
  have hp : 0 < 10 ^ n := Nat.pow_pos (by decide)
  have h' : V * 10 ^ n + F = T * 4294967296 := cast_pe V n F T 4294967296 h
  have hF' : F < 10 ^ n := by exact_mod_cast hF1
  have e12 : (1000000000000 : Nat) = 10 ^ n * 10 ^ (12 - n) := by rw [← Nat.pow_add, show n + (12 - n) = 12 by omega]
  rw [Int.toNat_natCast, e12, show T * 10 ^ (12 - n) * 4294967296 = T * 4294967296 * 10 ^ (12 - n) by rw [Nat.mul_assoc, Nat.mul_comm (10 ^ (12 - n)), ← Nat.mul_assoc], Nat.mul_div_mul_right _ _ (Nat.pow_pos (by decide)), ← h', Nat.mul_comm V, Nat.mul_add_div hp, Nat.div_eq_of_lt hF', Nat.add_zero]

theorem pow_lt32 : ∀ q, q < 32 → (2 : Int) ^ q ≤ 2147483648 := by decide
theorem next_val (V F F' T P cr Q : Int) (h : V * P + F = T * Q) (h2 : 2 * F = cr * P + F') : (2 * V + cr) * P + F' = T * (Q * 2) := by
  have e1 : (2 * V + cr) * P = 2 * (V * P) + cr * P := by rw [Int.add_mul, Int.mul_assoc]
  have e2 : T * (Q * 2) = T * Q * 2 := by rw [Int.mul_assoc]
  omega

set_option maxHeartbeats 1000000 in
theorem refParts_any (ds : List Int) (sv : Value) (n base : Nat) (w : World) (hown : w.ownsRow base 3 1 sv n (ints ds)) (hn : n ≤ 12) (hD : Digs ds) (hbase : base ≤ w.heap.size) :
    Calls Tryd.prog 25 #[sv] w fun e w' => e = .returned (.int .u64 (partsOf (valR ds).toNat n : Nat)) ∧ Below w.heap.size w w' := by
  obtain ⟨i0, hi, hz0, hz1, hz2⟩ := info_parts introw
  have hl : ds.length = n := by have := hown.1; simpa [ints] using this
  have hmk : ∀ w : World, (Instr.makeSlice 39 (.int .i64 (n : Int)) (.int .i64 (n : Int))).run Tryd.prog w = .ok (.slice (some ⟨w.heap.size, 0, none⟩) n n) (w.alloc (.cells (ints (List.replicate n 0)).toArray 3)) := fun w => by
    have := run_make w 39 3 i0 (.int .i64 0) Tryd.underlying39 hi hz0 .i64 .i64 (n : Int) (n : Int) (by omega) (by omega) (by rw [hz2]; omega) (by omega)
    rw [hz1, show ((n : Int)).toNat = n by omega, madeInts] at this
    exact this
  obtain ⟨Z, hZ⟩ : ∃ Z, Z = ints (List.replicate n 0) := ⟨_, rfl⟩
  rw [← hZ] at hmk
  obtain ⟨S, hS⟩ : ∃ S, S = ints ds := ⟨_, rfl⟩
  have HS : Hid (S = ints ds) := hS
  have HZL : Hid (Z.length = n ∧ S.length = n) := by rw [hZ, hS]; exact ⟨by simp [ints], by simpa [ints] using hl⟩
  have HSP : Hid (splice Z 0 S = ints ds) := by
    show _ = _
    unfold splice
    rw [List.take_zero, List.nil_append, Nat.zero_add, List.drop_of_length_le (by rw [HZL.out.1, HZL.out.2]; exact Nat.le_refl _), List.append_nil, hS]
  have H1 : Hid (∀ v ∈ S, v.oneCell' = true) := by rw [hS]; exact ints_one ds
  obtain ⟨ao, cap, rfl⟩ : ∃ ao cap, sv = .slice ao n cap := by
    rcases hown.2 with ⟨h1, h2⟩ | ⟨g, cap, cur, h1, _⟩
    · exact ⟨none, 0, by rw [h1, h2]⟩
    · exact ⟨_, cap, h1⟩
  have HPOS : Hid (0 < S.length → (some ⟨w.heap.size, 0, none⟩ : Option Addr) = some ⟨w.heap.size, 0, none⟩ ∧ ∃ ad, ao = some ad ∧ ∀ j v, S[j]? = some v → (w.alloc (.cells Z.toArray 3)).cell? (ad.add j) = some v) := by
    intro hp
    refine ⟨rfl, ?_⟩
    rcases hown.2 with ⟨h1, h2⟩ | ⟨g, cap', cur, h1, _⟩
    · have := HZL.out.2; omega
    · injection h1 with h1 _ _
      refine ⟨_, h1, fun j v hv => ?_⟩
      have := (hown.alloc (.cells Z.toArray 3)).cells (g := g) (by rw [h1]; rfl) j v (by rw [← hS]; exact hv)
      exact this
  have HG : Hid ((w.alloc (.cells Z.toArray 3)).heap[w.heap.size]? = some (.cells Z.toArray 3 (0, 0))) := heap_alloc_new _ _
  have HB : Hid (Below w.heap.size w (w.alloc (.cells Z.toArray 3))) := (Below.refl _ _).alloc (Nat.le_refl _) _
  have HLN : Hid (ds.length = n ∧ Digs ds) := ⟨hl, hD⟩
  have HN : Hid (S.length = Nat.min n n) := by rw [HZL.out.2]; exact (Nat.min_self n).symm
  have HFT : Hid (0 + S.length ≤ Z.length) := by rw [HZL.out.1, HZL.out.2]; exact Nat.le_of_eq (Nat.zero_add _)
  clear hZ hS hown hi hz0 hz1 hz2 hl hD
  go_enter Tryd.func25, Tryd.ntmps25
  go_wp2_with (refine wpList_copy_splice rfl _ _ 39 39 rfl 3 Tryd.underlying39 intsize (some ⟨w.heap.size, 0, none⟩) ao n n n cap rfl rfl w.heap.size 0 Z 3 HG.out S HN.out HPOS.out HFT.out H1.out w.heap.size w HB.out (Nat.le_refl _) ?_; intro w2 hh2 hb2)
  have HR : Hid (w2.heap[w.heap.size]? = some (.cells (ints ds).toArray 3 (0, 0))) := by have := hh2.out; rw [HSP.out] at this; exact this
  have HB2 : Hid (Below w.heap.size w w2) := hb2
  clear hmk hh2 hb2 HSP HG HB HPOS H1 HS HZL HN HFT
  go_loopw [4, 5] (fun v i wr => ∃ (q : Nat) (V : Int) (c : List Int), q ≤ 32 ∧ i = .int .i64 q ∧ v = .int .u64 V ∧ 0 ≤ V ∧ Hid (V < 2 ^ q) ∧ Hid (wr.heap[w.heap.size]? = some (.cells (ints c).toArray 3 (0, 0))) ∧ Hid (c.length = n ∧ Digs c ∧ V * 10 ^ n + valR c = valR ds * 2 ^ q) ∧ Hid (Below w.heap.size w wr)) (fun _ i _ => 32 - (intOf i).toNat)
  case atStart => exact ⟨0, 0, ds, by decide, rfl, rfl, by decide, by show (0 : Int) < 2 ^ 0; decide, HR.out, ⟨HLN.out.1, HLN.out.2, by simp⟩, HB2.out⟩
  case round =>
    obtain ⟨q, V, c, hq, rfl, rfl, hV0, HV, HGc, HC, HBr⟩ := hrel
    clear HR HB2
    by_cases hlt : (q : Int) < 32
    · have hV1 : V < 2147483648 := by have := HV.out; have := pow_lt32 q (by omega); omega
      go_wp2
      go_loopw [6, 7] (fun cv kv wi => ∃ (j : Nat) (cr : Int) (suf : List Int), j ≤ n ∧ kv = .int .i64 ((j : Int) - 1) ∧ cv = .int .i64 cr ∧ 0 ≤ cr ∧ cr ≤ 1 ∧ Hid (wi.heap[w.heap.size]? = some (.cells (ints (c.take j ++ suf)).toArray 3 (0, 0))) ∧ Hid (suf.length = n - j ∧ Digs suf ∧ 2 * valR (c.drop j) = cr * 10 ^ suf.length + valR suf) ∧ Hid (Below w.heap.size w wi)) (fun _ kv _ => (intOf kv + 1).toNat)
      case atStart =>
        refine ⟨n, 0, [], Nat.le_refl _, by go_num, rfl, by decide, by decide, ?_, ⟨by simp, (fun d h => by cases h), ?_⟩, HBr.out⟩
        · have := HGc.out
          rw [List.append_nil, List.take_of_length_le (by rw [HC.out.1]; exact Nat.le_refl _)]; exact this
        · rw [List.drop_of_length_le (by rw [HC.out.1]; exact Nat.le_refl _)]; simp [valR]
      case round =>
        rename_i wi _
        obtain ⟨j, cr, suf, hj, rfl, rfl, hc0, hc1, HGs, HSf, HBi⟩ := hrel
        clear HGc HBr
        cases j with
        | zero =>
          go_wp2
          go_roundw
          case rel =>
            refine ⟨q + 1, 2 * V + cr, suf, by omega, by go_num, by go_num, by omega, ?_, by have := HGs.out; simpa [Hid] using this, ⟨by have := HSf.out.1; omega, HSf.out.2.1, ?_⟩, HBi.out⟩
            · show _ < _
              have := HV.out
              rw [Int.pow_succ]; omega
            · have h1 := HSf.out.2.2
              rw [List.drop_zero, show suf.length = n by have := HSf.out.1; omega] at h1
              rw [Int.pow_succ]
              exact next_val V (valR c) (valR suf) (valR ds) (10 ^ n) cr (2 ^ q) HC.out.2.2 h1
          case measure => simp [intOf]; omega
        | succ j =>
          have e1 : (((j + 1 : Nat) : Int) - 1) = (j : Int) := by omega
          rw [e1]
          have hjc : j < c.length := by have := HC.out.1; omega
          have hd := HC.out.2.1 (c.getD j 0) (by rw [List.getD_eq_getElem?_getD, List.getElem?_eq_getElem hjc]; exact List.getElem_mem hjc)
          have hcell : wr.cell? ⟨w.heap.size, j, none⟩ = some (.int .i64 (c.getD j 0)) := by
            rw [cell_of_row wr w.heap.size j _ _ _ HGs.out]; exact at_j c suf j hjc
          have hfr := frozen_of_row wr w.heap.size j _ _ HGs.out
          have hklt : (j : Int) < (n : Int) := by omega
          generalize hx : c.getD j 0 = x at *
          have HX : Hid (c.getD j 0 = x) := hx
          clear hx
          go_wp2
          go_roundw
          case rel =>
            refine ⟨j, (2 * x + cr) / 10, ((2 * x + cr) % 10) :: suf, by omega, by go_num, by go_num, by omega, by omega, ?_, ⟨?_, ?_, ?_⟩, Below.setCell HBi.out (Nat.le_refl _) _⟩
            · have := heap_setCell_same wr w.heap.size j _ _ (.int .i64 ((2 * x + cr) % 10)) HGs.out
              rw [List.setIfInBounds_toArray, set_at c suf j _ hjc] at this
              exact this
            · have := HSf.out.1; simp; omega
            · intro d hdm
              rcases List.mem_cons.1 hdm with rfl | h
              · omega
              · exact HSf.out.2.1 d h
            · have := step_val c suf j cr hjc (by have := HSf.out.1; have := HC.out.1; omega) HSf.out.2.2
              rw [HX.out] at this
              exact this
          case measure => simp [intOf]
    · obtain rfl : q = 32 := by omega
      have HE : Hid (V = (partsOf (valR ds).toNat n : Nat)) := parts_eq (valR ds) V (valR c) n hn (valR_bd ds HLN.out.2).1 (valR_bd c HC.out.2.1).1 (by have := (valR_bd c HC.out.2.1).2; rw [HC.out.1] at this; exact this) hV0 HC.out.2.2
      go_wp2
      go_ret
      exact ⟨ret_int HE.out, HBr.out⟩
end Go.Proofs.YtjdcnlggpfkopaaDoor
