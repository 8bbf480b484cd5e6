/- What is taken into the books leaves all that is no byte, no list of bytes and no book. -/
import Derived.Test.YtjdcnlggpfkopaaTake
import Derived.ArgAppend
import Derived.OwnWalk
import Derived.Maps.AppendAt
namespace Go.Proofs.Ytjdcnlggpfkopaa
open Go.ChangeShapes Go.WideShapes Go.ChangeAt Go.RowKit
set_option linter.unusedVariables false

/-- What is neither bytes, nor lists of bytes, nor a book, stays. -/
def Others (w w' : World) : Prop := ∀ (k : Nat) (cs : Array Value) (ty : TypeId) (fr : Nat × Nat), w.heap[k]? = some (Obj.cells cs ty fr) → ty ≠ 32 → ty ≠ 22 → ty ≠ 5 → w'.heap[k]? = w.heap[k]?
theorem takeW_end {w wr w1 w2 w3 w4 : World} {bo B m n : Nat} {ao : Option Addr} {bv v4 : Value} {vs : List Value} {s1 s2 s3 : Value} (HFU : Full w B ao n) (hm : m < 100000000) (hlt : bo < B) (hle : B ≤ w.heap.size) (hn : n ≤ 900)
    (HBO : w.heap[bo]? = some (.cells #[bv, .slice none 0 0, .slice none 0 0] 32 (0, 0))) (HOWN : w.ownsRow (bo + 1) 22 1 bv (4 * m) vs) (HBLK : ∀ k, bv.ownBlock = some k → k < B) (HMK : ∀ i v, vs[i]? = some v → Marked w B i v)
    (hb : Below B w wr) (hsz : wr.heap.size = w.heap.size) (HST : ∀ j, B ≤ j → (∀ g, ao = some ⟨g, 0, none⟩ → j ≠ g) → wr.heap[j]? = w.heap[j]?) (HMT : MarkedTo wr ao n n (100 + (m : Int) % 150))
    (g1 : wr.grownBy w1 none) (g2 : w1.grownBy w2 none) (g3 : w2.grownBy w3 none) (g4 : w3.grownBy w4 bv.ownBlock)
    (m1 : Marked w1 w1.heap.size (4 * m + 1) s1) (m2 : Marked w2 w2.heap.size (4 * m + 2) s2) (m3 : Marked w3 w3.heap.size (4 * m + 3) s3)
    (ho4 : w4.ownsRow (bo + 1) 22 1 v4 (4 * m + 4) (vs ++ [.slice ao n n, s1, s2, s3])) :
    Booked (w4.setCell ⟨bo, 0, none⟩ v4) bo (w4.setCell ⟨bo, 0, none⟩ v4).heap.size (m + 1) ∧ Stay w (w4.setCell ⟨bo, 0, none⟩ v4) bo B ao ∧ Others w (w4.setCell ⟨bo, 0, none⟩ v4) := by
  have G3 : wr.grownBy w3 none := (g1.trans g2).trans g3
  have hl := G3.size
  have hl4 := g4.size
  have hnb : some bo ≠ bv.ownBlock := fun h => by have := (HOWN.lt bo h.symm).1; omega
  have B3 : w3.heap[bo]? = some (.cells #[bv, .slice none 0 0, .slice none 0 0] 32 (0, 0)) := by
    rw [G3.block bo (by omega) (by simp), hb.block bo hlt]; exact HBO
  have B4 : w4.heap[bo]? = some (.cells #[bv, .slice none 0 0, .slice none 0 0] 32 (0, 0)) := by
    rw [g4.block bo (by omega) hnb]; exact B3
  have OR : wr.ownsRow (bo + 1) 22 1 bv (4 * m) vs := own_below HOWN hb HBLK
  have O3 : w3.ownsRow (bo + 1) 22 1 bv (4 * m) vs := OR.kept G3 (by cases h : bv.ownBlock <;> simp)
  have K4 : Keeps w3 (w4.setCell ⟨bo, 0, none⟩ v4) := (keeps_own O3 g4).trans (keeps_set v4 B4)
  have KR : Keeps wr (w4.setCell ⟨bo, 0, none⟩ v4) := (keeps_grown G3).trans K4
  have hsf : (w4.setCell ⟨bo, 0, none⟩ v4).heap.size = w4.heap.size := World.size_setCell ..
  have hvl : vs.length = 4 * m := by have := HOWN.1; omega
  constructor
  · refine ⟨by omega, by omega, Nat.le_refl _, v4, vs ++ [.slice ao n n, s1, s2, s3], ?_, ?_, ?_, ?_⟩
    · have := heap_setCell_same w4 bo 0 _ _ v4 B4
      simpa using this
    · exact own_set (by rw [show 4 * (m + 1) = 4 * m + 4 by omega]; exact ho4) v4
    · intro k hk
      have := (ho4.lt k hk).2
      omega
    · intro i v hi
      rcases Nat.lt_or_ge i vs.length with h | h
      · rw [List.getElem?_append_left h] at hi
        refine (HMK i v hi).keep (by omega) fun b cur hbl hc => KR b cur ?_
        rw [hb.block b hbl]; exact hc
      · rw [List.getElem?_append_right h, hvl] at hi
        obtain ⟨j, rfl⟩ : ∃ j, i = 4 * m + j := ⟨i - 4 * m, by omega⟩
        rw [show 4 * m + j - 4 * m = j by omega] at hi
        match j, hi with
        | 0, hi =>
          cases (by simpa using hi : Value.slice ao n n = v)
          exact (marked_full HMT (by omega) (by congr 1; omega)).to KR (by omega)
        | 1, hi =>
          cases (by simpa using hi : s1 = v)
          exact m1.to ((keeps_grown (g2.trans g3)).trans K4) (by have := (g2.trans g3).size; omega)
        | 2, hi =>
          cases (by simpa using hi : s2 = v)
          exact m2.to ((keeps_grown g3).trans K4) (by have := g3.size; omega)
        | 3, hi =>
          cases (by simpa using hi : s3 = v)
          exact m3.to K4 (by omega)
        | j + 4, hi => simp at hi
  refine ⟨?_, ?_⟩
  · refine ⟨⟨?_, ?_, ?_, by omega, fun k hk => ?_⟩, fun k hk hkl hne => ?_⟩
    · show w4.os = _; rw [g4.os, G3.os, hb.os]
    · show w4.tape = _; rw [g4.tape, G3.tape, hb.tape]
    · show w4.output = _; rw [g4.output, G3.output, hb.output]
    · rw [heap_setCell_other _ _ _ _ (show k ≠ bo by omega), g4.block k (by omega) (fun h => by have := (HOWN.lt k h.symm).1; omega), G3.block k (by omega) (by simp), hb.block k (by omega)]
    · rw [heap_setCell_other _ _ _ _ (show k ≠ bo by omega), g4.block k (by omega) (fun h => by have := HBLK k h.symm; omega), G3.block k (by omega) (by simp), HST k hk hne]
  · intro k cs ty fr hk n1 n2 n3
    have hkl : k < w.heap.size := (Array.getElem?_eq_some_iff.1 hk).1
    have kb : k ≠ bo := fun e => by subst e; rw [HBO] at hk; cases hk; exact n1 rfl
    have ko : some k ≠ bv.ownBlock := fun e => by
      rcases HOWN.2 with ⟨rfl, _⟩ | ⟨g, cap, cur, rfl, _, hr, _⟩
      · cases e
      · simp [Value.ownBlock] at e
        subst e
        rw [hr] at hk; cases hk; exact n2 rfl
    have ka : ∀ g, ao = some ⟨g, 0, none⟩ → k ≠ g := fun g hg e => by
      subst e
      rcases HFU with ⟨h, _⟩ | ⟨g', cur, h1, _, h3, _⟩
      · rw [hg] at h; cases h
      · rw [hg] at h1; cases h1
        rw [h3] at hk; cases hk; exact n3 rfl
    rw [heap_setCell_other _ _ _ _ (show k ≠ bo from kb), g4.block k (by omega) ko, G3.block k (by omega) (by simp)]
    rcases Nat.lt_or_ge k B with h | h
    · exact hb.block k h
    · exact HST k h ka

set_option maxHeartbeats 1000000 in
set_option maxRecDepth 4000 in
theorem takeW_any (bo B m : Nat) (ao : Option Addr) (n : Nat) (w : World) (hK : Booked w bo B m) (hf : Full w B ao n) (hn : n ≤ 900) (hm1 : m < 100000000) :
    Calls Try.prog 16 #[.pointer (some ⟨bo, 0, none⟩), .slice ao n n] w fun e w' => e = .returned (.tuple #[]) ∧ Booked w' bo w'.heap.size (m + 1) ∧ Stay w w' bo B ao ∧ Others w w' := by
  have hm := hK.hm
  have hlt := hK.lt
  obtain ⟨bv, vs, hbo, hown, hblk, hmk⟩ := hK.row
  have c0 : w.cell? ⟨bo, 0, none⟩ = some bv := by rw [cell_of_row w bo 0 _ _ _ hbo]; rfl
  obtain ⟨bg, bcap, rfl⟩ : ∃ bg bcap, bv = .slice bg (4 * m) bcap := by
    rcases hown.2 with ⟨h1, h2⟩ | ⟨g, cap, cur, h1, _⟩
    · exact ⟨none, 0, by rw [h1, h2]⟩
    · exact ⟨_, cap, h1⟩
  have hx0 : 0 ≤ (m : Int) % 150 := by omega
  have hx1 : (m : Int) % 150 < 150 := by omega
  have hq : 4 * (m : Int) / 4 = m := by omega
  have HOWN : Hid (w.ownsRow (bo + 1) 22 1 (.slice bg (4 * m) bcap) (4 * m) vs) := hown
  have HBO : Hid (w.heap[bo]? = some (.cells #[.slice bg (4 * m) bcap, .slice none 0 0, .slice none 0 0] 32 (0, 0))) := hbo
  have HBLK : Hid (∀ k, (Value.slice bg (4 * m) bcap).ownBlock = some k → k < B) := hblk
  have HMK : Hid (∀ i v, vs[i]? = some v → Marked w B i v) := hmk
  have HF : Hid (Full w B ao n) := hf
  have HK : Hid (Booked w bo B m) := hK
  clear hown hbo hblk hmk hf hK
  go_enter Try.func16, Try.ntmps16
  go_wp2
  go_loopw [5] (fun i wr => ∃ k : Nat, k ≤ n ∧ i = .int .i64 k ∧ MarkedTo wr ao n k (100 + (m : Int) % 150) ∧ Below B w wr ∧ wr.heap.size = w.heap.size ∧ ∀ j, B ≤ j → (∀ g, ao = some ⟨g, 0, none⟩ → j ≠ g) → wr.heap[j]? = w.heap[j]?) (fun i _ => n - (intOf i).toNat)
  case atStart =>
    refine ⟨0, Nat.zero_le _, rfl, ?_, Below.refl _ _, rfl, fun _ _ _ => rfl⟩
    rcases HF.out with h | ⟨g, cur, h1, h2, h3, h4⟩
    · exact Or.inl h
    · exact Or.inr ⟨g, cur, h1, h3, h4, fun j hj => by omega⟩
  case round =>
    obtain ⟨k, hk, rfl, hmt, hb, hsz, hst⟩ := hrel
    by_cases hkn : k < n
    · obtain ⟨g, cur, rfl, hg, hcs, hmk⟩ : ∃ g cur, ao = some ⟨g, 0, none⟩ ∧ wr.heap[g]? = some (.cells cur 5 (0, 0)) ∧ cur.size = n ∧ ∀ j, j < k → cur[j]? = some (.int .u8 (100 + (m : Int) % 150)) := by
        rcases hmt with ⟨_, h2⟩ | h
        · omega
        · exact h
      have hBg : B ≤ g := by
        rcases HF.out with ⟨h, _⟩ | ⟨g', cur', h1, h2, _⟩
        · cases h
        · cases h1; exact h2
      have HG : Hid (wr.heap[g]? = some (.cells cur 5 (0, 0))) := hg
      have HMT : Hid (∀ j, j < k → cur[j]? = some (.int .u8 (100 + (m : Int) % 150))) := hmk
      have HST : Hid (∀ j, B ≤ j → (∀ g', (some ⟨g, 0, none⟩ : Option Addr) = some ⟨g', 0, none⟩ → j ≠ g') → wr.heap[j]? = w.heap[j]?) := hst
      have hfr := frozen_of_row wr g k _ _ hg
      obtain ⟨old, hold⟩ : ∃ v, wr.cell? ⟨g, k, none⟩ = some v := ⟨_, by rw [cell_of_row wr g k _ _ _ hg]; exact Array.getElem?_eq_getElem (by omega)⟩
      have hkn' : (k : Int) < (n : Int) := by omega
      clear hmt hg hmk hst
      go_wp2
      go_roundw
      case rel =>
        have hset := heap_setCell_same wr g k _ _ (.int .u8 (100 + (m : Int) % 150)) HG.out
        refine ⟨k + 1, by omega, by go_num, Or.inr ⟨g, _, rfl, hset, by simpa using hcs, fun j hj => ?_⟩, Below.setCell hb hBg _, ?_, fun j hj hne => ?_⟩
        · rw [Array.getElem?_setIfInBounds]
          by_cases hjk : k = j
          · rw [if_pos hjk, if_pos (by omega)]
          · rw [if_neg hjk]; exact HMT.out j (by omega)
        · rw [World.size_setCell, hsz]
        · rw [heap_setCell_other _ _ _ _ (hne g rfl)]; exact HST.out j hj hne
      case measure => simp [intOf]; omega
    · obtain rfl : k = n := by omega
      have HMT : Hid (MarkedTo wr ao k k (100 + (m : Int) % 150)) := hmt
      have HST : Hid (∀ j, B ≤ j → (∀ g, ao = some ⟨g, 0, none⟩ → j ≠ g) → wr.heap[j]? = w.heap[j]?) := hst
      have HSZ : Hid (wr.heap.size = w.heap.size) := hsz
      clear hmt hst hkn hk
      have hlt0 : ¬ ((k : Int) < (k : Int)) := by omega
      obtain ⟨i0, hi, hz0, hz1, hz2⟩ := info_parts u8info
      obtain ⟨i1, hi1, hy0, hy1, hy2⟩ := info_parts (by kernel_rfl : (Try.prog.info? 22).map (fun i => (i.zero, i.size, i.bytes)) = some (some (.slice none 0 0), 1, 24))
      have HNO : Hid (ao = none → k = 0 ∧ k = 0) := fun h => by
        rcases HF.out with ⟨_, h2⟩ | ⟨g, cur, h1, _⟩
        · exact ⟨h2, h2⟩
        · rw [h1] at h; cases h
      have HI : Hid (Try.prog.info? 5 = some i0) := hi
      have HI1 : Hid (Try.prog.info? 22 = some i1) := hi1
      have HOR : Hid (wr.ownsRow (bo + 1) 22 1 (.slice bg (4 * m) bcap) (4 * m) vs) := own_below HOWN.out hb HBLK.out
      have HCR : Hid (wr.cell? ⟨bo, 0, none⟩ = some (.slice bg (4 * m) bcap)) := by
        show _ = _
        rw [hb.cell (p := ⟨bo, 0, none⟩) hlt]; exact c0
      have HLE : Hid (bo < wr.heap.size) := by have := HK.out.le; show _ < _; omega
      clear hi hi1 c0 hsz
      go_wp2_with (first
        | (refine wpList_append_grows _ rfl (.tmp 28) (.tmp 30) 22 rfl 5 i0 (.int .u8 0) 1 1 Try.underlying22 HI.out hz0 hz1 hz2 rfl (by decide) ao k k (u8s (List.replicate k (100 + (m : Int) % 150))) rfl HNO.out (u8s_rep k _) (marked_holds ((HMT.out).grown (grown_alloc _ _))) ⟨wr.heap.size, 0, none⟩ 1 1 (u8s (List.replicate 1 (100 + (m : Int) % 150))) rfl (u8s_rep 1 _) (cells_new wr _ _) (u8s_one _) (by omega) (by unfold maxLen; omega) (by omega) ?_
           intro v1 w1 ho1 hg1
           rw [u8s_snoc] at ho1
           have G1 : Hid (wr.grownBy w1 none) := (grown_alloc _ _).trans hg1
           obtain ⟨a1, c1, rfl⟩ := own_slice ho1
           have M1 : Hid (Marked w1 w1.heap.size (4 * m + 1) _) := marked_of_own ho1 (by omega) (by congr 1; omega)
           have HMT1 : Hid (MarkedTo w1 ao k k (100 + (m : Int) % 150)) := HMT.out.grown G1.out
           clear ho1 hg1)
        | (refine wpList_append_grows _ rfl (.tmp 32) (.tmp 35) 22 rfl 5 i0 (.int .u8 0) 1 1 Try.underlying22 HI.out hz0 hz1 hz2 rfl (by decide) ao k k (u8s (List.replicate k (100 + (m : Int) % 150))) rfl HNO.out (u8s_rep k _) (marked_holds ((HMT1.out).grown (grown_alloc _ _))) ⟨w1.heap.size, 0, none⟩ 2 2 (u8s (List.replicate 2 (100 + (m : Int) % 150))) rfl (u8s_rep 2 _) (cells_new w1 _ _) (u8s_one _) (by omega) (by unfold maxLen; omega) (by omega) ?_
           intro v2 w2 ho2 hg2
           rw [u8s_snoc] at ho2
           have G2 : Hid (w1.grownBy w2 none) := (grown_alloc _ _).trans hg2
           obtain ⟨a2, c2, rfl⟩ := own_slice ho2
           have M2 : Hid (Marked w2 w2.heap.size (4 * m + 2) _) := marked_of_own ho2 (by omega) (by congr 1; omega)
           have HMT2 : Hid (MarkedTo w2 ao k k (100 + (m : Int) % 150)) := HMT1.out.grown G2.out
           clear ho2 hg2)
        | (refine wpList_append_grows _ rfl (.tmp 37) (.tmp 41) 22 rfl 5 i0 (.int .u8 0) 1 1 Try.underlying22 HI.out hz0 hz1 hz2 rfl (by decide) ao k k (u8s (List.replicate k (100 + (m : Int) % 150))) rfl HNO.out (u8s_rep k _) (marked_holds ((HMT2.out).grown (grown_alloc _ _))) ⟨w2.heap.size, 0, none⟩ 3 3 (u8s (List.replicate 3 (100 + (m : Int) % 150))) rfl (u8s_rep 3 _) (cells_new w2 _ _) (u8s_one _) (by omega) (by unfold maxLen; omega) (by omega) ?_
           intro v3 w3 ho3 hg3
           rw [u8s_snoc] at ho3
           have G3 : Hid (w2.grownBy w3 none) := (grown_alloc _ _).trans hg3
           obtain ⟨a3, c3, rfl⟩ := own_slice ho3
           have M3 : Hid (Marked w3 w3.heap.size (4 * m + 3) _) := marked_of_own ho3 (by omega) (by congr 1; omega)
           have GG : Hid (wr.grownBy w3 none) := (G1.out.trans G2.out).trans G3.out
           have cb3 : w3.cell? ⟨bo, 0, none⟩ = some (.slice bg (4 * m) bcap) := GG.out.cell HCR.out (by simp)
           have HO3 : Hid (w3.ownsRow (bo + 1) 22 1 (.slice bg (4 * m) bcap) (4 * m) vs) := HOR.out.kept GG.out (by cases bg <;> simp [Value.ownBlock])
           have HL3 : Hid (bo + 1 ≤ w3.heap.size) := by have := GG.out.size; have := HLE.out; show _ ≤ _; omega
           clear ho3 hg3)
        | (refine wpList_append_own_at _ (rfl) (.tmp 47) (.tmp 52) 28 (rfl) (bo + 1) 22 i1 (.slice none 0 0) 1 24 (Try.underlying28) HI1.out hy0 hy1 hy2 (rfl) (by decide) (.slice bg (4 * m) bcap) (4 * m) vs (rfl) ((HO3.out.alloc _)) ⟨w3.heap.size, 0, none⟩ 4 4 [.slice ao k k, .slice a1 (k + 1) c1, .slice a2 (k + 2) c2, .slice a3 (k + 3) c3] (rfl) (rfl) ((cells_new w3 _ _)) (by simp [Value.oneCell']) (by (unfold maxLen; omega)) (by omega) ((Nat.le_trans HL3.out (grown_alloc _ _).size)) ?_
           intro v4 w4 ho4 hg4 _ _
           have G4 : Hid (w3.grownBy w4 (Value.slice bg (4 * m) bcap).ownBlock) := (grown_alloc_row _ _ _).trans hg4
           have HO4 : Hid (w4.ownsRow (bo + 1) 22 1 v4 (4 * m + 4) (vs ++ [.slice ao k k, .slice a1 (k + 1) c1, .slice a2 (k + 2) c2, .slice a3 (k + 3) c3])) := ho4
           obtain ⟨a4, c4, rfl⟩ := own_slice ho4
           have cb4 : w4.cell? ⟨bo, 0, none⟩ = some (.slice bg (4 * m) bcap) := G4.out.cell cb3 (fun h => by have := (HO3.out.lt bo h.symm).1; omega)
           have hf4 : w4.frozen? ⟨bo, 0, none⟩ = false := by
             have hx : w4.heap[bo]? = some (.cells #[.slice bg (4 * m) bcap, .slice none 0 0, .slice none 0 0] 32 (0, 0)) := by
               rw [G4.out.block bo (by have := HL3.out; omega) (fun h => by have := (HO3.out.lt bo h.symm).1; omega), GG.out.block bo HLE.out (by simp), hb.block bo hlt]
               exact HBO.out
             exact frozen_of_row w4 bo 0 _ _ hx
           clear ho4 hg4))
      refine bodyPost_end (results_none rfl _ _ _) rfl ?_
      exact ⟨rfl, takeW_end HF.out hm1 hlt HK.out.le hn HBO.out HOWN.out HBLK.out HMK.out hb HSZ.out HST.out HMT.out G1.out G2.out G3.out G4.out M1.out M2.out M3.out HO4.out⟩
end Go.Proofs.Ytjdcnlggpfkopaa
