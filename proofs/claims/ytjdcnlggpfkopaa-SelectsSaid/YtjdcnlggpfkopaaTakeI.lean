/- A list of ints that came out is written over and put into the book. -/
import Derived.Test.YtjdcnlggpfkopaaKeptI
import Derived.Maps.AppendAt
import Derived.OwnWalk
namespace Go.Proofs.Ytjdcnlggpfkopaa
open Go.ChangeShapes Go.WideShapes Go.ChangeAt Go.RowKit
set_option linter.unusedVariables false

/-- A list that came out: nothing, or a row of its own, beyond B. -/
def FullI (w : World) (B : Nat) (ao : Option Addr) (n cap : Nat) : Prop :=
  (ao = none ∧ n = 0 ∧ cap = 0) ∨ ∃ g cur, ao = some ⟨g, 0, none⟩ ∧ B ≤ g ∧ w.heap[g]? = some (.cells cur 3 (0, 0)) ∧ cur.size = cap ∧ n ≤ cap
/-- What stays: all blocks below bo, and those from B on but for the list's own. -/
def StayI (w w' : World) (bo B : Nat) (ao : Option Addr) : Prop :=
  Below bo w w' ∧ ∀ k, B ≤ k → k < w.heap.size → (∀ g, ao = some ⟨g, 0, none⟩ → k ≠ g) → w'.heap[k]? = w.heap[k]?
def KeepsI (w w' : World) : Prop := ∀ (b : Nat) (cur : Array Value), w.heap[b]? = some (Obj.cells cur 3 (0, 0)) → w'.heap[b]? = some (Obj.cells cur 3 (0, 0))
theorem KeepsI.trans {a b c : World} (h : KeepsI a b) (k : KeepsI b c) : KeepsI a c := fun x cur hx => k x cur (h x cur hx)
theorem keepsI_own {w w' : World} {base : Nat} {v : Value} {n : Nat} {xs : List Value} (ho : w.ownsRow base 65 1 v n xs) (h : w.grownBy w' v.ownBlock) : KeepsI w w' := fun b cur hb => by
  rw [h.block b (Array.getElem?_eq_some_iff.1 hb).1 ?_]; exact hb
  intro he
  rcases ho.2 with ⟨h1, h2⟩ | ⟨g, cap, cur', h1, _, h2, _⟩
  · rw [h1] at he; cases he
  · rw [h1] at he
    have he' : b = g := by simpa [Value.ownBlock] using he
    subst he'
    rw [h2] at hb
    cases hb
theorem keepsI_set {w : World} {bo i : Nat} {cs : Array Value} (v : Value) (h : w.heap[bo]? = some (.cells cs 32 (0, 0))) : KeepsI w (w.setCell ⟨bo, i, none⟩ v) := fun b cur hb => by
  rw [heap_setCell_other _ _ _ _ (fun he => ?_)]; exact hb
  have he' : b = bo := he
  subst he'
  rw [h] at hb
  cases hb
theorem MarkI.keep {w w' : World} {B B' : Nat} {x : Int} {v : Value} (h : MarkI w B x v) (hB : B ≤ B') (hs : ∀ b cur, b < B → w.heap[b]? = some (.cells cur 3 (0, 0)) → w'.heap[b]? = some (.cells cur 3 (0, 0))) : MarkI w' B' x v := by
  obtain ⟨a, n, c, h1, h2, h3⟩ := h
  refine ⟨a, n, c, h1, h2, fun j hj => ?_⟩
  obtain ⟨b, cur, k1, k2, k3, k4⟩ := h3 j hj
  exact ⟨b, cur, k1, by omega, hs b cur k2 k3, k4⟩
theorem takeI_end {w wr w1 w2 w3 w4 : World} {bo B m n cap : Nat} {ao : Option Addr} {bv v4 : Value} {vs : List Value} {s1 s2 s3 : Value} (hm : m < 100) (hlt : bo < B) (hle : B ≤ w.heap.size) (hn : n ≤ 900)
    (HF : ∀ g, ao = some ⟨g, 0, none⟩ → B ≤ g)
    (HBO : w.heap[bo]? = some (.cells #[.slice none 0 0, bv, .slice none 0 0] 32 (0, 0))) (HOWN : w.ownsRow (bo + 1) 65 1 bv (4 * m) vs) (HBLK : ∀ k, bv.ownBlock = some k → k < B) (HMK : ∀ (i : Nat) (v : Value), vs[i]? = some v → MarkI w B (-1000 - (i : Int) / 4) v)
    (hb : Below B w wr) (hsz : wr.heap.size = w.heap.size) (HST : ∀ j, B ≤ j → (∀ g, ao = some ⟨g, 0, none⟩ → j ≠ g) → wr.heap[j]? = w.heap[j]?) (HMT : RowM wr ao cap n (-1000 - (m : Int)))
    (t1 : Turn wr w1 ao (-1000 - (m : Int))) (t2 : Turn w1 w2 ao (-1000 - (m : Int))) (t3 : Turn w2 w3 ao (-1000 - (m : Int))) (g4 : w3.grownBy w4 bv.ownBlock)
    (m1 : MarkI w1 w1.heap.size (-1000 - (m : Int)) s1) (m2 : MarkI w2 w2.heap.size (-1000 - (m : Int)) s2) (m3 : MarkI w3 w3.heap.size (-1000 - (m : Int)) s3)
    (ho4 : w4.ownsRow (bo + 1) 65 1 v4 (4 * m + 4) (vs ++ [.slice ao n cap, s1, s2, s3])) :
    BookI (w4.setCell ⟨bo, 1, none⟩ v4) bo (w4.setCell ⟨bo, 1, none⟩ v4).heap.size (m + 1) ∧ StayI w (w4.setCell ⟨bo, 1, none⟩ v4) bo B ao := by
  have T3 : Turn wr w3 ao (-1000 - (m : Int)) := (t1.trans t2).trans t3
  have hl := T3.size
  have hl4 := g4.size
  have hnb : some bo ≠ bv.ownBlock := fun h => by have := (HOWN.lt bo h.symm).1; omega
  have K3 : ∀ k, k < B → w3.heap[k]? = w.heap[k]? := fun k hk => by
    rw [T3.block k (by omega) (fun g hg => by have := HF g hg; omega), hb.block k hk]
  have B3 : w3.heap[bo]? = some (.cells #[.slice none 0 0, bv, .slice none 0 0] 32 (0, 0)) := by rw [K3 bo hlt]; exact HBO
  have B4 : w4.heap[bo]? = some (.cells #[.slice none 0 0, bv, .slice none 0 0] 32 (0, 0)) := by
    rw [g4.block bo (by omega) hnb]; exact B3
  have O3 : w3.ownsRow (bo + 1) 65 1 bv (4 * m) vs := own_keep HOWN (fun k hk => K3 k (HBLK k hk))
  have K4 : KeepsI w3 (w4.setCell ⟨bo, 1, none⟩ v4) := (keepsI_own O3 g4).trans (keepsI_set v4 B4)
  have hsf : (w4.setCell ⟨bo, 1, none⟩ v4).heap.size = w4.heap.size := World.size_setCell ..
  have hvl : vs.length = 4 * m := by have := HOWN.1; omega
  have fin : ∀ s, MarkI w3 w3.heap.size (-1000 - (m : Int)) s → ∀ j, j < 4 → MarkI (w4.setCell ⟨bo, 1, none⟩ v4) (w4.setCell ⟨bo, 1, none⟩ v4).heap.size (-1000 - ((4 * m + j : Nat) : Int) / 4) s := fun s hs j hj => by
    rw [show (-1000 - ((4 * m + j : Nat) : Int) / 4) = -1000 - (m : Int) by omega]
    exact hs.keep (by omega) fun b cur _ => K4 b cur
  constructor
  · refine ⟨by omega, by omega, Nat.le_refl _, v4, vs ++ [.slice ao n cap, s1, s2, s3], ?_, ?_, ?_, ?_⟩
    · have := heap_setCell_same w4 bo 1 _ _ v4 B4
      simpa using this
    · refine own_keep (by rw [show 4 * (m + 1) = 4 * m + 4 by omega]; exact ho4) (fun k hk => ?_)
      have := (ho4.lt k hk).1
      rw [heap_setCell_other _ _ _ _ (show k ≠ bo by omega)]
    · intro k hk
      have := (ho4.lt k hk).2
      omega
    · intro i v hi
      rcases Nat.lt_or_ge i vs.length with h | h
      · rw [List.getElem?_append_left h] at hi
        refine (HMK i v hi).keep (by omega) fun b cur hbl hc => K4 b cur ?_
        rw [K3 b hbl]; exact hc
      · rw [List.getElem?_append_right h, hvl] at hi
        obtain ⟨j, rfl⟩ : ∃ j, i = 4 * m + j := ⟨i - 4 * m, by omega⟩
        rw [show 4 * m + j - 4 * m = j by omega] at hi
        match j, hi with
        | 0, hi =>
          cases (by simpa using hi : Value.slice ao n cap = v)
          exact fin _ ((HMT.mark (by omega)).turn T3) 0 (by omega)
        | 1, hi =>
          cases (by simpa using hi : s1 = v)
          exact fin _ (m1.turn (t2.trans t3)) 1 (by omega)
        | 2, hi =>
          cases (by simpa using hi : s2 = v)
          exact fin _ (m2.turn t3) 2 (by omega)
        | 3, hi =>
          cases (by simpa using hi : s3 = v)
          exact fin _ m3 3 (by omega)
        | j + 4, hi => simp at hi
  · refine ⟨⟨?_, ?_, ?_, by omega, fun k hk => ?_⟩, fun k hk hkl hne => ?_⟩
    · show w4.os = _; rw [g4.os, T3.os, hb.os]
    · show w4.tape = _; rw [g4.tape, T3.tape, hb.tape]
    · show w4.output = _; rw [g4.output, T3.output, hb.output]
    · rw [heap_setCell_other _ _ _ _ (show k ≠ bo by omega), g4.block k (by omega) (fun h => by have := (HOWN.lt k h.symm).1; omega), K3 k (by omega)]
    · rw [heap_setCell_other _ _ _ _ (show k ≠ bo by omega), g4.block k (by omega) (fun h => by have := HBLK k h.symm; omega), T3.block k (by omega) hne, HST k hk hne]
theorem growA (w : World) (o : Obj) (row : Option Nat) : w.grownBy (w.alloc o) row := ⟨rfl, rfl, rfl, by simp, fun i hi _ => by show (w.heap.push o)[i]? = w.heap[i]?; rw [Array.getElem?_push, if_neg (Nat.ne_of_lt hi)]⟩
theorem new_cells (w : World) (l : List Value) (t : TypeId) : ∀ j u, l[j]? = some u → (w.alloc (.cells l.toArray t)).cell? ((⟨w.heap.size, 0, none⟩ : Addr).add j) = some u := by
  intro j u hu
  have hadd : (⟨w.heap.size, 0, none⟩ : Addr).add j = ⟨w.heap.size, j, none⟩ := by unfold Addr.add; split <;> simp_all
  rw [hadd, cell_of_row _ w.heap.size j _ _ _ (heap_alloc_new w _)]
  simpa using hu
set_option maxHeartbeats 1600000 in
set_option maxRecDepth 100000 in
theorem takeI_any (bo B m : Nat) (ao : Option Addr) (n cap : Nat) (w : World) (hK : BookI w bo B m) (hf : FullI w B ao n cap) (hcap : cap ≤ maxLen) (hn : n ≤ 900) (hm1 : m < 100) :
    Calls Try.prog 28 #[.pointer (some ⟨bo, 0, none⟩), .slice ao n cap] w fun e w' => e = .returned (.tuple #[]) ∧ BookI w' bo w'.heap.size (m + 1) ∧ StayI w w' bo B ao := by
  have hlt := hK.lt
  obtain ⟨bv, vs, hbo, hown, hblk, hmk⟩ := hK.row
  have c0 : w.cell? ⟨bo, 1, none⟩ = some bv := by rw [cell_of_row w bo 1 _ _ _ hbo]; rfl
  obtain ⟨bg, bcap, rfl⟩ := slice_of hown
  have hq : 4 * (m : Int) / 4 = m := by omega
  have HOWN : Hid (w.ownsRow (bo + 1) 65 1 (.slice bg (4 * m) bcap) (4 * m) vs) := hown
  have HBO : Hid (w.heap[bo]? = some (.cells #[.slice none 0 0, .slice bg (4 * m) bcap, .slice none 0 0] 32 (0, 0))) := hbo
  have HBLK : Hid (∀ k, (Value.slice bg (4 * m) bcap).ownBlock = some k → k < B) := hblk
  have HMK : Hid (∀ (i : Nat) (v : Value), vs[i]? = some v → MarkI w B (-1000 - (i : Int) / 4) v) := hmk
  have HF : Hid (FullI w B ao n cap) := hf
  have HFG : Hid (∀ g, ao = some ⟨g, 0, none⟩ → B ≤ g) := fun g hg => by
    rcases HF.out with ⟨h, _⟩ | ⟨g', cur', h1, h2, _⟩
    · rw [h] at hg; cases hg
    · rw [h1] at hg; cases hg; exact h2
  have HK : Hid (BookI w bo B m) := hK
  have HCAP : Hid (cap ≤ maxLen) := hcap
  have hnc : n ≤ cap := by
    rcases HF.out with ⟨_, h, _⟩ | ⟨g', cur', h1, h2, h3, h4, h5⟩
    · omega
    · exact h5
  clear hown hbo hblk hmk hf hK hcap
  go_enter Try.func28, Try.ntmps28
  go_wp2
  go_loopw [5] (fun i wr => ∃ k : Nat, k ≤ n ∧ i = .int .i64 k ∧ RowM wr ao cap k (-1000 - (m : Int)) ∧ Below B w wr ∧ wr.heap.size = w.heap.size ∧ ∀ j, B ≤ j → (∀ g, ao = some ⟨g, 0, none⟩ → j ≠ g) → wr.heap[j]? = w.heap[j]?) (fun i _ => n - (intOf i).toNat)
  case atStart =>
    refine ⟨0, Nat.zero_le _, rfl, ?_, Below.refl _ _, rfl, fun _ _ _ => rfl⟩
    rcases HF.out with ⟨h1, h2, h3⟩ | ⟨g, cur, h1, h2, h3, h4, h5⟩
    · exact Or.inl ⟨h1, rfl, h3⟩
    · exact Or.inr ⟨g, cur, h1, h3, h4, by omega, fun j hj => by omega⟩
  case round =>
    obtain ⟨k, hk, rfl, hmt, hb, hsz, hst⟩ := hrel
    by_cases hkn : k < n
    · obtain ⟨g, cur, rfl, hg, hcs, hpc, hmk⟩ : ∃ g cur, ao = some ⟨g, 0, none⟩ ∧ wr.heap[g]? = some (.cells cur 3 (0, 0)) ∧ cur.size = cap ∧ k ≤ cap ∧ ∀ j, j < k → cur[j]? = some (.int .i64 (-1000 - (m : Int))) := by
        rcases hmt with ⟨_, h2, h3⟩ | h
        · omega
        · exact h
      have hBg : B ≤ g := HFG.out g rfl
      have HG : Hid (wr.heap[g]? = some (.cells cur 3 (0, 0))) := hg
      have HMT : Hid (∀ j, j < k → cur[j]? = some (.int .i64 (-1000 - (m : Int)))) := hmk
      have HST : Hid (∀ j, B ≤ j → (∀ g', (some ⟨g, 0, none⟩ : Option Addr) = some ⟨g', 0, none⟩ → j ≠ g') → wr.heap[j]? = w.heap[j]?) := hst
      have hfr := frozen_of_row wr g k _ _ hg
      obtain ⟨old, hold⟩ : ∃ v, wr.cell? ⟨g, k, none⟩ = some v := ⟨_, by rw [cell_of_row wr g k _ _ _ hg]; exact Array.getElem?_eq_getElem (by omega)⟩
      have hkn' : (k : Int) < (n : Int) := by omega
      have HSZ : Hid (wr.heap.size = w.heap.size) := hsz
      clear hmt hg hmk hst hsz
      go_wp2
      go_roundw
      case rel =>
        have hset := heap_setCell_same wr g k _ _ (.int .i64 (-1000 - (m : Int))) HG.out
        refine ⟨k + 1, by omega, by go_num, Or.inr ⟨g, _, rfl, hset, by simpa using hcs, by omega, fun j hj => ?_⟩, Below.setCell hb hBg _, ?_, fun j hj hne => ?_⟩
        · rw [Array.getElem?_setIfInBounds]
          by_cases hjk : k = j
          · rw [if_pos hjk, if_pos (by omega)]
          · rw [if_neg hjk]; exact HMT.out j (by omega)
        · rw [World.size_setCell, HSZ.out]
        · rw [heap_setCell_other _ _ _ _ (hne g rfl)]; exact HST.out j hj hne
      case measure => simp [intOf]; omega
    · obtain rfl : k = n := by omega
      have HMT : Hid (RowM wr ao cap k (-1000 - (m : Int))) := hmt
      have HST : Hid (∀ j, B ≤ j → (∀ g, ao = some ⟨g, 0, none⟩ → j ≠ g) → wr.heap[j]? = w.heap[j]?) := hst
      have HSZ : Hid (wr.heap.size = w.heap.size) := hsz
      clear hmt hst hkn hk
      have hlt0 : ¬ ((k : Int) < (k : Int)) := by omega
      obtain ⟨i1, hi1, hy0, hy1, hy2⟩ := info_of (by kernel_rfl : (Try.prog.info? 65).map (fun i => (i.zero, i.size, i.bytes)) = some (some (.slice none 0 0), 1, 24))
      have HI1 : Hid (Try.prog.info? 65 = some i1) := hi1
      have HB : Hid (Below B w wr) := hb
      have HCR : Hid (wr.cell? ⟨bo, 1, none⟩ = some (.slice bg (4 * m) bcap)) := by
        show _ = _
        rw [hb.cell (p := ⟨bo, 1, none⟩) hlt]; exact c0
      have HLE : Hid (bo < wr.heap.size) := by have := HK.out.le; show _ < _; omega
      clear hi1 c0 hsz hb
      go_wp2_with (first
        | (refine wpList_append_mark _ rfl (.tmp 26) (.tmp 28) rfl ao k cap (-1000 - (m : Int)) rfl (HMT.out.turn (turn_alloc _ _)) HCAP.out ⟨wr.heap.size, 0, none⟩ 1 rfl (new_cells wr (reps 1 (-1000 - (m : Int))) _) (by decide) (by decide) hn ?_
           intro a1 c1 w1 ht1 hk1
           have G1 : Hid (Turn wr w1 ao (-1000 - (m : Int))) := (turn_alloc _ _).trans ht1
           have M1 : Hid (MarkI w1 w1.heap.size (-1000 - (m : Int)) (.slice a1 (k + 1) c1)) := hk1
           have HMT1 : Hid (RowM w1 ao cap k (-1000 - (m : Int))) := HMT.out.turn G1.out
           clear ht1 hk1)
        | (refine wpList_append_mark _ rfl (.tmp 30) (.tmp 33) rfl ao k cap (-1000 - (m : Int)) rfl (HMT1.out.turn (turn_alloc _ _)) HCAP.out ⟨w1.heap.size, 0, none⟩ 2 rfl (new_cells w1 (reps 2 (-1000 - (m : Int))) _) (by decide) (by decide) hn ?_
           intro a2 c2 w2 ht2 hk2
           have G2 : Hid (Turn w1 w2 ao (-1000 - (m : Int))) := (turn_alloc _ _).trans ht2
           have M2 : Hid (MarkI w2 w2.heap.size (-1000 - (m : Int)) (.slice a2 (k + 2) c2)) := hk2
           have HMT2 : Hid (RowM w2 ao cap k (-1000 - (m : Int))) := HMT1.out.turn G2.out
           clear ht2 hk2)
        | (refine wpList_append_mark _ rfl (.tmp 35) (.tmp 39) rfl ao k cap (-1000 - (m : Int)) rfl (HMT2.out.turn (turn_alloc _ _)) HCAP.out ⟨w2.heap.size, 0, none⟩ 3 rfl (new_cells w2 (reps 3 (-1000 - (m : Int))) _) (by decide) (by decide) hn ?_
           intro a3 c3 w3 ht3 hk3
           have G3 : Hid (Turn w2 w3 ao (-1000 - (m : Int))) := (turn_alloc _ _).trans ht3
           have M3 : Hid (MarkI w3 w3.heap.size (-1000 - (m : Int)) (.slice a3 (k + 3) c3)) := hk3
           have GG : Hid (Turn wr w3 ao (-1000 - (m : Int))) := (G1.out.trans G2.out).trans G3.out
           have hbo3 : w3.heap[bo]? = wr.heap[bo]? := GG.out.block bo HLE.out (fun g hg => by have := HFG.out g hg; omega)
           have cb3 : w3.cell? ⟨bo, 1, none⟩ = some (.slice bg (4 * m) bcap) := (World.cell?_of_block (a := ⟨bo, 1, none⟩) hbo3).trans HCR.out
           have HO3 : Hid (w3.ownsRow (bo + 1) 65 1 (.slice bg (4 * m) bcap) (4 * m) vs) := own_keep HOWN.out (fun q hq => by rw [GG.out.block q (by have := HBLK.out q hq; have := HK.out.le; have := HSZ.out; omega) (fun g hg => by have := HFG.out g hg; have := HBLK.out q hq; omega), HB.out.block q (HBLK.out q hq)])
           have HL3 : Hid (bo + 1 ≤ w3.heap.size) := by have := GG.out.size; have := HLE.out; show _ ≤ _; omega
           have HBO3 : Hid (w3.heap[bo]? = some (.cells #[.slice none 0 0, .slice bg (4 * m) bcap, .slice none 0 0] 32 (0, 0))) := by show _ = _; rw [hbo3, HB.out.block bo hlt]; exact HBO.out
           clear ht3 hk3 hbo3)
        | (refine wpList_append_own_at _ (rfl) (.tmp 45) (.tmp 50) 29 (rfl) (bo + 1) 65 i1 (.slice none 0 0) 1 24 (Try.underlying29) HI1.out hy0 hy1 hy2 (rfl) (by decide) (.slice bg (4 * m) bcap) (4 * m) vs (rfl) ((HO3.out.alloc _)) ⟨w3.heap.size, 0, none⟩ 4 4 [.slice ao k cap, .slice a1 (k + 1) c1, .slice a2 (k + 2) c2, .slice a3 (k + 3) c3] (rfl) (rfl) ((new_cells w3 _ _)) (by simp [Value.oneCell']) (by (unfold maxLen; omega)) (by omega) ((Nat.le_trans HL3.out (growA _ _ none).size)) ?_
           intro v4 w4 ho4 hg4 _ _
           have G4 : Hid (w3.grownBy w4 (Value.slice bg (4 * m) bcap).ownBlock) := (growA _ _ _).trans hg4
           have HO4 : Hid (w4.ownsRow (bo + 1) 65 1 v4 (4 * m + 4) (vs ++ [.slice ao k cap, .slice a1 (k + 1) c1, .slice a2 (k + 2) c2, .slice a3 (k + 3) c3])) := ho4
           obtain ⟨a4, c4, rfl⟩ := slice_of ho4
           have hx4 : w4.heap[bo]? = some (.cells #[.slice none 0 0, .slice bg (4 * m) bcap, .slice none 0 0] 32 (0, 0)) := by
             rw [G4.out.block bo (by have := HL3.out; omega) (fun h => by have := (HO3.out.lt bo h.symm).1; omega)]; exact HBO3.out
           obtain ⟨z1, z2, z3, z4, z5, z6⟩ := box3_cells hx4
           clear ho4 hg4 hx4))
      refine bodyPost_end (results_none rfl _ _ _) rfl ?_
      exact ⟨rfl, takeI_end hm1 hlt HK.out.le hn HFG.out HBO.out HOWN.out HBLK.out HMK.out HB.out HSZ.out HST.out HMT.out G1.out G2.out G3.out G4.out M1.out M2.out M3.out HO4.out⟩
end Go.Proofs.Ytjdcnlggpfkopaa
