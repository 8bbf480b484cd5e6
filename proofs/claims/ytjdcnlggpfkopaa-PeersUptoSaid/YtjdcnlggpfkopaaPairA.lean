/- A pair of peers: an answer is made up. -/
import Derived.Test.YtjdcnlggpfkopaaPairU
import Derived.Deep.RegionHeld3
namespace Go.Proofs.Ytjdcnlggpfkopaa
open Go.ChangeShapes Go.WideShapes Go.ChangeAt Go.RowKit
set_option linter.unusedVariables false

/-- The byte at j. -/
def byteOf (cur : Array Value) (j : Nat) : Int := match cur[j]? with | some (.int _ x) => x | _ => 0
theorem bytes_of_row {w : World} {g c : Nat} {cur : Array Value} (hg : w.heap[g]? = some (.cells cur 5 (0, 0))) (hc : 48 ≤ c) (h : ∀ j, j < 48 → ∃ x, cur[j]? = some (.int .u8 x) ∧ 0 ≤ x ∧ x ≤ 255) : Bytes w (some ⟨g, 0, none⟩) 48 c ((List.range 48).map (byteOf cur)) := by
  refine ⟨by simp, by decide, hc, ?_, fun _ => ⟨g, 0, rfl, (Array.getElem?_eq_some_iff.1 hg).1, fun j hj => ?_⟩⟩
  · intro x hx
    obtain ⟨j, hj, rfl⟩ := List.mem_map.1 hx
    obtain ⟨y, hy, hb⟩ := h j (List.mem_range.1 hj)
    unfold byteOf; rw [hy]; exact hb
  · obtain ⟨y, hy, hb⟩ := h j hj
    rw [cell_of_row w g (0 + j) _ _ _ hg, Nat.zero_add, hy, List.getD_eq_getElem?_getD, List.getElem?_map, List.getElem?_range hj]
    show _ = some (Value.int .u8 (byteOf cur j))
    unfold byteOf; rw [hy]
theorem row_set {cur : Array Value} {k : Nat} {y : Int} (hk : k < 48) (hs : 48 ≤ cur.size) (h : ∀ j, j < 48 → ∃ x, cur[j]? = some (.int .u8 x) ∧ 0 ≤ x ∧ x ≤ 255) (hy : 0 ≤ y ∧ y ≤ 255) : 48 ≤ (cur.setIfInBounds k (.int .u8 y)).size ∧ ∀ j, j < 48 → ∃ x, (cur.setIfInBounds k (.int .u8 y))[j]? = some (.int .u8 x) ∧ 0 ≤ x ∧ x ≤ 255 := by
  refine ⟨by simpa using hs, fun j hj => ?_⟩
  rw [Array.getElem?_setIfInBounds]
  by_cases e : k = j
  · subst e; rw [if_pos rfl, if_pos (by omega)]; exact ⟨y, rfl, hy⟩
  · rw [if_neg e]; exact h j hj
theorem refFormed_row {w0 w' : World} {s : Value} {fl : List Int} (h : RefFormed w0 w' s 0 fl) (hbd : ∀ x ∈ fl, 0 ≤ x ∧ x ≤ 255) (hl : fl.length = 48) :
    ∃ g c cur, s = .slice (some ⟨g, 0, none⟩) 48 c ∧ w0.heap.size ≤ g ∧ w'.heap[g]? = some (.cells cur 5 (0, 0)) ∧ 48 ≤ c ∧ 48 ≤ cur.size ∧ ∀ j, j < 48 → ∃ x, cur[j]? = some (.int .u8 x) ∧ 0 ≤ x ∧ x ≤ 255 := by
  rcases h with ⟨he, rfl⟩ | ⟨he, hown⟩
  · exact absurd rfl he
  · rcases hown.2 with ⟨_, h0⟩ | ⟨g2, c2, cur, rfl, hb, hg2, hc2, _, hcs, htk⟩
    · omega
    · refine ⟨g2, c2, cur, rfl, hb, hg2, hc2, by omega, fun j hj => ?_⟩
      have h1 : (cur.toList.take 48)[j]? = cur[j]? := by rw [List.getElem?_take, if_pos hj, Array.getElem?_toList]
      have h2 : (cur.toList.take 48)[j]? = some (.int .u8 (fl.getD j 0)) := by
        rw [show cur.toList.take 48 = u8s fl from htk]; unfold u8s
        rw [List.getElem?_map, List.getD_eq_getElem?_getD, List.getElem?_eq_getElem (by omega)]; rfl
      refine ⟨_, by rw [← h1]; exact h2, hbd _ ?_⟩
      rw [List.getD_eq_getElem?_getD, List.getElem?_eq_getElem (by omega)]
      exact List.getElem_mem _
theorem bits8 (x y : Int) : 0 ≤ bits .xor .u8 x y ∧ bits .xor .u8 x y ≤ 255 := by
  unfold bits
  have h : ∀ z, IntKind.u8.wrap z = z % 256 := fun z => by kernel_rfl
  simp only [h]
  omega
theorem wrap64 (x : Int) : 0 ≤ IntKind.u64.wrap x ∧ IntKind.u64.wrap x ≤ 18446744073709551615 := by
  have h : IntKind.u64.wrap x = x % 18446744073709551616 := by kernel_rfl
  omega
set_option maxRecDepth 100000 in
set_option maxHeartbeats 4000000 in
theorem answer_any (bx bp br bo : Nat) (wt : Bool) (t : Int) (sv : Value) (kd pe u : Int) (ob : Option Addr) (nb cb : Nat) (zb : List Int) (w : World) (ht : 0 ≤ t ∧ t ≤ 18446744073709551615) (hX : PairAt w bx bp br bo) (hR : RefAt w br wt t sv) (hB : Bytes w ob nb cb zb) :
    Calls Try.prog 47 #[.pointer (some ⟨bx, 0, none⟩), .agg #[.int .i64 kd, .int .i64 pe, .int .u64 u, .slice ob nb cb]] w fun e w' => ∃ g c zs, e = .returned (.slice (some ⟨g, 0, none⟩) 48 c) ∧ Bytes w' (some ⟨g, 0, none⟩) 48 c zs ∧ w.heap.size ≤ g ∧ Below w.heap.size w w' := by
  have hbr : br < w.heap.size := (Array.getElem?_eq_some_iff.1 hR).1
  have hbx : bx < w.heap.size := (Array.getElem?_eq_some_iff.1 hX).1
  have c1 : w.cell? ⟨bx, 1, none⟩ = some (.pointer (some ⟨br, 0, none⟩)) := by rw [cell_of_row w bx 1 _ _ _ hX]; rfl
  have r1 : w.cell? ⟨br, 1, none⟩ = some (.int .u64 t) := by rw [cell_of_row w br 1 _ _ _ hR]; rfl
  have HB := hid_of hB
  have hle : nb ≤ 140737488351232 := hB.hle
  clear hB hX hR
  have HF : Hid (Fits 0 4 4 1 0 0 0 0 0 0 t (IntKind.u64.wrap (t + u.tmod 1000000007)) (IntKind.u64.wrap (IntKind.u64.wrap (t + u.tmod 1000000007) + 5))) := ⟨by decide, by decide, by decide, by decide, ht, wrap64 _, wrap64 _⟩
  have s1 : (w.alloc (.cells #[.int .i64 kd, .int .i64 pe, .int .u64 u, .slice ob nb cb] 60)).drew.cell? ⟨bx, 1, none⟩ = some (.pointer (some ⟨br, 0, none⟩)) := by simp [go_sem, c1, hbx]
  have s2 : (w.alloc (.cells #[.int .i64 kd, .int .i64 pe, .int .u64 u, .slice ob nb cb] 60)).drew.cell? ⟨br, 1, none⟩ = some (.int .u64 t) := by simp [go_sem, r1, hbr]
  have s3 : (w.alloc (.cells #[.int .i64 kd, .int .i64 pe, .int .u64 u, .slice ob nb cb] 60)).drew.cell? ⟨w.heap.size, 2, none⟩ = some (.int .u64 u) := by simp [go_sem]
  go_enter Try.func47, Try.ntmps47
  go_wp2_with fail
  go_region_held3 (fun w' => w'.cell? ⟨bx, 1, none⟩ = some (.pointer (some ⟨br, 0, none⟩)) ∧ w'.cell? ⟨br, 1, none⟩ = some (.int .u64 t) ∧ w'.cell? ⟨w.heap.size, 2, none⟩ = some (.int .u64 u)) (first | exact ⟨s1, s2, s3⟩ | exact ⟨k1, k2, k3⟩) (first | (go_at_call 14; refine (refForm_any 0 4 4 1 0 0 0 0 0 0 t _ _ _ HF.out).mono ?_; rintro e w2 ⟨s, rfl, hf, hb⟩; have k1 := (hb.cell (p := ⟨bx, 1, none⟩) (by simp; omega)).trans s1; have k2 := (hb.cell (p := ⟨br, 1, none⟩) (by simp; omega)).trans s2; have k3 := (hb.cell (p := ⟨w.heap.size, 2, none⟩) (by simp)).trans s3))
  have B2 : Hid (Below (w.heap.size + 1) (w.alloc (.cells #[.int .i64 kd, .int .i64 pe, .int .u64 u, .slice ob nb cb] 60)) w2) := by
    have hb' : Below (w.heap.size + 1) (w.alloc (.cells #[.int .i64 kd, .int .i64 pe, .int .u64 u, .slice ob nb cb] 60)).drew w2 := by
      have := hb
      rw [show (w.alloc (.cells #[.int .i64 kd, .int .i64 pe, .int .u64 u, .slice ob nb cb] 60)).drew.heap.size = w.heap.size + 1 by simp] at this
      exact this
    exact (Below.drew (Below.refl _ _)).trans hb'
  obtain ⟨g, c, cur, rfl, hgb, hrow, hc48, hcs, htk⟩ : ∃ g c cur, s = .slice (some ⟨g, 0, none⟩) 48 c ∧ w.heap.size + 1 ≤ g ∧ w2.heap[g]? = some (.cells cur 5 (0, 0)) ∧ 48 ≤ c ∧ 48 ≤ cur.size ∧ ∀ j, j < 48 → ∃ x, cur[j]? = some (.int .u8 x) ∧ 0 ≤ x ∧ x ≤ 255 := by
    have he : formErr 0 4 4 1 0 0 = 0 := by decide
    have hbd := form_bd 0 4 4 1 0 0 0 0 0 0 t (IntKind.u64.wrap (t + u.tmod 1000000007)) (IntKind.u64.wrap (IntKind.u64.wrap (t + u.tmod 1000000007) + 5)) he
    rw [he] at hf
    have := refFormed_row hf hbd (formList_len ..)
    rw [show (w.alloc (.cells #[.int .i64 kd, .int .i64 pe, .int .u64 u, .slice ob nb cb] 60)).drew.heap.size = w.heap.size + 1 by simp] at this
    exact this
  have CUR := hid_of (And.intro hcs htk)
  have ROW := hid_of hrow
  clear hf hb s1 s2 s3 k1 k2 k3 hrow hcs htk c1 r1 HF
  go_wp2_with fail
  go_loopw [7] (fun i wr => ∃ k : Nat, k ≤ 48 ∧ i = .int .i64 k ∧ (∃ cur, wr.heap[g]? = some (.cells cur 5 (0, 0)) ∧ 48 ≤ cur.size ∧ ∀ j, j < 48 → ∃ x, cur[j]? = some (.int .u8 x) ∧ 0 ≤ x ∧ x ≤ 255) ∧ Below (w.heap.size + 1) (w.alloc (.cells #[.int .i64 kd, .int .i64 pe, .int .u64 u, .slice ob nb cb] 60)) wr) (fun i _ => 48 - (intOf i).toNat)
  case atStart => exact ⟨0, by omega, rfl, ⟨_, ROW.out, CUR.out⟩, B2.out⟩
  case round =>
    obtain ⟨k, hk, rfl, ⟨cur', hg, hcs, htk⟩, hbw⟩ := hrel
    have HG := hid_of hg
    have HCS := hid_of (And.intro hcs htk)
    have BW := hid_of hbw
    have c3 : wr.cell? ⟨w.heap.size, 3, none⟩ = some (.slice ob nb cb) := by rw [hbw.cell (p := ⟨w.heap.size, 3, none⟩) (Nat.lt_succ_self _)]; simp [go_sem]
    have hsz : w.heap.size < wr.heap.size := by have := hbw.size; simp at this; omega
    clear hg hcs htk hbw ROW CUR B2
    by_cases h1 : k < nb
    · by_cases h2 : k < 48
      · obtain ⟨x, hx, hx0⟩ := HCS.out.2 k h2
        obtain ⟨b2, o2, rfl, hb2, hc2⟩ := HB.out.hat (by omega)
        have q1 : wr.cell? ⟨g, k, none⟩ = some (.int .u8 x) := by rw [cell_of_row wr g k _ _ _ HG.out]; exact hx
        have fg : wr.frozen? ⟨g, k, none⟩ = false := frozen_of_row wr g k _ _ HG.out
        have q2 : wr.cell? ⟨b2, o2 + k, none⟩ = some (.int .u8 (zb.getD k 0)) := by
          rw [BW.out.cell (p := ⟨b2, o2 + k, none⟩) (Nat.lt_succ_of_lt hb2), World.cell?_alloc_past _ _ _ hb2]; exact hc2 k h1
        have h1' : (k : Int) < (nb : Int) := by omega
        have h2' : (k : Int) < 48 := by omega
        clear hc2
        go_wp2
        refine region_tailS 13 (by kernel_rfl) (by kernel_rfl) ?_
        simp only [List.take_succ_cons, List.take_zero, List.drop_succ_cons, List.drop_zero]
        repeat (apply StillS.step; intro K hK; constructor; go_simp; apply hK; clear hK K)
        apply StillS.nil
        go_wp2
        go_roundw
        case rel =>
          refine ⟨k + 1, by omega, by go_num, ⟨_, heap_setCell_same wr g k _ _ _ HG.out, row_set h2 HCS.out.1 HCS.out.2 (bits8 _ _)⟩, (Below.setCell (p := ⟨g, k, none⟩) BW.out (by simpa using hgb) _).drew⟩
        case measure => simp [intOf]; omega
      · have h2' : decide (k < 48) = false := by simp; omega
        have h1' : (k : Int) < (nb : Int) := by omega
        go_wp2
        go_ret
        exact ⟨g, c, _, rfl, bytes_of_row HG.out hc48 HCS.out.2, by omega, ((Below.refl _ _).alloc (Nat.le_refl _) _).trans (BW.out.mono (by omega))⟩
    · have h1' : decide (k < nb) = false := by simp; omega
      go_wp2
      go_ret
      exact ⟨g, c, _, rfl, bytes_of_row HG.out hc48 HCS.out.2, by omega, ((Below.refl _ _).alloc (Nat.le_refl _) _).trans (BW.out.mono (by omega))⟩
end Go.Proofs.Ytjdcnlggpfkopaa
