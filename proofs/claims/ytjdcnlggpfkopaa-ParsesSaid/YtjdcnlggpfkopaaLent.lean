/- Bytes that are lent, held against one another, and looked at again. -/
import Derived.Test.YtjdcnlggpfkopaaRows
import Derived.WalkKit
import Derived.ProofKit
import Derived.OpenShut
import Derived.WalkLawsBesides
import Derived.Laws.CopyOwn
import Derived.Laws.MakeOwn
import Derived.Laws.Rows
import Derived.Deep.QuietTactic
import Derived.BigQuiet
namespace Go.Proofs.Ytjdcnlggpfkopaa
open Go.ChangeShapes Go.WideShapes Go.ChangeAt Go.RowKit
set_option linter.unusedVariables false

/-- Bytes that a walk is handed: their number, and each of them. -/
structure Bytes (w : World) (a : Option Addr) (n cap : Nat) (zs : List Int) : Prop where
  hlen : zs.length = n
  hle : n ≤ 140737488351232
  hcap : n ≤ cap
  hbd : ∀ x ∈ zs, 0 ≤ x ∧ x ≤ 255
  hat : 0 < n → ∃ b off, a = some ⟨b, off, none⟩ ∧ b < w.heap.size ∧ ∀ j, j < n → w.cell? ⟨b, off + j, none⟩ = some (.int .u8 (zs.getD j 0))
theorem Bytes.below {w w' : World} {a : Option Addr} {n cap : Nat} {zs : List Int} (h : Bytes w a n cap zs) (hb : Below w.heap.size w w') : Bytes w' a n cap zs := by
  refine ⟨h.hlen, h.hle, h.hcap, h.hbd, fun hn => ?_⟩
  obtain ⟨b, off, h1, h2, h3⟩ := h.hat hn
  exact ⟨b, off, h1, Nat.lt_of_lt_of_le h2 hb.size, fun j hj => by rw [hb.cell (p := ⟨b, off + j, none⟩) h2]; exact h3 j hj⟩

theorem u8info : (Try.prog.info? 5).map (fun i => (i.zero, i.size, i.bytes)) = some (some (.int .u8 0), 1, 1) := by kernel_rfl
theorem u8size : (Try.prog.info? 5).map (·.size) = some 1 := by kernel_rfl
def u8s (l : List Int) : List Value := l.map (Value.int .u8)
/-- The row of bytes that are lent: k of the four places behind them are marked. -/
def lentRow (zs : List Int) (k : Nat) : List Value := u8s (zs ++ (List.replicate k 77 ++ List.replicate (4 - k) 0))
theorem lentRow_len (zs : List Int) (k : Nat) (h : k ≤ 4) : (lentRow zs k).length = zs.length + 4 := by simp [lentRow, u8s]; omega
theorem lentRow_set (zs : List Int) (k : Nat) (h : k < 4) : (lentRow zs k).set (zs.length + k) (.int .u8 77) = lentRow zs (k + 1) := by
  have this : ∀ k, k < 4 → (List.map (Value.int .u8) (List.replicate k 77 ++ List.replicate (4 - k) 0)).set k (.int .u8 77) = List.map (Value.int .u8) (List.replicate (k + 1) 77 ++ List.replicate (4 - (k + 1)) 0) := by
    intro k hk
    match k, hk with
    | 0, _ => rfl
    | 1, _ => rfl
    | 2, _ => rfl
    | 3, _ => rfl
  unfold lentRow u8s
  rw [List.map_append, List.set_append_right _ _ (by simp), List.length_map, Nat.add_sub_cancel_left, this k h, ← List.map_append]
theorem made_row (n : Nat) : madeCells (Value.int .u8 0).cells ((n + 4) * 1) = (List.replicate (n + 4) (Value.int .u8 0)).toArray := by
  apply Array.ext
  · simp [madeCells]
  · intro i h1 h2
    simp [madeCells, Value.cells, Nat.mod_one]
theorem splice_made (zs : List Int) : splice (List.replicate (zs.length + 4) (Value.int .u8 0)) 0 (u8s zs) = lentRow zs 0 := by
  simp [splice, lentRow, u8s]
theorem u8s_one (zs : List Int) : ∀ v ∈ u8s zs, v.oneCell' = true := by
  intro v hv
  simp only [u8s, List.mem_map] at hv
  obtain ⟨x, _, rfl⟩ := hv
  rfl

set_option maxHeartbeats 400000 in
theorem lent_any (a : Option Addr) (n cap : Nat) (zs : List Int) (w : World) (hB : Bytes w a n cap zs) :
    Calls Try.prog 10 #[.slice a n cap] w fun e w' => e = .returned (.slice (some ⟨w.heap.size, 0, none⟩) n (n + 4)) ∧ w'.heap[w.heap.size]? = some (.cells (lentRow zs 4).toArray 5 (0, 0)) ∧ Below w.heap.size w w' := by
  obtain ⟨i0, hi, hz0, hz1, hz2⟩ := info_parts u8info
  have hle := hB.hle
  have hmk : ∀ w : World, (Instr.makeSlice 22 (.int .i64 ((n : Int) + 4)) (.int .i64 ((n : Int) + 4))).run Try.prog w = .ok (.slice (some ⟨w.heap.size, 0, none⟩) (n + 4) (n + 4)) (w.alloc (.cells (List.replicate (n + 4) (Value.int .u8 0)).toArray 5)) := fun w => by
    have := run_make w 22 5 i0 (.int .u8 0) Try.underlying22 hi hz0 .i64 .i64 ((n : Int) + 4) ((n : Int) + 4) (by omega) (by omega) (by rw [hz2]; omega) (by omega)
    rw [hz1, show ((n : Int) + 4).toNat = n + 4 by omega, made_row] at this
    exact this
  have HB : Hid (Bytes w a n cap zs) := hB
  clear hB
  have HG0 : Hid ((w.alloc (.cells (Array.replicate (n + 4) (Value.int .u8 0)) 5)).heap[w.heap.size]? = some (.cells (List.replicate (n + 4) (Value.int .u8 0)).toArray 5 (0, 0))) := by
    have := heap_alloc_new w (.cells (Array.replicate (n + 4) (Value.int .u8 0)) 5)
    simpa [Hid] using this
  have HN : Hid ((u8s zs).length = Nat.min n (n + 4)) := by
    show _ = _
    rw [show Nat.min n (n + 4) = n from Nat.min_eq_left (by omega)]; simp [u8s, HB.out.hlen]
  have HFIT : Hid (0 + (u8s zs).length ≤ (List.replicate (n + 4) (Value.int .u8 0)).length) := by
    show _ ≤ _
    simp [u8s, HB.out.hlen]
  have HPOS : Hid (0 < (u8s zs).length → (some ⟨w.heap.size, 0, none⟩ : Option Addr) = some ⟨w.heap.size, 0, none⟩ ∧ ∃ ad, a = some ad ∧ ∀ j v, (u8s zs)[j]? = some v → (w.alloc (.cells (Array.replicate (n + 4) (Value.int .u8 0)) 5)).cell? (ad.add j) = some v) := by
    intro hp
    refine ⟨rfl, ?_⟩
    obtain ⟨b, off, rfl, hb, hc⟩ := HB.out.hat (by simpa [u8s, HB.out.hlen] using hp)
    refine ⟨_, rfl, fun j v hv => ?_⟩
    have hj : j < n := by
      rcases Nat.lt_or_ge j n with h' | h'
      · exact h'
      · rw [List.getElem?_eq_none (by simpa [u8s, HB.out.hlen] using h')] at hv; cases hv
    have hadd : (⟨b, off, none⟩ : Addr).add j = ⟨b, off + j, none⟩ := by unfold Addr.add; split <;> simp_all
    rw [hadd, World.cell?_alloc_past _ _ _ hb, hc j hj]
    simp only [u8s, List.getElem?_map] at hv
    rw [List.getD_eq_getElem?_getD]
    cases hz : zs[j]? with
    | none => rw [hz] at hv; cases hv
    | some y => rw [hz] at hv; simpa using hv
  have HBW : Hid (Below w.heap.size w (w.alloc (.cells (Array.replicate (n + 4) (Value.int .u8 0)) 5))) := (Below.refl _ _).alloc (Nat.le_refl _) _
  have HL : Hid (zs.length = n) := HB.out.hlen
  go_enter Try.func10, Try.ntmps10
  go_wp2_with (refine wpList_copy_splice rfl (.tmp 9) (.tmp 10) 22 22 rfl 5 Try.underlying22 u8size (some ⟨w.heap.size, 0, none⟩) a (n + 4) (n + 4) n cap rfl rfl w.heap.size 0 (List.replicate (n + 4) (Value.int .u8 0)) 5 HG0.out (u8s zs) HN.out HPOS.out HFIT.out (u8s_one zs) w.heap.size w HBW.out (Nat.le_refl _) ?_; intro w2 hh2 hb2)
  clear hmk HG0 HN HFIT HPOS HBW
  have HR : Hid (w2.heap[w.heap.size]? = some (.cells (lentRow zs 0).toArray 5 (0, 0))) := by
    have := hh2.out
    rw [← HL.out, splice_made] at this
    exact this
  clear hh2
  go_loopw [4] (fun i wr => ∃ k : Nat, k ≤ 4 ∧ i = .int .i64 k ∧ wr.heap[w.heap.size]? = some (.cells (lentRow zs k).toArray 5 (0, 0)) ∧ Below w.heap.size w wr) (fun i _ => 4 - (intOf i).toNat)
  case atStart => exact ⟨0, by omega, rfl, HR.out, hb2⟩
  case round =>
    obtain ⟨k, hk, rfl, hg, hb⟩ := hrel
    have HG : Hid (wr.heap[w.heap.size]? = some (.cells (lentRow zs k).toArray 5 (0, 0))) := hg
    clear HR hb2
    by_cases hlt : (k : Int) < 4
    · have hfr := frozen_of_row wr w.heap.size (n + k) _ _ hg
      obtain ⟨old, hold⟩ : ∃ v, wr.cell? ⟨w.heap.size, n + k, none⟩ = some v := ⟨_, by rw [cell_of_row wr w.heap.size (n + k) _ _ _ hg]; exact Array.getElem?_eq_getElem (by simp [lentRow_len zs k hk, HL.out]; omega)⟩
      clear hg
      go_wp2
      go_roundw
      case rel =>
        refine ⟨k + 1, by omega, by go_num, ?_, Below.setCell hb (Nat.le_refl _) _⟩
        have := heap_setCell_same wr w.heap.size (n + k) _ _ (.int .u8 77) HG.out
        rw [List.setIfInBounds_toArray, ← HL.out, lentRow_set zs k (by omega), HL.out] at this
        exact this
      case measure => simp [intOf]; omega
    · have hk4 : k = 4 := by omega
      subst hk4
      clear hg
      go_wp2
      go_ret
      exact ⟨rfl, HG.out, hb⟩
end Go.Proofs.Ytjdcnlggpfkopaa
