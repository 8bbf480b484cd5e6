/- Many clocks, the code: who lies between; Select. -/
import Derived.Test.YtjdcnlggpfkopaaSelB
namespace Go.Proofs.Ytjdcnlggpfkopaa
open Go.ChangeShapes Go.WideShapes Go.ChangeAt Go.RowKit
set_option linter.unusedVariables false

def ints (l : List Nat) : List Value := l.map fun k : Nat => Value.int .i64 (k : Int)
theorem ints_snoc (l : List Nat) (k : Nat) : ints l ++ [.int .i64 (k : Int)] = ints (l ++ [k]) := by unfold ints; simp
theorem below_grown {B : Nat} {w W w' : World} {row : Option Nat} (h : Below B w W) (hB : B ≤ W.heap.size) (g : W.grownBy w' row) (hr : ∀ k, row = some k → B ≤ k) : Below B w w' :=
  ⟨by rw [g.os, h.os], by rw [g.tape, h.tape], by rw [g.output, h.output], by have := g.size; have := h.size; omega, fun k hk => by rw [g.block k (by omega) (fun e => by have := hr k e.symm; omega), h.block k hk]⟩
theorem own_base {w : World} {B B' : Nat} {e : TypeId} {v : Value} {n : Nat} {xs : List Value} (h : w.ownsRow B e 1 v n xs) (hB : B' ≤ B) : w.ownsRow B' e 1 v n xs := by
  refine ⟨h.1, ?_⟩
  rcases h.2 with h | ⟨g, cap, cur, h1, h2, h3⟩
  · exact Or.inl h
  · exact Or.inr ⟨g, cap, cur, h1, by omega, h3⟩
theorem own_keep {w w' : World} {B : Nat} {e : TypeId} {v : Value} {n : Nat} {xs : List Value} (h : w.ownsRow B e 1 v n xs) (hk : ∀ k, v.ownBlock = some k → w'.heap[k]? = w.heap[k]?) : w'.ownsRow B e 1 v n xs := by
  refine ⟨h.1, ?_⟩
  rcases h.2 with h | ⟨g, cap, cur, h1, h2, h3, h4⟩
  · exact Or.inl h
  · exact Or.inr ⟨g, cap, cur, h1, h2, by rw [hk g (by rw [h1]; rfl)]; exact h3, h4⟩
theorem slice_of {w : World} {B : Nat} {e : TypeId} {v : Value} {n : Nat} {xs : List Value} (h : w.ownsRow B e 1 v n xs) : ∃ a c, v = .slice a n c := by
  rcases h.2 with ⟨h1, h2⟩ | ⟨g, cap, cur, h1, _⟩
  · exact ⟨none, 0, by rw [h1, h2]⟩
  · exact ⟨_, cap, h1⟩
theorem infi64 : (Try.prog.info? 3).map (fun i => (i.zero, i.size, i.bytes)) = some (some (.int .i64 0), 1, 8) := by kernel_rfl
theorem info_of {i : Option TypeInfo} {z : Option Value} {s b : Nat} (h : i.map (fun i => (i.zero, i.size, i.bytes)) = some (z, s, b)) : ∃ j, i = some j ∧ j.zero = z ∧ j.size = s ∧ j.bytes = b := by
  cases i with
  | none => cases h
  | some j => simp at h; exact ⟨j, rfl, h.1, h.2.1, h.2.2⟩

set_option maxRecDepth 100000 in
set_option maxHeartbeats 1600000 in
theorem between_any (b off n c : Nat) (md fa : Nat → Int) (lo hi : Int) (w : World) (hn : n ≤ 1000) (hT : TicksAt w b off n md fa) :
    Calls Try.prog 72 #[.slice (some ⟨b, off, none⟩) n c, .int .i64 lo, .int .i64 hi] w fun r w' => ∃ v, r = .returned v ∧ w'.ownsRow w.heap.size 3 1 v (whoTo md lo hi n).length (ints (whoTo md lo hi n)) ∧ Below w.heap.size w w' := by
  have HC : Hid (TicksAt w b off n md fa) := hT
  clear hT
  obtain ⟨i0, hi0, hz0, hz1, hz2⟩ := info_of infi64
  have HI : Hid (Try.prog.info? 3 = some i0) := hi0
  clear hi0
  go_enter Try.func72, Try.ntmps72
  go_wp2
  go_loopw [7, 12] (fun v i wr => ∃ k : Nat, k ≤ n ∧ i = .int .i64 k ∧ wr.ownsRow w.heap.size 3 1 v (whoTo md lo hi k).length (ints (whoTo md lo hi k)) ∧ Below w.heap.size w wr) (fun _ i _ => n - (intOf i).toNat)
  case atStart => exact ⟨0, by omega, rfl, World.ownsRow_nil _ _ _ _, Below.refl _ _⟩
  case round =>
    obtain ⟨k, hk, rfl, hown, hbw⟩ := hrel
    have HW : Hid (Below w.heap.size w wr) := hbw
    have HO := hown
    obtain ⟨av, cv, rfl⟩ := slice_of hown
    have HO : Hid (wr.ownsRow w.heap.size 3 1 (.slice av (whoTo md lo hi k).length cv) (whoTo md lo hi k).length (ints (whoTo md lo hi k))) := hown
    clear hbw hown
    have hwl := whoTo_len md lo hi k
    by_cases hlt : k < n
    · have hlt' : (k : Int) < n := by omega
      have HS : Hid (whoTo md lo hi (k + 1) = if lo ≤ md k ∧ md k ≤ hi then whoTo md lo hi k ++ [k] else whoTo md lo hi k) := rfl
      generalize whoTo md lo hi k = L at hwl HO HS
      have hb : b < w.heap.size := HC.out.lt hlt
      have hbr : b < wr.heap.size := by have := HW.out.size; omega
      obtain ⟨c1, c2⟩ := HC.out.below hb HW.out k hlt
      have nb : ¬ b = wr.heap.size := by omega
      have B1 : Hid (Below w.heap.size w (wr.alloc (.cells #[.int .i64 (md k), .int .i64 (fa k)] 104))) := HW.out.alloc HW.out.size _
      by_cases h1 : lo ≤ md k
      · by_cases h2 : md k ≤ hi
        · have B2 : Hid (Below w.heap.size w ((wr.alloc (.cells #[.int .i64 (md k), .int .i64 (fa k)] 104)).alloc (.cells #[.int .i64 (k : Int)] 3))) := B1.out.alloc B1.out.size _
          have HN : Hid (∀ j u, [Value.int .i64 (k : Int)][j]? = some u → ((wr.alloc (.cells #[.int .i64 (md k), .int .i64 (fa k)] 104)).alloc (.cells #[.int .i64 (k : Int)] 3)).cell? ((⟨wr.heap.size + 1, 0, none⟩ : Addr).add j) = some u) := by
            have := cell_one_new (wr.alloc (.cells #[.int .i64 (md k), .int .i64 (fa k)] 104)) (.int .i64 (k : Int)) 3
            rw [show (wr.alloc (.cells #[.int .i64 (md k), .int .i64 (fa k)] 104)).heap.size = wr.heap.size + 1 by simp] at this
            exact this
          go_wp2_with (
            (refine wpList_append_own_at _ rfl (.tmp 27) (.tmp 29) 65 rfl w.heap.size 3 i0 (.int .i64 0) 1 8 Try.underlying65 HI.out hz0 hz1 hz2 rfl (by decide) (.slice av L.length cv) L.length (ints L) rfl ((HO.out.alloc _).alloc _) ⟨wr.heap.size + 1, 0, none⟩ 1 1 [.int .i64 (k : Int)] rfl rfl HN.out (by simp [Value.oneCell']) (by unfold maxLen; omega) (by omega) (by have := B2.out.size; exact this) ?_
             intro v4 w4 ho4 hg4 _ _
             have B3 : Hid (Below w.heap.size w w4) := below_grown B2.out B2.out.size hg4 (fun q hq => (HO.out.lt q hq).1)
             have HO4 : Hid (w4.ownsRow w.heap.size 3 1 v4 (L.length + 1) (ints L ++ [.int .i64 (k : Int)])) := ho4
             clear ho4 hg4))
          go_roundw
          case rel => exact ⟨k + 1, by omega, by go_num, by rw [HS.out, if_pos ⟨h1, h2⟩, List.length_append, ← ints_snoc]; exact HO4.out, B3.out⟩
          case measure => simp [intOf]; omega
        · go_wp2
          go_roundw
          case rel => exact ⟨k + 1, by omega, by go_num, by rw [HS.out, if_neg (by omega)]; exact HO.out.alloc _, B1.out⟩
          case measure => simp [intOf]; omega
      · go_wp2
        go_roundw
        case rel => exact ⟨k + 1, by omega, by go_num, by rw [HS.out, if_neg (by omega)]; exact HO.out.alloc _, B1.out⟩
        case measure => simp [intOf]; omega
    · obtain rfl : k = n := by omega
      go_wp2
      go_ret
      exact ⟨_, rfl, HO.out, HW.out⟩
end Go.Proofs.Ytjdcnlggpfkopaa
