/- The book of lists of ints that came out: does every list read as the caller wrote it? And a list that came out is written over, and more is put behind it. -/
import Derived.Test.YtjdcnlggpfkopaaSelD
import Derived.ArgAppend
import Derived.Laws.IdiomCopy
namespace Go.Proofs.Ytjdcnlggpfkopaa
open Go.ChangeShapes Go.WideShapes Go.ChangeAt Go.RowKit
set_option linter.unusedVariables false

/-- A list of ints, each of whose places bears this mark. -/
def MarkI (w : World) (B : Nat) (x : Int) (v : Value) : Prop :=
  ∃ a n c, v = .slice a n c ∧ n ≤ 1000 ∧ ∀ j, j < n → ∃ b cur, a = some ⟨b, 0, none⟩ ∧ b < B ∧ w.heap[b]? = some (.cells cur 3 (0, 0)) ∧ cur[j]? = some (.int .i64 x)
/-- The book holds 4 m lists of ints, each marked, and none of bytes or times. -/
structure BookI (w : World) (bo B m : Nat) : Prop where
  hm : m ≤ 1000
  lt : bo < B
  le : B ≤ w.heap.size
  row : ∃ bv vs, w.heap[bo]? = some (.cells #[.slice none 0 0, bv, .slice none 0 0] 32 (0, 0)) ∧ w.ownsRow (bo + 1) 65 1 bv (4 * m) vs ∧ (∀ k, bv.ownBlock = some k → k < B) ∧ ∀ (i : Nat) (v : Value), vs[i]? = some v → MarkI w B (-1000 - (i : Int) / 4) v

set_option maxRecDepth 100000 in
set_option maxHeartbeats 800000 in
theorem keptI_true (bo B m : Nat) (w : World) (hK : BookI w bo B m) :
    Calls Try.prog 18 #[.pointer (some ⟨bo, 0, none⟩)] w fun e w' => e = .returned (.bool true) ∧ w' = w := by
  have hm := hK.hm
  obtain ⟨bv, vs, hbo, hown, _, hmk⟩ := hK.row
  have c0 : w.cell? ⟨bo, 0, none⟩ = some (.slice none 0 0) := by rw [cell_of_row w bo 0 _ _ _ hbo]; rfl
  have c1 : w.cell? ⟨bo, 1, none⟩ = some bv := by rw [cell_of_row w bo 1 _ _ _ hbo]; rfl
  have c2 : w.cell? ⟨bo, 2, none⟩ = some (.slice none 0 0) := by rw [cell_of_row w bo 2 _ _ _ hbo]; rfl
  clear hbo
  obtain ⟨bg, bcap, rfl⟩ := slice_of hown
  have hat : Hid (∀ i, i < 4 * m → ∃ g, bg = some ⟨g, 0, none⟩ ∧ ∃ v, w.cell? ⟨g, i, none⟩ = some v ∧ MarkI w B (-1000 - (i : Int) / 4) v) := fun i hi => by
    rcases hown.2 with ⟨h1, h2⟩ | ⟨g, cap, cur, h1, _, hg, hc, _, hcs, htk⟩
    · omega
    · have hb : bg = some ⟨g, 0, none⟩ := by injection h1
      refine ⟨g, hb, ?_⟩
      have hl := hown.1
      obtain ⟨v, hv⟩ : ∃ v, vs[i]? = some v := ⟨_, List.getElem?_eq_getElem (by omega)⟩
      refine ⟨v, ?_, hmk i v hv⟩
      have := hown.cells (g := g) (by rw [hb]; rfl) i v hv
      have hadd : (⟨g, 0, none⟩ : Addr).add i = ⟨g, i, none⟩ := by unfold Addr.add; split <;> simp_all
      rw [hadd] at this
      exact this
  clear hown hmk hK
  go_enter Try.func18, Try.ntmps18
  go_wp2
  refine wp_loop_rounds 1 ?_
  rw [rounds_succ]
  go_wp2
  go_loop [5, 6] (fun i _ => ∃ k : Nat, k ≤ 4 * m ∧ i = .int .i64 k) (fun i _ => 4 * m - (intOf i).toNat)
  case atStart => exact ⟨0, Nat.zero_le _, rfl⟩
  case round =>
    obtain ⟨i, hi, rfl⟩ := hrel
    by_cases hlt : i < 4 * m
    · obtain ⟨g, hg, v, hv, a, n, c, rfl, hn, hcell⟩ := hat.out i hlt
      subst hg
      have HC : Hid (∀ j, j < n → ∃ b, a = some ⟨b, 0, none⟩ ∧ w.cell? ⟨b, j, none⟩ = some (.int .i64 (-1000 - (i : Int) / 4))) := fun j hj => by
        obtain ⟨b, cur, h1, _, h2, h3⟩ := hcell j hj
        exact ⟨b, h1, by rw [cell_of_row w b j _ _ _ h2]; exact h3⟩
      clear hcell hat
      have hlt' : (i : Int) < 4 * (m : Int) := by omega
      go_wp2
      go_loop [6] (fun k => ∃ j : Nat, j ≤ n ∧ k = .int .i64 j) (fun k => n - (intOf k).toNat)
      case atStart => exact ⟨0, Nat.zero_le _, rfl⟩
      case round =>
        obtain ⟨j, hj, rfl⟩ := hrel
        by_cases hjn : j < n
        · obtain ⟨b, ha, hc⟩ := HC.out j hjn
          subst ha
          clear HC
          have hjn' : (j : Int) < (n : Int) := by omega
          go_wp2
          go_round
          case rel => exact ⟨j + 1, by omega, by go_num⟩
          case measure => simp [intOf]; omega
        · clear HC
          go_wp2
          go_round
          case rel => exact ⟨i + 1, by omega, by go_num⟩
          case measure => simp [intOf]; omega
    · clear hat
      go_wp2
      refine wp_loop_rounds 1 ?_
      rw [rounds_succ]
      go_wp2
      go_ret
      exact ⟨rfl, rfl⟩

/-- A list's row: the first p places bear the mark. -/
def RowM (w : World) (ao : Option Addr) (cap p : Nat) (x : Int) : Prop :=
  (ao = none ∧ p = 0 ∧ cap = 0) ∨ ∃ g cur, ao = some ⟨g, 0, none⟩ ∧ w.heap[g]? = some (.cells cur 3 (0, 0)) ∧ cur.size = cap ∧ p ≤ cap ∧ ∀ j, j < p → cur[j]? = some (.int .i64 x)
/-- What stays: all blocks but the list's own, and its marks. -/
structure Turn (w w' : World) (ao : Option Addr) (x : Int) : Prop where
  os : w'.os = w.os
  tape : w'.tape = w.tape
  output : w'.output = w.output
  size : w.heap.size ≤ w'.heap.size
  block : ∀ k, k < w.heap.size → (∀ g, ao = some ⟨g, 0, none⟩ → k ≠ g) → w'.heap[k]? = w.heap[k]?
  row : ∀ (g : Nat) (cur : Array Value), ao = some ⟨g, 0, none⟩ → w.heap[g]? = some (.cells cur 3 (0, 0)) → ∃ cur', w'.heap[g]? = some (.cells cur' 3 (0, 0)) ∧ cur'.size = cur.size ∧ ∀ j : Nat, cur[j]? = some (.int .i64 x) → cur'[j]? = some (.int .i64 x)
theorem Turn.trans {a b c : World} {ao : Option Addr} {x : Int} (h : Turn a b ao x) (k : Turn b c ao x) : Turn a c ao x :=
  ⟨k.os.trans h.os, k.tape.trans h.tape, k.output.trans h.output, Nat.le_trans h.size k.size, fun i hi hg => (k.block i (Nat.lt_of_lt_of_le hi h.size) hg).trans (h.block i hi hg), fun g cur ha hc => by
    obtain ⟨c1, h1, h2, h3⟩ := h.row g cur ha hc
    obtain ⟨c2, k1, k2, k3⟩ := k.row g c1 ha h1
    exact ⟨c2, k1, k2.trans h2, fun j hj => k3 j (h3 j hj)⟩⟩
theorem turn_grown {w w' : World} {ao : Option Addr} {x : Int} (h : w.grownBy w' none) : Turn w w' ao x :=
  ⟨h.os, h.tape, h.output, h.size, fun k hk _ => h.block k hk (by simp), fun g cur _ hc => ⟨cur, by rw [h.block g (Array.getElem?_eq_some_iff.1 hc).1 (by simp)]; exact hc, rfl, fun j hj => hj⟩⟩
theorem turn_alloc (w : World) (o : Obj) {ao : Option Addr} {x : Int} : Turn w (w.alloc o) ao x :=
  turn_grown ⟨rfl, rfl, rfl, by simp, fun i hi _ => by show (w.heap.push o)[i]? = w.heap[i]?; rw [Array.getElem?_push, if_neg (Nat.ne_of_lt hi)]⟩
theorem RowM.turn {w w' : World} {ao : Option Addr} {cap p : Nat} {x : Int} (h : RowM w ao cap p x) (t : Turn w w' ao x) : RowM w' ao cap p x := by
  rcases h with h | ⟨g, cur, h1, h2, h3, h4, h5⟩
  · exact Or.inl h
  · obtain ⟨cur', k1, k2, k3⟩ := t.row g cur h1 h2
    exact Or.inr ⟨g, cur', h1, k1, by omega, h4, fun j hj => k3 j (h5 j hj)⟩
theorem MarkI.turn {w w' : World} {ao : Option Addr} {x : Int} {v : Value} (h : MarkI w w.heap.size x v) (t : Turn w w' ao x) : MarkI w' w'.heap.size x v := by
  obtain ⟨a, n, c, h1, h2, h3⟩ := h
  refine ⟨a, n, c, h1, h2, fun j hj => ?_⟩
  obtain ⟨b, cur, k1, k2, k3, k4⟩ := h3 j hj
  have hs := t.size
  by_cases hb : ∀ g, ao = some ⟨g, 0, none⟩ → b ≠ g
  · exact ⟨b, cur, k1, by omega, by rw [t.block b k2 hb]; exact k3, k4⟩
  · obtain ⟨g, hg⟩ : ∃ g, ao = some ⟨g, 0, none⟩ ∧ b = g := by
      rcases ao with _ | ⟨g, off, sp⟩
      · exact absurd (fun g h => by cases h) hb
      · by_cases hx : (⟨g, off, sp⟩ : Addr) = ⟨b, 0, none⟩
        · exact ⟨b, by rw [hx], rfl⟩
        · exact absurd (fun g' h e => hx (by cases h; rw [e])) hb
    obtain ⟨hg1, rfl⟩ := hg
    obtain ⟨cur', l1, l2, l3⟩ := t.row b cur hg1 k3
    exact ⟨b, cur', k1, by omega, l1, l3 j k4⟩
theorem RowM.mark {w : World} {ao : Option Addr} {cap n c : Nat} {x : Int} (h : RowM w ao cap n x) (hn : n ≤ 1000) : MarkI w w.heap.size x (.slice ao n c) := by
  refine ⟨ao, n, c, rfl, hn, fun j hj => ?_⟩
  rcases h with ⟨_, h, _⟩ | ⟨g, cur, h1, h2, h3, h4, h5⟩
  · omega
  · exact ⟨g, cur, h1, (Array.getElem?_eq_some_iff.1 h2).1, h2, h5 j hj⟩
theorem setCells_row (b : Nat) (x : Value) (t : TypeId) : ∀ (m off : Nat) (w : World) (cur : Array Value), w.heap[b]? = some (.cells cur t (0, 0)) → off + m ≤ cur.size →
    ∃ cur', (w.setCells b off (List.replicate m x)).heap[b]? = some (.cells cur' t (0, 0)) ∧ cur'.size = cur.size ∧ (∀ j : Nat, cur[j]? = some x → cur'[j]? = some x) ∧ ∀ j : Nat, j < m → cur'[off + j]? = some x
  | 0, off, w, cur, h, _ => ⟨cur, h, rfl, fun _ h => h, fun j hj => by omega⟩
  | m + 1, off, w, cur, h, hl => by
    have s1 := heap_setCell_same w b off _ _ x h
    obtain ⟨cur', h1, h2, h3, h4⟩ := setCells_row b x t m (off + 1) (w.setCell ⟨b, off, none⟩ x) _ s1 (by simp; omega)
    refine ⟨cur', h1, by simpa using h2, fun j hj => h3 j ?_, fun j hj => ?_⟩
    · rw [Array.getElem?_setIfInBounds]
      split
      · rw [if_pos (by omega)]
      · exact hj
    · rcases Nat.eq_zero_or_pos j with h0 | h0
      · subst h0
        refine h3 _ ?_
        rw [Array.getElem?_setIfInBounds, if_pos (by omega), if_pos (by omega)]
      · have := h4 (j - 1) (by omega)
        rwa [show off + 1 + (j - 1) = off + j by omega] at this
theorem setCells_other (b : Nat) : ∀ (vs : List Value) (off : Nat) (w : World), (w.setCells b off vs).os = w.os ∧ (w.setCells b off vs).tape = w.tape ∧ (w.setCells b off vs).output = w.output ∧ (w.setCells b off vs).heap.size = w.heap.size ∧ ∀ k, k ≠ b → (w.setCells b off vs).heap[k]? = w.heap[k]?
  | [], off, w => ⟨rfl, rfl, rfl, rfl, fun _ _ => rfl⟩
  | v :: r, off, w => by
    obtain ⟨h1, h2, h3, h4, h5⟩ := setCells_other b r (off + 1) (w.setCell ⟨b, off, none⟩ v)
    exact ⟨h1, h2, h3, by rw [World.setCells, h4, World.size_setCell], fun k hk => by rw [World.setCells, h5 k hk, heap_setCell_other _ _ _ _ hk]⟩
def reps (m : Nat) (x : Int) : List Value := List.replicate m (.int .i64 x)
theorem reps_one (m : Nat) (x : Int) : ∀ u ∈ reps m x, u.oneCell' = true := fun u hu => by rw [List.eq_of_mem_replicate hu]; rfl
theorem wpList_append_mark (w : World) {ops : Array Oper} {rest : List Oper} {o : Oper} {a : Act} {Q : Exit → Act → World → Prop} (hgd : o.guard = none) (s u : Operand)
    (ho : o.op = .call { callee := .builtin .append, args := #[s, u], argTypes := #[65, 65] }) (ao : Option Addr) (n cap : Nat) (x : Int) (hs : a.eval s = .slice ao n cap) (hR : RowM w ao cap n x) (hc : cap ≤ maxLen)
    (ad : Addr) (m : Nat) (hu : a.eval u = .slice (some ad) m m) (hnews : ∀ j y, (reps m x)[j]? = some y → w.cell? (ad.add j) = some y) (hm0 : 0 < m) (hm : m ≤ 3) (hn : n ≤ 900)
    (hK : ∀ a' c' w', Turn w w' ao x → MarkI w' w'.heap.size x (.slice a' (n + m) c') → wpList Try.prog ops Q rest (a.put o.dst (.slice a' (n + m) c')) w') : wpList Try.prog ops Q (o :: rest) a w := by
  obtain ⟨i0, hi0, hz0, hz1, hz2⟩ := info_of infi64
  have hown : ∀ v' w', w'.ownsRow w.heap.size 3 1 v' (n + m) (reps n x ++ reps m x) → w.grownBy w' none → wpList Try.prog ops Q rest (a.put o.dst v') w' := fun v' w' h1 h2 => by
    rcases h1.2 with ⟨e1, e2⟩ | ⟨g, c', cur, e1, e2, e3, e4, _, e5, e6⟩
    · omega
    · subst e1
      refine hK _ _ _ (turn_grown h2) ⟨_, _, _, rfl, by omega, fun j hj => ⟨g, cur, rfl, (Array.getElem?_eq_some_iff.1 e3).1, e3, ?_⟩⟩
      have : (cur.toList.take ((n + m) * 1))[j]? = some (.int .i64 x) := by
        rw [e6]; unfold reps; rw [List.replicate_append_replicate]; simp [hj]
      rw [List.getElem?_take, if_pos (by omega)] at this
      rw [← Array.getElem?_toList]; exact this
  have hr1 : ∀ k, (reps k x).length = k * 1 := fun k => by simp [reps]
  unfold maxLen at hc
  rcases hR with ⟨rfl, rfl, rfl⟩ | ⟨g, cur, rfl, h2, h3, h4, h5⟩
  · exact wpList_append_grows w hgd s u 65 ho 3 i0 (.int .i64 0) 1 8 Try.underlying65 hi0 hz0 hz1 hz2 rfl (by decide) none 0 0 (reps 0 x) hs (fun _ => ⟨rfl, rfl⟩) (hr1 0) (fun b hb => by cases hb) ad m m (reps m x) hu (hr1 m) hnews (reps_one m x) (by omega) (by unfold maxLen; omega) (by omega) hown
  · refine wpList_append_arg w hgd s u 65 ho 3 i0 (.int .i64 0) 1 8 Try.underlying65 hi0 hz0 hz1 hz2 rfl (by decide) g 0 n cap (reps n x) hs (hr1 n) ?_ ad m m (reps m x) hu (hr1 m) hnews (reps_one m x) ?_ (by unfold maxLen; omega) (by omega) ?_ (fun _ => hown)
    · intro j y hj
      have hjn : j < n := by
        rcases Nat.lt_or_ge j n with h | h
        · exact h
        · rw [List.getElem?_eq_none (by rw [hr1]; omega)] at hj; cases hj
      rw [cell_of_row w g _ _ _ _ h2, Nat.zero_add, h5 j hjn]
      simpa [reps, hjn] using hj
    · intro hle j hj
      rw [hr1] at hj
      exact ⟨by rw [cell_of_row w g _ _ _ _ h2, Array.getElem?_eq_getElem (by omega)]; rfl, frozen_of_row w g _ _ _ h2⟩
    · intro hle
      obtain ⟨cur', e1, e2, e3, e4⟩ := setCells_row g (.int .i64 x) 3 m (0 + n * 1) w cur h2 (by omega)
      obtain ⟨f1, f2, f3, f4, f5⟩ := setCells_other g (reps m x) (0 + n * 1) w
      refine hK _ _ _ ⟨f1, f2, f3, by rw [f4]; exact Nat.le_refl _, fun k hk hne => f5 k (hne g rfl), fun g' c0 hg' hc0 => ?_⟩ ⟨_, _, _, rfl, by omega, fun j hj => ⟨g, cur', rfl, (Array.getElem?_eq_some_iff.1 e1).1, e1, ?_⟩⟩
      · cases hg'
        rw [h2] at hc0
        cases hc0
        exact ⟨cur', e1, e2, e3⟩
      · rcases Nat.lt_or_ge j n with h | h
        · exact e3 j (h5 j h)
        · have := e4 (j - n) (by omega)
          rwa [show 0 + n * 1 + (j - n) = j by omega] at this
end Go.Proofs.Ytjdcnlggpfkopaa
