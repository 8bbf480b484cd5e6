/- Clocks that are lent, and looked at again. -/
import Derived.Test.YtjdcnlggpfkopaaSelD
import Derived.Laws.CopyOwn
import Derived.Laws.MakeOwn
import Derived.Laws.Rows
namespace Go.Proofs.Ytjdcnlggpfkopaa
open Go.ChangeShapes Go.WideShapes Go.ChangeAt Go.RowKit
set_option linter.unusedVariables false

/-- Clocks that a walk is handed. -/
structure TicksIn (w : World) (a : Option Addr) (n cap : Nat) (md fa : Nat → Int) : Prop where
  hle : n ≤ 8796093021952
  hcap : n ≤ cap
  hat : 0 < n → ∃ b off, a = some ⟨b, off, none⟩ ∧ TicksAt w b off n md fa
theorem TicksIn.below {w w' : World} {a : Option Addr} {n cap : Nat} {md fa : Nat → Int} (h : TicksIn w a n cap md fa) (hb : Below w.heap.size w w') : TicksIn w' a n cap md fa := by
  refine ⟨h.hle, h.hcap, fun hn => ?_⟩
  obtain ⟨b, off, h1, h2⟩ := h.hat hn
  exact ⟨b, off, h1, h2.below (h2.lt hn) hb⟩
theorem TicksIn.clocks {w : World} {a : Option Addr} {n cap : Nat} {md fa : Nat → Int} (h : TicksIn w a n cap md fa) : Clocks w a n md fa := by
  refine ⟨by have := h.hle; unfold maxLen; omega, ?_⟩
  rcases Nat.eq_zero_or_pos n with h0 | h0
  · exact Or.inl h0
  · exact Or.inr (h.hat h0)
/-- The cells of n clocks. -/
def pairs (md fa : Nat → Int) (n : Nat) : List Value := (List.range (n * 2)).map fun i => Value.int .i64 (if i % 2 = 0 then md (i / 2) else fa (i / 2))
theorem pairs_len (md fa : Nat → Int) (n : Nat) : (pairs md fa n).length = n * 2 := by simp [pairs]
theorem pairs_at (md fa : Nat → Int) (n i : Nat) (h : i < n * 2) : (pairs md fa n)[i]? = some (.int .i64 (if i % 2 = 0 then md (i / 2) else fa (i / 2))) := by
  simp [pairs, h]
theorem pairs_one (md fa : Nat → Int) (n : Nat) : ∀ v ∈ pairs md fa n, v.oneCell' = true := by
  intro v hv
  simp only [pairs, List.mem_map] at hv
  obtain ⟨x, _, rfl⟩ := hv
  rfl
theorem copy2_run {P : Program} (w : World) (dT sT ty elem : TypeId) (hu : P.underlying dT = some (.slice elem)) (hs : (P.info? elem).map (·.size) = some 2) (g dLen dCap sLen sCap : Nat) (sp : Option Addr) (cur : Array Value) (t : TypeId) (cs : List Value)
    (hg : w.heap[g]? = some (.cells cur t (0, 0))) (hle : sLen ≤ dLen) (hn : cs.length = sLen * 2) (hsrc : 0 < sLen → ∃ ad, sp = some ad ∧ ∀ j v, cs[j]? = some v → w.cell? (ad.add j) = some v) (hfit : cs.length ≤ cur.size) (h1 : ∀ v ∈ cs, v.oneCell' = true) :
    (Builtin.copy_ #[dT, sT] ty #[.slice (some ⟨g, 0, none⟩) dLen dCap, .slice sp sLen sCap]).run P w = .ok (goInt sLen) (w.setRow g (cs ++ cur.toList.drop cs.length).toArray) := by
  have hmin : Nat.min sLen dLen = sLen := Nat.min_eq_left hle
  have hst := run_storeCells_at P g 0 t cs 0 cur w hg (by simpa using hfit) h1
  cases hq : P.info? elem with
  | none => simp [hq] at hs
  | some i =>
    have hi : i.size = 2 := by simpa [hq] using hs
    rcases Nat.eq_zero_or_pos sLen with h0 | h0
    · have hc : cs = [] := List.eq_nil_of_length_eq_zero (by omega)
      subst h0 hc
      have hl : ∀ (x : Addr), (loadCells x 0).run P w = .ok #[] w := fun x => by simpa using run_loadCells_list (P := P) w x [] (by simp)
      cases sp <;> simp [Builtin.copy_, run_underlying hu, Builtin.lenOf, Builtin.firstCells, sizeOf, typeInfo, hq, storeCells, hl, setRow_self w g cur t (0, 0) hg]
    · obtain ⟨ad, rfl, hsr⟩ := hsrc h0
      have hl := run_loadCells_list (P := P) w ad cs hsr
      rw [hn] at hl
      simp [Builtin.copy_, run_underlying hu, Builtin.lenOf, Builtin.firstCells, sizeOf, typeInfo, hq, hi, hmin, hl, hst]
theorem wpList_copy2 (w : World) {P : Program} {ops : Array Oper} {rest : List Oper} {o : Oper} {a : Act} {Q : Exit → Act → World → Prop} (hgd : o.guard = none) (d s : Operand) (t t' : TypeId)
    (ho : o.op = .call { callee := .builtin .copy, args := #[d, s], argTypes := #[t, t'] }) (v u : Value) (hd : a.eval d = v) (hs : a.eval s = u) {v' : Value} {w' : World}
    (hr : (Builtin.copy_ #[t, t'] o.type #[v, u]).run P w = .ok v' w') (h : wpList P ops Q rest (a.put o.dst v') w') : wpList P ops Q (o :: rest) a w :=
  wpList_plain hgd fun K hK => by
    unfold Oper.wp execOp
    simp only [ho, resolve, invoke, builtin, Sem.run_bind, Sem.run_pure, Result.andThen_ok, List.map_toArray, List.map_cons, List.map_nil, hd, hs, hr]
    exact hK _ _ h
/-- The row of clocks that are lent: k of the four places behind them are marked. -/
def Lent2 (w : World) (g n k : Nat) (md fa : Nat → Int) : Prop :=
  ∃ cur, w.heap[g]? = some (.cells cur 104 (0, 0)) ∧ cur.size = (n + 4) * 2 ∧ (∀ j, j < n → cur[j * 2]? = some (.int .i64 (md j)) ∧ cur[j * 2 + 1]? = some (.int .i64 (fa j))) ∧ ∀ i, i < k → cur[(n + i) * 2]? = some (.int .i64 77) ∧ cur[(n + i) * 2 + 1]? = some (.int .i64 77)
theorem Lent2.ticks {w : World} {g n k : Nat} {md fa : Nat → Int} (h : Lent2 w g n k md fa) : TicksAt w g 0 n md fa := by
  obtain ⟨cur, h1, h2, h3, h4⟩ := h
  intro j hj
  rw [cell_of_row w g _ _ _ _ h1, cell_of_row w g _ _ _ _ h1, Nat.zero_add]
  exact h3 j hj
theorem Lent2.block {w w' : World} {g n k : Nat} {md fa : Nat → Int} (h : Lent2 w g n k md fa) (hb : w'.heap[g]? = w.heap[g]?) : Lent2 w' g n k md fa := by
  obtain ⟨cur, h1, h2⟩ := h
  exact ⟨cur, by rw [hb]; exact h1, h2⟩
theorem Lent2.set {w : World} {g n k : Nat} {md fa : Nat → Int} (h : Lent2 w g n k md fa) (hk : k < 4) : Lent2 ((w.setCell ⟨g, (n + k) * 2, none⟩ (.int .i64 77)).setCell ⟨g, (n + k) * 2 + 1, none⟩ (.int .i64 77)) g n (k + 1) md fa := by
  obtain ⟨cur, h1, h2, h3, h4⟩ := h
  have s1 := heap_setCell_same w g ((n + k) * 2) _ _ (.int .i64 77) h1
  have s2 := heap_setCell_same _ g ((n + k) * 2 + 1) _ _ (.int .i64 77) s1
  refine ⟨_, s2, by simpa using h2, fun j hj => ?_, fun i hi => ?_⟩
  · simp only [Array.getElem?_setIfInBounds]
    rw [if_neg (by omega), if_neg (by omega), if_neg (by omega), if_neg (by omega)]
    exact h3 j hj
  · simp only [Array.getElem?_setIfInBounds, Array.size_setIfInBounds]
    by_cases hik : i = k
    · subst hik
      rw [if_neg (by omega), if_pos rfl, if_pos (by omega), if_pos rfl, if_pos (by omega)]
      exact ⟨rfl, rfl⟩
    · rw [if_neg (by omega), if_neg (by omega), if_neg (by omega), if_neg (by omega)]
      exact h4 i (by omega)
theorem tickinfo : (Try.prog.info? 104).map (fun i => (i.zero, i.size, i.bytes)) = some (some (.agg #[.int .i64 0, .int .i64 0]), 2, 16) := by kernel_rfl
theorem ticksize : (Try.prog.info? 104).map (·.size) = some 2 := by kernel_rfl
theorem made_size (v : Value) (n : Nat) : (madeCells v.cells n).size = n := by simp [madeCells]
theorem lent_start (w : World) (g n : Nat) (md fa : Nat → Int) (cur : Array Value) (h : w.heap[g]? = some (.cells cur 104 (0, 0))) (hc : cur.size = (n + 4) * 2) : Lent2 (w.setRow g (pairs md fa n ++ cur.toList.drop (pairs md fa n).length).toArray) g n 0 md fa := by
  refine ⟨_, setRow_heap w g cur _ _ _ h, ?_, fun j hj => ?_, fun i hi => by omega⟩
  · simp [pairs_len]; omega
  · simp only [List.getElem?_toArray]
    rw [List.getElem?_append_left (by rw [pairs_len]; omega), List.getElem?_append_left (by rw [pairs_len]; omega), pairs_at _ _ _ _ (by omega), pairs_at _ _ _ _ (by omega), if_pos (by omega), if_neg (by omega), show j * 2 / 2 = j by omega, show (j * 2 + 1) / 2 = j by omega]
    exact ⟨rfl, rfl⟩
set_option maxRecDepth 100000 in
set_option maxHeartbeats 1000000 in
theorem ticks_any (a : Option Addr) (n cap : Nat) (md fa : Nat → Int) (w : World) (hT : TicksIn w a n cap md fa) :
    Calls Try.prog 25 #[.slice a n cap] w fun e w' => e = .returned (.slice (some ⟨w.heap.size, 0, none⟩) n (n + 4)) ∧ Lent2 w' w.heap.size n 4 md fa ∧ Below w.heap.size w w' := by
  obtain ⟨i0, hi, hz0, hz1, hz2⟩ := info_of tickinfo
  have hle := hT.hle
  obtain ⟨cur0, hcur0⟩ : ∃ c, c = madeCells (Value.agg #[.int .i64 0, .int .i64 0]).cells ((n + 4) * 2) := ⟨_, rfl⟩
  have hmk : ∀ w : World, (Instr.makeSlice 63 (.int .i64 ((n : Int) + 4)) (.int .i64 ((n : Int) + 4))).run Try.prog w = .ok (.slice (some ⟨w.heap.size, 0, none⟩) (n + 4) (n + 4)) (w.alloc (.cells cur0 104)) := fun w => by
    have := run_make w 63 104 i0 (.agg #[.int .i64 0, .int .i64 0]) Try.underlying63 hi hz0 .i64 .i64 ((n : Int) + 4) ((n : Int) + 4) (by omega) (by omega) (by rw [hz2]; omega) (by omega)
    rw [hz1, show ((n : Int) + 4).toNat = n + 4 by omega, ← hcur0] at this
    exact this
  have HSZ : Hid (cur0.size = (n + 4) * 2) := by show _ = _; rw [hcur0, made_size]
  clear hcur0
  have HB : Hid (TicksIn w a n cap md fa) := hT
  clear hT
  have HG0 : Hid ((w.alloc (.cells cur0 104)).heap[w.heap.size]? = some (.cells cur0 104 (0, 0))) := heap_alloc_new w _
  have HSRC : Hid (0 < n → ∃ ad, a = some ad ∧ ∀ j v, (pairs md fa n)[j]? = some v → (w.alloc (.cells cur0 104)).cell? (ad.add j) = some v) := by
    intro hp
    obtain ⟨b, off, rfl, hc⟩ := HB.out.hat hp
    refine ⟨_, rfl, fun j v hv => ?_⟩
    have hj : j < n * 2 := by
      rcases Nat.lt_or_ge j (n * 2) with h' | h'
      · exact h'
      · rw [List.getElem?_eq_none (by rw [pairs_len]; exact h')] at hv; cases hv
    rw [pairs_at _ _ _ _ hj] at hv
    cases hv
    have hadd : (⟨b, off, none⟩ : Addr).add j = ⟨b, off + j, none⟩ := by unfold Addr.add; split <;> simp_all
    rw [hadd, World.cell?_alloc_past _ _ _ (hc.lt hp)]
    have := hc (j / 2) (by omega)
    by_cases h2 : j % 2 = 0
    · rw [if_pos h2, show off + j = off + j / 2 * 2 by omega]; exact this.1
    · rw [if_neg h2, show off + j = off + j / 2 * 2 + 1 by omega]; exact this.2
  have HRUN : Hid (∀ ty, (Builtin.copy_ #[63, 63] ty #[.slice (some ⟨w.heap.size, 0, none⟩) (n + 4) (n + 4), .slice a n cap]).run Try.prog (w.alloc (.cells cur0 104)) = .ok (goInt n) ((w.alloc (.cells cur0 104)).setRow w.heap.size (pairs md fa n ++ cur0.toList.drop (pairs md fa n).length).toArray)) := fun ty =>
    copy2_run _ _ _ ty _ Try.underlying63 ticksize _ _ _ _ _ _ _ _ _ HG0.out (by omega) (pairs_len _ _ _) HSRC.out (by rw [pairs_len, HSZ.out]; omega) (pairs_one _ _ _)
  have HS1 : Hid (Lent2 ((w.alloc (.cells cur0 104)).setRow w.heap.size (pairs md fa n ++ cur0.toList.drop (pairs md fa n).length).toArray) w.heap.size n 0 md fa) := lent_start _ _ _ _ _ _ HG0.out HSZ.out
  have HB1 : Hid (Below w.heap.size w ((w.alloc (.cells cur0 104)).setRow w.heap.size (pairs md fa n ++ cur0.toList.drop (pairs md fa n).length).toArray)) := below_setRow ((Below.refl _ _).alloc (Nat.le_refl _) _) (Nat.le_refl _) _
  clear HSRC HG0
  generalize (w.alloc (.cells cur0 104)).setRow w.heap.size (pairs md fa n ++ cur0.toList.drop (pairs md fa n).length).toArray = w2 at HRUN HS1 HB1
  go_enter Try.func25, Try.ntmps25
  go_wp2_with (refine wpList_copy2 _ rfl (.tmp 9) (.tmp 10) 63 63 rfl _ _ rfl rfl (HRUN.out _) ?_)
  clear hmk HRUN
  go_loopw [4] (fun i wr => ∃ k : Nat, k ≤ 4 ∧ i = .int .i64 k ∧ Lent2 wr w.heap.size n k md fa ∧ Below w.heap.size w wr) (fun i _ => 4 - (intOf i).toNat)
  case atStart => exact ⟨0, by omega, rfl, HS1.out, HB1.out⟩
  case round =>
    obtain ⟨k, hk, rfl, hL, hb⟩ := hrel
    have HL : Hid (Lent2 wr w.heap.size n k md fa) := hL
    have HBW : Hid (Below w.heap.size w wr) := hb
    clear HS1 HB1 hL hb
    by_cases hlt : (k : Int) < 4
    · obtain ⟨cur, h1, h2, h3, h4⟩ := HL.out
      have f1 := frozen_of_row wr w.heap.size ((n + k) * 2) _ _ h1
      have f2 := frozen_of_row wr w.heap.size ((n + k) * 2 + 1) _ _ h1
      obtain ⟨o1, ho1⟩ : ∃ v, wr.cell? ⟨w.heap.size, (n + k) * 2, none⟩ = some v := ⟨_, by rw [cell_of_row wr w.heap.size _ _ _ _ h1]; exact Array.getElem?_eq_getElem (by omega)⟩
      obtain ⟨o2, ho2⟩ : ∃ v, wr.cell? ⟨w.heap.size, (n + k) * 2 + 1, none⟩ = some v := ⟨_, by rw [cell_of_row wr w.heap.size _ _ _ _ h1]; exact Array.getElem?_eq_getElem (by omega)⟩
      clear h1 h2 h3 h4
      go_wp2
      go_roundw
      case rel => exact ⟨k + 1, by omega, by go_num, HL.out.set (by omega), (HBW.out.setCell (Nat.le_refl _) _).setCell (Nat.le_refl _) _⟩
      case measure => simp [intOf]; omega
    · have hk4 : k = 4 := by omega
      subst hk4
      go_wp2
      go_ret
      exact ⟨rfl, HL.out, HBW.out⟩
set_option maxRecDepth 100000 in
set_option maxHeartbeats 1000000 in
theorem sameTicks_true (g : Nat) (a : Option Addr) (n cap : Nat) (md fa : Nat → Int) (w : World) (hL : Lent2 w g n 4 md fa) (hT : TicksIn w a n cap md fa) :
    Calls Try.prog 29 #[.slice (some ⟨g, 0, none⟩) n (n + 4), .slice a n cap] w fun e w' => e = .returned (.bool true) ∧ ∃ m, w' = w.drewN m := by
  have hle := hT.hle
  have H1 : Hid (TicksAt w g 0 n md fa) := hL.ticks
  have H2 : Hid (∀ k, n ≤ k → k < n + 4 → w.cell? ⟨g, k * 2, none⟩ = some (.int .i64 77) ∧ w.cell? ⟨g, k * 2 + 1, none⟩ = some (.int .i64 77)) := by
    obtain ⟨cur, h1, h2, h3, h4⟩ := hL
    intro k hk hk4
    rw [cell_of_row w g _ _ _ _ h1, cell_of_row w g _ _ _ _ h1]
    have := h4 (k - n) (by omega)
    rwa [show n + (k - n) = k by omega] at this
  have HB : Hid (TicksIn w a n cap md fa) := hT
  clear hT hL
  go_enter Try.func29, Try.ntmps29
  go_wp2
  go_loopw [6] (fun i wr => ∃ k : Nat, k ≤ n + 4 ∧ i = .int .i64 k ∧ ∃ m, wr = w.drewN m) (fun i _ => n + 4 - (intOf i).toNat)
  case atStart => exact ⟨0, Nat.zero_le _, rfl, 0, rfl⟩
  case round =>
    obtain ⟨k, hk, rfl, m, rfl⟩ := hrel
    by_cases hlt : k < n
    · obtain ⟨b2, o2, ha2, hc2⟩ := HB.out.hat (by omega)
      have q := H1.out k hlt
      rw [Nat.zero_add] at q
      obtain ⟨q1, q2⟩ := q
      obtain ⟨q3, q4⟩ := hc2 k hlt
      generalize md k = x at q1 q3
      generalize fa k = y at q2 q4
      clear hc2 HB H1 H2
      subst ha2
      have hlt' : (k : Int) < (n : Int) := by omega
      have hlt2 : (k : Int) < (n : Int) + 4 := by omega
      have hge : decide (n ≤ k) = false := by simp; omega
      go_wp2
      go_quiet (fail)
      go_wp2
      go_roundw
      case rel => exact ⟨k + 1, by omega, by go_num, _, rfl⟩
      case measure => simp [intOf]; omega
    · by_cases hlt2 : k < n + 4
      · obtain ⟨q1, q2⟩ := H2.out k (by omega) hlt2
        clear HB H1 H2
        have hlt' : decide (k < n) = false := by simp; omega
        have hlt3 : (k : Int) < (n : Int) + 4 := by omega
        have hge : (n : Int) ≤ (k : Int) := by omega
        go_wp2
        go_quiet (fail)
        go_wp2
        go_roundw
        case rel => exact ⟨k + 1, by omega, by go_num, _, rfl⟩
        case measure => simp [intOf]; omega
      · go_wp2
        go_ret
        exact ⟨rfl, m, rfl⟩
end Go.Proofs.Ytjdcnlggpfkopaa
