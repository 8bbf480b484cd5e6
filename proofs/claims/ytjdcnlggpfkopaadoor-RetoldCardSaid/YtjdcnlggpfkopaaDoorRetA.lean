/- The law Retold: the walk. -/
import Derived.Test.YtjdcnlggpfkopaaDoorRetD
import Derived.Test.YtjdcnlggpfkopaaDoorTxtA
import Derived.Test.YtjdcnlggpfkopaaDoorPick
import Derived.WalkSmall
import Derived.Deep.LoopGhost
namespace Go.Proofs.YtjdcnlggpfkopaaDoor
open Go.ChangeShapes Go.WideShapes Go.ChangeAt Go.RowKit
set_option linter.unusedVariables false

def i32s (l : List Int) : List Value := l.map (Value.int .i32)
theorem i32row : (Tryd.prog.info? 21).map (fun i => (i.zero, i.size, i.bytes)) = some (some (.int .i32 0), 1, 4) := by kernel_rfl
theorem own_runes {w : World} {base : Nat} {v : Value} {L : List Int} (h : w.ownsRow base 21 1 v L.length (i32s L)) (hL : 0 < L.length) :
    ∃ g cap, v = .slice (some ⟨g, 0, none⟩) L.length cap ∧ ((convert 40 9 (.slice (some ⟨g, 0, none⟩) L.length cap)).run Tryd.prog w = .ok (.string (runesBytes L)) w) := by
  have h' := h
  rcases h.2 with ⟨_, hn⟩ | ⟨g, cap, cur, rfl, _⟩
  · omega
  · refine ⟨g, cap, rfl, ?_⟩
    have hc := h'.cells (g := g) rfl
    have := run_convert_runes (P := Tryd.prog) w 40 9 21 ⟨g, 0, none⟩ L.length cap L (Nat.le_refl _) Tryd.underlying40 Tryd.underlying21 Tryd.underlying9 (fun j hj => hc j _ (by simp [i32s, List.getElem?_eq_getElem hj]))
    rw [List.take_length] at this
    exact this
theorem Tens.below {w w' : World} (h : Tens w) (hb : Below w.heap.size w w') : Tens w' := by
  unfold Tens Lib.TabIs at *
  have hg : Tryd.prog.globalNamed "internal/strconv.uint64pow10" = some 1 := by kernel_rfl
  have hl : 1 < w.heap.size := by
    unfold World.var? at h
    rw [hg, Option.bind_some] at h
    rcases Nat.lt_or_ge 1 w.heap.size with h' | h'
    · exact h'
    · rw [Array.getElem?_eq_none h'] at h; cases h
  exact var?_below hb hg hl h
theorem sign_at (A : List Int) (hA : ∀ x ∈ A, x = 46 ∨ 48 ≤ x ∧ x ≤ 57) (i : Nat) (h : i < (bytesOf A).size) : (((bytesOf A)[i]'h).toNat : Int) = A.getD i 0 := by
  have hl : i < A.length := by rw [bytesOf_size] at h; exact h
  rw [← get_in _ i h, get_bytesOf A i hl]
  have := hA _ (List.getElem_mem hl)
  rw [List.getD_eq_getElem?_getD, List.getElem?_eq_getElem hl]
  simp only [Option.getD_some]
  omega
/-- The first signs of a text, in another row. -/
def otherL (A : List Int) (f : Int) (i : Nat) : List Int := (A.take i).map (turn f)
theorem take_snoc (A : List Int) (f : Int) (i : Nat) (h : i < A.length) : otherL A f (i + 1) = otherL A f i ++ [turn f (A.getD i 0)] := by
  unfold otherL
  rw [List.take_succ_eq_append_getElem h, List.map_append, List.getD_eq_getElem?_getD, List.getElem?_eq_getElem h]; rfl
/-- The rows' first figures, by number. -/
theorem first_at (W : World) (k : Int) (h0 : 0 ≤ k) (h1 : k < 4) : (W.alloc (.cells #[.int .i64 48, .int .i64 1632, .int .i64 1776, .int .i64 65296] 3)).cell? ⟨W.heap.size, k.toNat, none⟩ = some (.int .i64 (firstOf k.toNat)) := by
  obtain ⟨n, rfl⟩ : ∃ n : Nat, k = n := ⟨k.toNat, by omega⟩
  have hn : n < 4 := by omega
  rw [cell_of_row _ _ _ _ _ _ (heap_alloc_new _ _)]
  match n, hn with
  | 0, _ => rfl
  | 1, _ => rfl
  | 2, _ => rfl
  | 3, _ => rfl
  | n + 4, h => omega
theorem first_bd (k : Nat) : 48 ≤ firstOf k ∧ firstOf k ≤ 65296 := by
  match k with
  | 0 => decide
  | 1 => decide
  | 2 => decide
  | k + 3 => show (48 : Int) ≤ 65296 ∧ (65296 : Int) ≤ 65296; decide

set_option maxRecDepth 100000 in
set_option maxHeartbeats 4000000 in
theorem retold_walk (t u row : Int) (w : World) (hZ : Zeros w) (hT : Tens w) (ht0 : 0 ≤ t) (ht1 : t ≤ 18446744073709551615) (hu0 : 0 ≤ u) (hu1 : u ≤ 18446744073709551615) (hr : -9223372036854775808 ≤ row ∧ row ≤ 9223372036854775807) :
    Calls Tryd.prog 5 #[.int .u64 t, .int .u64 u, .int .i64 row] w fun e w' => e = .returned (.bool true) ∧ Below w.heap.size w w' := by
  have HZ : Hid (Zeros w) := hZ
  have HT : Hid (Tens w) := hT
  have HTU : Hid ((0 ≤ t ∧ t ≤ 18446744073709551615) ∧ (0 ≤ u ∧ u ≤ 18446744073709551615)) := ⟨⟨ht0, ht1⟩, hu0, hu1⟩
  clear hZ hT
  go_enter Tryd.func5, Tryd.ntmps5
  go_wp2_with fail
  refine (known_any _ HZ.out).mono ?_
  rintro e w1 ⟨rfl, hb1⟩
  have B1 := hideIt hb1
  clear hb1
  go_wp2_with fail
  refine (tellAll t w1 ht0 ht1 (HT.out.below B1.out)).mono ?_
  rintro e w2 ⟨rfl, hb2⟩
  have B2 : Hid (Below w.heap.size w w2) := B1.out.trans (hb2.mono B1.out.size)
  obtain ⟨A, hA⟩ : ∃ A, A = tellOf (decOf (t / 4294967296).toNat) t := ⟨_, rfl⟩
  rw [← hA]
  have HA := hideIt hA
  have hAl : 11 ≤ A.length ∧ A.length ≤ 21 := by rw [hA]; exact tell_len t ht0 ht1
  have HAS : Hid (∀ x ∈ A, x = 46 ∨ 48 ≤ x ∧ x ≤ 57) := by rw [hA]; exact tell_signs t ht0
  obtain ⟨v, hv⟩ : ∃ v, v = t / 4294967296 * 4294967296 + (partsOf (t % 4294967296 * 10 ^ 10 / 4294967296).toNat 10 : Nat) := ⟨_, rfl⟩
  have HR : Hid (∀ k, readOf (bytesOf (figs k (dv (decOf (t / 4294967296).toNat)) ++ 46 :: figs k (dv (fracDigs 10 (t % 4294967296))))) = (v, 0, 0)) := fun k => by rw [hv]; exact read_told k t ht0 ht1
  have HRA : Hid (readOf (bytesOf A) = (v, 0, 0)) := by
    have := HR.out 0
    rw [figs_zero, figs_zero] at this
    rw [hA]; exact this
  have HV : Hid (0 ≤ t - v ∧ t - v ≤ 1) := by
    have := parts_near (t % 4294967296) (by omega) (by omega)
    rw [hv]
    show 0 ≤ _ ∧ _
    omega
  have HSZ : Hid ((bytesOf A).size = A.length) := bytesOf_size A
  clear hb2 hA hv
  go_wp2_with fail
  refine (read_any (bytesOf A) w2 (HZ.out.below B2.out) (by rw [HSZ.out]; unfold maxLen; omega)).mono ?_
  rw [HRA.out]
  rintro e w3 ⟨rfl, hb3⟩
  have B3 : Hid (Below w.heap.size w w3) := B2.out.trans (hb3.mono B2.out.size)
  clear hb3 HRA
  simp only
  obtain ⟨s, hs⟩ : ∃ s, s = bytesOf A := ⟨_, rfl⟩
  rw [← hs]
  have HS := hideIt hs
  clear hs
  obtain ⟨kp0, kp1⟩ := pick_bd row 4 (by decide)
  obtain ⟨k, hk⟩ : ∃ k : Nat, pickOf row 4 = k := ⟨(pickOf row 4).toNat, by omega⟩
  have hk4 : k < 4 := by omega
  have hk4' : (k : Int) < 4 := by omega
  have HK := hideIt hk
  clear hk kp0 kp1
  go_wp2_with (first | (go_at_call 13; refine (pick_any _ _ _ hr.1 hr.2 (by omega) (by omega)).mono ?_; rw [HK.out]; rintro e _ ⟨rfl, h9⟩; rw [h9]; clear h9) | fail)
  have hlt : k < ([.int .i64 48, .int .i64 1632, .int .i64 1776, .int .i64 65296] : List Value).length := hk4
  have hfv : ([.int .i64 48, .int .i64 1632, .int .i64 1776, .int .i64 65296] : List Value)[k]'hlt = .int .i64 (firstOf k) := by
    match k, hk4 with
    | 0, _ => rfl
    | 1, _ => rfl
    | 2, _ => rfl
    | 3, _ => rfl
    | n + 4, h => omega
  rw [hfv]
  have hfb := first_bd k
  obtain ⟨f, hf⟩ : ∃ f, f = firstOf k := ⟨_, rfl⟩
  rw [← hf] at hfb ⊢
  have HF := hideIt hf
  have hf0 := hfb.1
  have hf1 := hfb.2
  clear hf hfb hlt hfv
  have BI : Hid (Below w.heap.size w ((w3.alloc (.cells #[.int .i64 48, .int .i64 1632, .int .i64 1776, .int .i64 65296] 3)).iter s 0)) := (B3.out.alloc B3.out.size _).alloc (by simp; have := B3.out.size; omega) _
  have IT : Hid (((w3.alloc (.cells #[.int .i64 48, .int .i64 1632, .int .i64 1776, .int .i64 65296] 3)).iter s 0).heap[w3.heap.size + 1]? = some (.stringIter s 0)) := by
    have := World.iter_heap (w3.alloc (.cells #[.int .i64 48, .int .i64 1632, .int .i64 1776, .int .i64 65296] 3)) s 0
    rw [World.size_alloc] at this
    exact this
  have hw3 := B3.out.size
  have HW3 := hideIt hw3
  clear hw3
  go_loopg [14] A.length (fun gk bv wr => ∃ (i : Nat) (a : Option Addr) (cap : Nat), i + gk = A.length ∧ bv = .slice a i cap ∧ Hid (wr.ownsRow (w3.heap.size + 2) 21 1 (.slice a i cap) i (i32s (otherL A f i))) ∧ Hid (wr.heap[w3.heap.size + 1]? = some (.stringIter s i)) ∧ Hid (Below w.heap.size w wr))
  case atStart => exact ⟨0, none, 0, by omega, rfl, World.ownsRow_nil _ _ _ _, IT.out, BI.out⟩
  case round =>
    obtain ⟨i, a, cap, hig, rfl, HO, HI, HB⟩ := hrel
    clear BI IT
    by_cases hi : i < A.length
    · have hp : i < s.size := by rw [HS.out, HSZ.out]; exact hi
      have hsg := HAS.out (A.getD i 0) (by rw [List.getD_eq_getElem?_getD, List.getElem?_eq_getElem hi]; exact List.getElem_mem hi)
      have hval : ((s[i]'hp).toNat : Int) = A.getD i 0 := by
        obtain rfl := HS.out
        exact sign_at A HAS.out i hp
      have hnx : ∀ ty, (Instr.next (.pointer (some ⟨w3.heap.size + 1, 0, none⟩)) true ty).run Tryd.prog wr = .ok (.tuple #[.bool true, .int .i64 i, .int .i32 (A.getD i 0)]) (wr.iterAt (w3.heap.size + 1) s (i + 1)) := fun ty => by
        rw [Lib.run_next_ascii_at wr _ s i ty HI.out hp (by omega), hval]
      have HTS : Hid (otherL A f (i + 1) = otherL A f i ++ [turn f (A.getD i 0)]) := take_snoc A f i hi
      have HI1 := hideIt (Lib.iterAt_heap wr (w3.heap.size + 1) s i (i + 1) HI.out)
      have HO1 := hideIt (ownsRow_iterAt HO.out (k := w3.heap.size + 1) (by omega) s (i + 1))
      have HB1 : Hid (Below w.heap.size w (wr.iterAt (w3.heap.size + 1) s (i + 1))) := HB.out.trans ⟨rfl, rfl, rfl, by simp [World.iterAt], fun j hj => Lib.iterAt_other _ _ _ _ _ (by have := HW3.out; omega)⟩
      have HZW : Hid ((wr.iterAt (w3.heap.size + 1) s (i + 1)).heap.size = wr.heap.size) := by show _ = _; simp [World.iterAt]
      have HLT : Hid (w3.heap.size + 2 ≤ wr.heap.size) := (Array.getElem?_eq_some_iff.1 HI.out).1
      generalize A.getD i 0 = c at hsg hnx HTS
      clear hval HI HO HB
      obtain ⟨i0, hi0, hz0, hz1, hz2⟩ := info_parts i32row
      generalize wr.iterAt (w3.heap.size + 1) s (i + 1) = W1 at hnx HI1 HO1 HB1 HZW
      by_cases hc : c = 46
      · subst hc
        have HX : Hid (turn f 46 = 46) := by show _ = _; simp [turn]
        go_wp2_with (first | (at_builtin; refine wpList_append_own _ rfl _ _ 40 rfl (w3.heap.size + 2) 21 i0 (.int .i32 0) 1 4 Tryd.underlying40 hi0 hz0 hz1 hz2 rfl (by decide) _ _ _ rfl (HO1.out.alloc _) ⟨W1.heap.size, 0, none⟩ 1 1 [.int .i32 46] rfl rfl ?c1 ?c2 ?c3 ?c4 ?c5 ?_))
        all_goals (try exact Go.cell_one_new _ _ _)
        case c2 => first | rfl | (intro u hu; simp at hu; subst hu; rfl)
        case c3 => unfold maxLen; omega
        case c4 => omega
        case c5 => have := HLT.out; have := HZW.out; simp; omega
        intro v3 w5 hown3 hg3 _
        have B5 : Hid (Below w.heap.size w w5) := (HB1.out.alloc HB1.out.size _).grown hg3 (by have := HB1.out.size; simp; omega) (fun k hk => by have := (HO1.out.lt k hk).1; have := HW3.out; omega)
        have I5 : Hid (w5.heap[w3.heap.size + 1]? = some (.stringIter s (i + 1))) := by
          have hz := HZW.out
          have hl := HLT.out
          show _ = _
          rw [hg3.block _ (by simp; omega) (fun hh => by have := (HO1.out.lt _ hh.symm).1; omega), Below.heap_alloc _ _ _ (by omega)]
          exact HI1.out
        obtain ⟨a3, cap3, rfl⟩ := owns_slice hown3
        have O5 : Hid (w5.ownsRow (w3.heap.size + 2) 21 1 (.slice a3 (i + 1) cap3) (i + 1) (i32s (otherL A f (i + 1)))) := by
          have h := hown3
          show World.ownsRow _ _ _ _ _ _ _
          rw [HTS.out, HX.out, show i32s (otherL A f i ++ [46]) = i32s (otherL A f i) ++ [.int .i32 46] by simp [i32s]]
          exact h
        clear hown3 hg3 HO1 HB1 HI1 hi0 hz0 hz1 hz2
        go_wp2
        obtain ⟨g', rfl⟩ : ∃ g', gk = g' + 1 := ⟨gk - 1, by omega⟩
        go_roundg g'
        case rel => exact ⟨i + 1, a3, cap3, by omega, rfl, O5.out, I5.out, B5.out⟩
        case measure => omega
      · have hcb : (c != 46) = true := by simp [hc]
        have hc0 : 48 ≤ c := by omega
        have hc1 : c ≤ 57 := by omega
        have HX : Hid (turn f c = c - 48 + f) := by show _ = _; unfold turn; rw [if_neg hc]
        clear hsg
        go_wp2_with (first | (at_builtin; refine wpList_append_own _ rfl _ _ 40 rfl (w3.heap.size + 2) 21 i0 (.int .i32 0) 1 4 Tryd.underlying40 hi0 hz0 hz1 hz2 rfl (by decide) _ _ _ rfl (HO1.out.alloc _) ⟨W1.heap.size, 0, none⟩ 1 1 [.int .i32 (c - 48 + f)] rfl rfl ?d1 ?d2 ?d3 ?d4 ?d5 ?_))
        all_goals (try exact Go.cell_one_new _ _ _)
        case d2 => first | rfl | (intro u hu; simp at hu; subst hu; rfl)
        case d3 => unfold maxLen; omega
        case d4 => omega
        case d5 => have := HLT.out; have := HZW.out; simp; omega
        intro v3 w5 hown3 hg3 _
        have B5 : Hid (Below w.heap.size w w5) := (HB1.out.alloc HB1.out.size _).grown hg3 (by have := HB1.out.size; simp; omega) (fun k hk => by have := (HO1.out.lt k hk).1; have := HW3.out; omega)
        have I5 : Hid (w5.heap[w3.heap.size + 1]? = some (.stringIter s (i + 1))) := by
          have hz := HZW.out
          have hl := HLT.out
          show _ = _
          rw [hg3.block _ (by simp; omega) (fun hh => by have := (HO1.out.lt _ hh.symm).1; omega), Below.heap_alloc _ _ _ (by omega)]
          exact HI1.out
        obtain ⟨a3, cap3, rfl⟩ := owns_slice hown3
        have O5 : Hid (w5.ownsRow (w3.heap.size + 2) 21 1 (.slice a3 (i + 1) cap3) (i + 1) (i32s (otherL A f (i + 1)))) := by
          have h := hown3
          show World.ownsRow _ _ _ _ _ _ _
          rw [HTS.out, HX.out, show i32s (otherL A f i ++ [(c - 48 + f)]) = i32s (otherL A f i) ++ [.int .i32 (c - 48 + f)] by simp [i32s]]
          exact h
        clear hown3 hg3 HO1 HB1 HI1 hi0 hz0 hz1 hz2
        go_wp2
        obtain ⟨g', rfl⟩ : ∃ g', gk = g' + 1 := ⟨gk - 1, by omega⟩
        go_roundg g'
        case rel => exact ⟨i + 1, a3, cap3, by omega, rfl, O5.out, I5.out, B5.out⟩
        case measure => omega
    · obtain rfl : i = A.length := by omega
      have hp : ¬ A.length < s.size := by rw [HS.out, HSZ.out]; omega
      have hnx : ∀ ty, (Instr.next (.pointer (some ⟨w3.heap.size + 1, 0, none⟩)) true ty).run Tryd.prog wr = .ok (.tuple #[.bool false]) wr := fun ty => Lib.run_next_end_at wr _ s A.length ty HI.out hp
      have hLl : (otherL A f A.length).length = A.length := by simp [otherL]
      have HO' : wr.ownsRow (w3.heap.size + 2) 21 1 (.slice a A.length cap) (otherL A f A.length).length (i32s (otherL A f A.length)) := by rw [hLl]; exact HO.out
      obtain ⟨g, cap', hgv, hcv⟩ := own_runes HO' (by rw [hLl]; omega)
      have hRT : runesBytes (otherL A f A.length) = bytesOf (figs k (dv (decOf (t / 4294967296).toNat)) ++ 46 :: figs k (dv (fracDigs 10 (t % 4294967296)))) := by
        have ho : otherL A f A.length = A.map (turn f) := by unfold otherL; rw [List.take_length]
        rw [ho, HA.out, HF.out]
        unfold tellOf
        exact runes_text k hk4 _ _ (dec_digs _) (frac_digs _ _ (by omega) (by omega))
      have hRS : (runesBytes (otherL A f A.length)).size ≤ 4 * A.length := by have := runesBytes_size_le (otherL A f A.length); rw [hLl] at this; exact this
      obtain ⟨R, hR⟩ : ∃ R, R = runesBytes (otherL A f A.length) := ⟨_, rfl⟩
      have HRO : Hid (readOf R = (v, 0, 0)) := by rw [hR, hRT]; exact HR.out k
      have HRS : Hid (R.size ≤ maxLen) := by rw [hR]; unfold maxLen; show _ ≤ _; omega
      rw [← hR, hLl] at hcv
      rw [hLl] at hgv
      cases hgv
      clear hR hRT hRS hLl HO' HO HI HR HK
      go_wp2_with fail
      refine (read_any R wr (HZ.out.below HB.out) HRS.out).mono ?_
      rw [HRO.out]
      rintro e w6 ⟨rfl, hb6⟩
      have B6 : Hid (Below w.heap.size w w6) := HB.out.trans (hb6.mono HB.out.size)
      clear hb6 HB HRO HRS hcv hnx
      simp only
      go_wp2_with fail
      refine (tellAll u w6 hu0 hu1 (HT.out.below B6.out)).mono ?_
      rintro e w7 ⟨rfl, hb7⟩
      have B7 : Hid (Below w.heap.size w w7) := B6.out.trans (hb7.mono B6.out.size)
      obtain ⟨C, hC⟩ : ∃ C, C = tellOf (decOf (u / 4294967296).toNat) u := ⟨_, rfl⟩
      rw [← hC]
      have hCS : ∀ x ∈ C, x = 46 ∨ 48 ≤ x ∧ x ≤ 57 := by rw [hC]; exact tell_signs u hu0
      have HORD : Hid (A.length = C.length → lexL A C = (decide (t < u) && !decide (A = C)) ∧ (A = C → t = u)) := by
        rw [HA.out, hC]; exact told_order t u ht0 ht1 hu0 hu1
      have hbyA : Bytey A := fun x hx => by have := HAS.out x hx; omega
      have hbyC : Bytey C := fun x hx => by have := hCS x hx; omega
      have hless := less_bytes A C hbyA hbyC
      have heqb := eq_bytes A C hbyA hbyC
      rw [← HS.out] at hless heqb
      have hzs : (bytesOf C).size = C.length := bytesOf_size C
      obtain ⟨z, hz⟩ : ∃ z, z = bytesOf C := ⟨_, rfl⟩
      rw [← hz] at hless heqb hzs ⊢
      have hss : s.size = A.length := by rw [HS.out]; exact HSZ.out
      have hv0 : 0 ≤ t - v := HV.out.1
      have hv1 : t - v ≤ 1 := HV.out.2
      have HL1 := hideIt hless
      have HE1 := hideIt heqb
      clear hb7 hC hCS hbyA hbyC hz hless heqb HA HAS HS HSZ HV HF HZ HT B6
      by_cases hl : A.length = C.length
      · have hlb : ((s.size : Int) != (z.size : Int)) = false := by rw [hss, hzs, hl]; simp
        obtain ⟨ho1, ho2⟩ := HORD.out hl
        by_cases hAC : A = C
        · obtain rfl : t = u := ho2 hAC
          have h1 : Op.bytesLess s.toList z.toList = false := by rw [HL1.out, ho1]; simp
          have h2 : (s.toList == z.toList) = true := by rw [HE1.out]; simp [hAC]
          clear HL1 HE1 ho1 ho2 HORD hAC
          go_wp2
          go_ret
          exact ⟨rfl, B7.out⟩
        · have h2 : (s.toList == z.toList) = false := by rw [HE1.out]; simp [hAC]
          by_cases htu : t < u
          · have h1 : Op.bytesLess s.toList z.toList = true := by rw [HL1.out, ho1]; simp [htu, hAC]
            clear HL1 HE1 ho1 ho2 HORD hAC
            go_wp2
            go_ret
            exact ⟨rfl, B7.out⟩
          · have h1 : Op.bytesLess s.toList z.toList = false := by rw [HL1.out, ho1]; simp [htu]
            clear HL1 HE1 ho1 ho2 HORD hAC
            go_wp2
            go_ret
            exact ⟨rfl, B7.out⟩
      · have hlb : ((s.size : Int) != (z.size : Int)) = true := by rw [hss, hzs]; simp only [bne_iff_ne, ne_eq]; omega
        clear HL1 HE1 HORD
        go_wp2
        go_ret
        exact ⟨rfl, B7.out⟩
end Go.Proofs.YtjdcnlggpfkopaaDoor
