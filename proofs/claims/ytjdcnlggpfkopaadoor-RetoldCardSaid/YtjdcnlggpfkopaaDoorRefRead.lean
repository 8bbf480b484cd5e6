/- Read, the document's own. -/
import Derived.Test.YtjdcnlggpfkopaaDoorRefFigB
import Derived.Test.YtjdcnlggpfkopaaDoorRefDec
import Derived.Deep.CutBlock
import Derived.Deep.DeepCutAuto
namespace Go.Proofs.YtjdcnlggpfkopaaDoor
open Go.ChangeShapes Go.WideShapes Go.ChangeAt Go.RowKit
set_option linter.unusedVariables false

/-- What is left to be read from a place on is all that there is. -/
def At (s : ByteArray) (T : Rd × Option Nat) (pos : Nat) (r : Rd) : Prop := ∃ k, s.size ≤ pos + k ∧ scan s k pos r = T
theorem at_step {s : ByteArray} {T : Rd × Option Nat} {pos : Nat} {r r' : Rd} (h : At s T pos r) (hp : pos < s.size) (hs : stepR r ((Utf8.decode s pos).1 : Int) = some r') : At s T (pos + (Utf8.decode s pos).2) r' := by
  obtain ⟨k, h1, h2⟩ := h
  match k with
  | 0 => omega
  | k + 1 =>
    have := width_pos s pos hp
    exact ⟨k, by omega, by rw [← scan_yes s k pos r r' hp hs]; exact h2⟩
theorem at_no {s : ByteArray} {T : Rd × Option Nat} {pos : Nat} {r : Rd} (h : At s T pos r) (hp : pos < s.size) (hs : stepR r ((Utf8.decode s pos).1 : Int) = none) : T = (r, some pos) := by
  obtain ⟨k, h1, h2⟩ := h
  rw [← h2]; exact scan_no s k pos r hp h1 hs
theorem at_end {s : ByteArray} {T : Rd × Option Nat} {pos : Nat} {r : Rd} (h : At s T pos r) (hp : ¬ pos < s.size) : T = (r, none) := by
  obtain ⟨k, h1, h2⟩ := h
  rw [← h2]; exact scan_end s k pos r hp
theorem width_le (s : ByteArray) (pos : Nat) (h : pos < s.size) : pos + (Utf8.decode s pos).2 ≤ s.size := by
  rw [dec_num]
  unfold decN
  split
  · simp only; omega
  · split
    · rename_i n1
      simp only [Bool.and_eq_true, decide_eq_true_eq] at n1
      have := n1.2.1
      split
      · simp only; omega
      · simp only; omega
    · split
      · rename_i n1
        simp only [Bool.and_eq_true, decide_eq_true_eq] at n1
        have := n1.2.1
        split
        · simp only; omega
        · simp only; omega
      · split
        · rename_i n1
          simp only [Bool.and_eq_true, decide_eq_true_eq] at n1
          have := n1.2.1
          split
          · simp only; omega
          · simp only; omega
        · simp only; omega
/-- What Read answers, by what was read. -/
def readT (s : ByteArray) (T : Rd × Option Nat) : Int × Int × Int :=
  match T with
  | (_, some p) => (0, 6, p)
  | (r, none) => if r.sf = 0 ∨ r.bp = true ∧ r.ff = 0 then (0, 6, s.size) else if 4294967295 < r.sv then (0, 5, 0) else (r.sv * 4294967296 + (partsOf r.fv.toNat r.ff.toNat : Nat), 0, 0)
theorem readOf_T (s : ByteArray) : readOf s = readT s (scan s s.size 0 r0) := rfl

theorem refFigure_any (x : ByteArray) (w : World) (hx : 0 < x.size) (hs : x.size ≤ 9223372036854775807) :
    Calls Tryd.prog 24 #[.string x] w fun e w' => e = .returned (.tuple #[.int .i64 (refFigOf x).1, .int .i64 (refFigOf x).2]) ∧ Below w.heap.size w w' := by
  unfold refFigOf
  rw [dif_pos hx]
  by_cases h : 48 ≤ ((x[0]'hx).toNat : Int) ∧ ((x[0]'hx).toNat : Int) ≤ 57
  · rw [if_pos h]; exact refFigure_ascii x w hx h.1 h.2
  · rw [if_neg h]; exact refFigure_other x w hx hs h
theorem refFigure_at (s : ByteArray) (pos : Nat) (w : World) (h : pos < s.size) (hs : s.size ≤ 9223372036854775807) :
    Calls Tryd.prog 24 #[.string (s.extract pos s.size)] w fun e w' => e = .returned (.tuple #[.int .i64 (runeFig s pos).1, .int .i64 (runeFig s pos).2]) ∧ Below w.heap.size w w' := by
  have hz := size_ext s pos
  rw [← fig_agree s pos h]
  exact refFigure_any _ w (by omega) (by omega)
theorem runeFig_yes (s : ByteArray) (pos : Nat) (h : 0 ≤ figOf ((Utf8.decode s pos).1 : Int)) : runeFig s pos = (figOf ((Utf8.decode s pos).1 : Int), ((Utf8.decode s pos).2 : Int)) := by unfold runeFig; rw [if_pos h]
theorem runeFig_no (s : ByteArray) (pos : Nat) (h : ¬ 0 ≤ figOf ((Utf8.decode s pos).1 : Int)) : runeFig s pos = (-1, 0) := by unfold runeFig; rw [if_neg h]
theorem step_sec (V N c : Int) (h0 : 0 ≤ figOf c) (hN : N < 10) : stepR ⟨V, N, 0, 0, false⟩ c = some ⟨V * 10 + figOf c, N + 1, 0, 0, false⟩ := by
  have hc : ¬ c = 46 := fun k => by rw [k, fig_point] at h0; omega
  unfold stepR
  rw [if_neg (by simp), if_neg (fun k => hc k.1), if_pos ⟨h0, hN⟩]

theorem owns_below {w w' : World} {base : Nat} {e : TypeId} {size : Nat} {v : Value} {n : Nat} {xs : List Value} (h : w.ownsRow base e size v n xs) (hb : Below w.heap.size w w') : w'.ownsRow base e size v n xs := by
  obtain ⟨h1, h2⟩ := h
  refine ⟨h1, ?_⟩
  rcases h2 with h | ⟨g, cap, cur, rfl, hg, hr, h3⟩
  · exact Or.inl h
  · exact Or.inr ⟨g, cap, cur, rfl, hg, by rw [hb.block g (Array.getElem?_eq_some_iff.1 hr).1]; exact hr, h3⟩
theorem owns_slice {w : World} {base : Nat} {e : TypeId} {size : Nat} {v : Value} {n : Nat} {xs : List Value} (h : w.ownsRow base e size v n xs) : ∃ a c, v = .slice a n c := by
  rcases h.2 with ⟨h1, h2⟩ | ⟨g, cap, cur, h1, _⟩
  · exact ⟨none, 0, by rw [h1, h2]⟩
  · exact ⟨_, cap, h1⟩
theorem rune46 (s : ByteArray) (pos : Nat) (h : pos < s.size) (hb : ((s[pos]'h).toNat : Int) = 46) : Utf8.decode s pos = (46, 1) := by
  rw [decode_ascii s pos h (by omega)]
  exact Prod.ext (by simp only; omega) rfl
theorem rune_not46 (s : ByteArray) (pos : Nat) (h : pos < s.size) (hb : ¬ ((s[pos]'h).toNat : Int) = 46) : ¬ ((Utf8.decode s pos).1 : Int) = 46 := by
  by_cases ha : (s[pos]'h).toNat < 128
  · rw [decode_ascii s pos h ha]; exact hb
  · have := (decode_high s pos h (by omega)).1
    omega
theorem step_none (V N c : Int) (h : ¬ c = 46 ∨ N = 0) (hs : N = 10 ∨ figOf c < 0) : stepR ⟨V, N, 0, 0, false⟩ c = none := by
  unfold stepR
  rw [if_neg (by simp), if_neg (fun k => by have := k.1; have := k.2; simp only at *; omega), if_neg (fun k => by have := k.1; have := k.2; simp only at *; omega)]
theorem step_point (V N : Int) (h : 0 < N) : stepR ⟨V, N, 0, 0, false⟩ 46 = some ⟨V, N, 0, 0, true⟩ := by
  unfold stepR
  rw [if_neg (by simp), if_pos ⟨rfl, h⟩]
theorem step_frac (V N F M c : Int) (h0 : 0 ≤ figOf c) (hM : M < 12) : stepR ⟨V, N, F, M, true⟩ c = some ⟨V, N, F * 10 + figOf c, M + 1, true⟩ := by
  unfold stepR
  rw [if_pos rfl, if_pos ⟨h0, hM⟩]
theorem step_fnone (V N F M c : Int) (hs : M = 12 ∨ figOf c < 0) : stepR ⟨V, N, F, M, true⟩ c = none := by
  unfold stepR
  rw [if_pos rfl, if_neg (fun k => by have := k.1; have := k.2; simp only at *; omega)]
theorem parts_lt {ds : List Int} (hD : Digs ds) (hl : ds.length ≤ 12) : ((partsOf (valR ds).toNat ds.length : Nat) : Int) < 4294967296 := by
  have hb := valR_bd ds hD
  have hv : (valR ds).toNat < 10 ^ ds.length := by
    have : ((valR ds).toNat : Int) < ((10 ^ ds.length : Nat) : Int) := by rw [Int.toNat_of_nonneg hb.1]; exact_mod_cast hb.2
    exact_mod_cast this
  have h2 := pow_bound _ _ (12 - ds.length) hv (by omega)
  unfold partsOf
  have : (valR ds).toNat * 10 ^ (12 - ds.length) * 4294967296 / 1000000000000 < 4294967296 := by
    rw [Nat.div_lt_iff_lt_mul (by decide)]; omega
  generalize (valR ds).toNat * 10 ^ (12 - ds.length) * 4294967296 / 1000000000000 = y at this
  omega
theorem digs_snoc {ds : List Int} {f : Int} (h : Digs ds) (h0 : 0 ≤ f) (h1 : f ≤ 9) : Digs (ds ++ [f]) := by
  intro d hd
  rcases List.mem_append.1 hd with h2 | h2
  · exact h d h2
  · simp at h2; subst h2; exact ⟨h0, h1⟩

/-- Where the first loop ends. -/
def Stuck (s : ByteArray) (pos : Nat) (N : Int) (m : Int) : Prop := ¬ pos < s.size ∨ (N = m ∨ figOf ((Utf8.decode s pos).1 : Int) < 0)
set_option maxRecDepth 100000 in
set_option maxHeartbeats 4000000 in
theorem refRead_any (s : ByteArray) (w : World) (hs : s.size ≤ maxLen) :
    Calls Tryd.prog 10 #[.string s] w fun e w' => e = .returned (.tuple #[.int .u64 (readOf s).1, .int .i64 (readOf s).2.1, .int .i64 (readOf s).2.2]) ∧ Below w.heap.size w w' := by
  have hs' : s.size ≤ 9223372036854775807 := Nat.le_trans hs (by decide)
  rw [readOf_T]
  obtain ⟨T, hT⟩ : ∃ T, T = scan s s.size 0 r0 := ⟨_, rfl⟩
  have HA0 : Hid (At s T 0 r0) := ⟨s.size, by omega, hT.symm⟩
  rw [← hT]
  obtain ⟨q, hq⟩ : ∃ q, q = readT s T := ⟨_, rfl⟩
  have HQ : Hid (q = readT s T) := hq
  rw [← hq]
  clear hT hq
  obtain ⟨q1, q2, q3⟩ := q
  simp only
  go_enter Tryd.func10, Tryd.ntmps10
  go_upto_block 0 with fail
  go_cut [5, 6, 7] (fun vv av nv wc => ∃ (pos : Nat) (V N : Int), av = .int .i64 pos ∧ vv = .int .u64 V ∧ nv = .int .i64 N ∧ pos ≤ s.size ∧ Hid (At s T pos ⟨V, N, 0, 0, false⟩) ∧ Hid (Good ⟨V, N, 0, 0, false⟩) ∧ Hid (Stuck s pos N 10) ∧ Below w.heap.size w wc)
  case first =>
    go_wp2_with fail
    go_loopw [5, 6, 7] (fun vv av nv wr => ∃ (pos : Nat) (V N : Int), av = .int .i64 pos ∧ vv = .int .u64 V ∧ nv = .int .i64 N ∧ pos ≤ s.size ∧ Hid (At s T pos ⟨V, N, 0, 0, false⟩) ∧ Hid (Good ⟨V, N, 0, 0, false⟩) ∧ Below w.heap.size w wr) (fun _ av _ _ => s.size - (intOf av).toNat)
    case atStart => exact ⟨0, 0, 0, rfl, rfl, rfl, by omega, HA0.out, good0, Below.refl _ _⟩
    case round =>
      obtain ⟨pos, V, N, rfl, rfl, rfl, hpos, HA, HG, hb⟩ := hrel
      have HB := hideIt hb
      clear hb
      have hp' : (pos : Int) ≤ (s.size : Int) := by omega
      have hV0 : 0 ≤ V := HG.out.ok.sv0
      have hV1 : V ≤ 9999999999 := HG.out.ok.sv1
      have hN0 : 0 ≤ N := HG.out.ok.sf0
      have hN1 : N ≤ 10 := HG.out.ok.sf1
      by_cases hp : pos < s.size
      · have hpi : (pos : Int) < (s.size : Int) := by omega
        by_cases hn : N < 10
        · go_wp2_with fail
          refine (refFigure_at s pos wr hp hs').mono ?_
          rintro e w1 ⟨rfl, hb1⟩
          have B1 : Hid (Below w.heap.size w w1) := HB.out.trans (hb1.mono HB.out.size)
          clear hb1
          by_cases hf : 0 ≤ figOf ((Utf8.decode s pos).1 : Int)
          · rw [runeFig_yes s pos hf]
            have HA1 := hideIt (at_step HA.out hp (step_sec V N _ hf hn))
            have HG1 := hideIt (good_step _ _ _ HG.out (step_sec V N _ hf hn))
            have hle := (figOf_le ((Utf8.decode s pos).1 : Int)).1
            have hwl := width_le s pos hp
            have hwp := width_pos s pos hp
            generalize figOf ((Utf8.decode s pos).1 : Int) = f at hf hle HA1 HG1
            generalize (Utf8.decode s pos).2 = W at hwl hwp HA1
            simp only
            go_wp2
            go_roundw
            case rel => exact ⟨pos + W, V * 10 + f, N + 1, by go_num, rfl, rfl, hwl, HA1.out, HG1.out, B1.out⟩
            case measure => simp [intOf]; omega
          · rw [runeFig_no s pos hf]
            have HS : Hid (Stuck s pos N 10) := Or.inr (Or.inr (by omega))
            simp only
            go_wp2
            go_meet
            case rel => exact ⟨pos, V, N, rfl, rfl, rfl, hpos, HA.out, HG.out, HS.out, B1.out⟩
        · have HS : Hid (Stuck s pos N 10) := Or.inr (Or.inl (by omega))
          go_wp2
          go_meet
          case rel => exact ⟨pos, V, N, rfl, rfl, rfl, hpos, HA.out, HG.out, HS.out, HB.out⟩
      · have HS : Hid (Stuck s pos N 10) := Or.inl hp
        go_wp2
        go_meet
        case rel => exact ⟨pos, V, N, rfl, rfl, rfl, hpos, HA.out, HG.out, HS.out, HB.out⟩
  case rest =>
    obtain ⟨pos, V, N, rfl, rfl, rfl, hpos, HA, HG, HS, hb⟩ := hcut
    have HB := hideIt hb
    have hp' : (pos : Int) ≤ (s.size : Int) := by omega
    have hV0 : 0 ≤ V := HG.out.ok.sv0
    have hV1 : V ≤ 9999999999 := HG.out.ok.sv1
    have hN0 : 0 ≤ N := HG.out.ok.sf0
    have hN1 : N ≤ 10 := HG.out.ok.sf1
    clear hb HA0
    by_cases hN : N = 0
    · subst hN
      have hE : (q1, q2, q3) = (0, 6, (pos : Int)) := by
        rw [HQ.out]
        by_cases hp : pos < s.size
        · have hst : figOf ((Utf8.decode s pos).1 : Int) < 0 := by
            rcases HS.out with h | h | h
            · exact absurd hp h
            · cases h
            · exact h
          rw [at_no HA.out hp (step_none V 0 _ (Or.inr rfl) (Or.inr hst))]; rfl
        · rw [at_end HA.out hp]
          obtain rfl : pos = s.size := by omega
          simp [readT]
      have HE := hideIt hE
      clear hE
      go_wp2
      go_ret3
      cases HE.out
      exact ⟨rfl, HB.out⟩
    · have hNb : (N == 0) = false := by simp [hN]
      by_cases hp : pos < s.size
      · have hpi : (pos : Int) < (s.size : Int) := by omega
        by_cases h46 : ((s[pos]'hp).toNat : Int) = 46
        · have h46b : (((s[pos]'hp).toNat : Int) != 46) = false := by simp [h46]
          have HA1 : Hid (At s T (pos + 1) ⟨V, N, 0, 0, true⟩) := by
            have h1 := rune46 s pos hp h46
            have := at_step HA.out hp (r' := ⟨V, N, 0, 0, true⟩) (by rw [h1]; exact step_point V N (by omega))
            rw [h1] at this
            exact this
          have hp1 : pos + 1 ≤ s.size := by omega
          clear HS HA h46 hpi
          go_upto_block 2 with fail
          go_cut [6, 10] (fun av bv wx => ∃ (p : Nat) (ds : List Int) (a : Option Addr) (cap : Nat), av = .int .i64 p ∧ bv = .slice a ds.length cap ∧ p ≤ s.size ∧ ds.length ≤ 12 ∧ Hid (wx.ownsRow w.heap.size 3 1 (.slice a ds.length cap) ds.length (ints ds)) ∧ Hid (Digs ds) ∧ Hid (At s T p ⟨V, N, valR ds, ds.length, true⟩) ∧ Hid (Stuck s p ds.length 12) ∧ Below w.heap.size w wx)
          case first =>
            go_wp2_with fail
            go_loopw [6, 10] (fun av bv wr => ∃ (p : Nat) (ds : List Int) (a : Option Addr) (cap : Nat), av = .int .i64 p ∧ bv = .slice a ds.length cap ∧ p ≤ s.size ∧ ds.length ≤ 12 ∧ Hid (wr.ownsRow w.heap.size 3 1 (.slice a ds.length cap) ds.length (ints ds)) ∧ Hid (Digs ds) ∧ Hid (At s T p ⟨V, N, valR ds, ds.length, true⟩) ∧ Below w.heap.size w wr) (fun av _ _ => s.size - (intOf av).toNat)
            case atStart => exact ⟨pos + 1, [], none, 0, by go_num, rfl, hp1, by decide, World.ownsRow_nil _ _ _ _, (fun d hd => by cases hd), HA1.out, HB.out⟩
            case round =>
              obtain ⟨p, ds, a, cap, rfl, rfl, hpp, hdl, HO, HD, HP, hb⟩ := hrel
              have HB2 := hideIt hb
              clear hb HB HA1
              have hp2 : (p : Int) ≤ (s.size : Int) := by omega
              by_cases hq : p < s.size
              · have hqi : (p : Int) < (s.size : Int) := by omega
                by_cases hn : (ds.length : Int) < 12
                · go_wp2_with fail
                  refine (refFigure_at s p wr hq hs').mono ?_
                  rintro e w1 ⟨rfl, hb1⟩
                  have B1 : Hid (Below w.heap.size w w1) := HB2.out.trans (hb1.mono HB2.out.size)
                  have HO1 := hideIt (owns_below HO.out hb1)
                  clear hb1
                  by_cases hf : 0 ≤ figOf ((Utf8.decode s p).1 : Int)
                  · rw [runeFig_yes s p hf]
                    have HP1 := hideIt (at_step HP.out hq (step_frac V N (valR ds) ds.length _ hf hn))
                    have hle := (figOf_le ((Utf8.decode s p).1 : Int)).1
                    have hwl := width_le s p hq
                    have hwp := width_pos s p hq
                    generalize figOf ((Utf8.decode s p).1 : Int) = f at hf hle HP1
                    generalize (Utf8.decode s p).2 = W at hwl hwp HP1
                    simp only
                    obtain ⟨i0, hi, hz0, hz1, hz2⟩ := info_parts introw
                    go_wp2_with (first | (at_builtin; refine wpList_append_own _ rfl _ _ 39 rfl w.heap.size 3 i0 (.int .i64 0) 1 8 Tryd.underlying39 hi hz0 hz1 hz2 rfl (by decide) _ _ _ rfl (HO1.out.alloc _) ⟨w1.heap.size, 0, none⟩ 1 1 [.int .i64 f] rfl rfl ?c1 ?c2 ?c3 ?c4 ?c5 ?_))
                    case c1 => exact Go.cell_one_new _ _ _
                    case c2 => intro u hu; simp at hu; subst hu; rfl
                    case c3 => unfold maxLen; omega
                    case c4 => omega
                    case c5 => have := B1.out.size; simp; omega
                    intro v3 w3 hown3 hg3 _
                    have B3 : Hid (Below w.heap.size w w3) := (B1.out.alloc B1.out.size _).grown hg3 (by have := B1.out.size; simp; omega) (fun k hk => (HO1.out.lt k hk).1)
                    obtain ⟨a3, cap3, rfl⟩ := owns_slice hown3
                    have HO3 : Hid (w3.ownsRow w.heap.size 3 1 (.slice a3 (ds.length + 1) cap3) (ds.length + 1) (ints (ds ++ [f]))) := by
                      have := hown3
                      rw [show ints (ds ++ [f]) = ints ds ++ [.int .i64 f] by simp [ints]]
                      exact this
                    clear hown3 hg3 HO HO1 B1 HB2 hi hz0 hz1 hz2
                    go_wp2
                    go_roundw
                    case rel => exact ⟨p + W, ds ++ [f], a3, cap3, by go_num, by simp, hwl, by simp; omega, hideIt (by simpa using HO3.out), digs_snoc HD.out hf hle, hideIt (by rw [valR_snoc]; simpa using HP1.out), B3.out⟩
                    case measure => simp [intOf]; omega
                  · rw [runeFig_no s p hf]
                    have HS : Hid (Stuck s p ds.length 12) := Or.inr (Or.inr (by omega))
                    simp only
                    go_wp2
                    go_meet
                    case rel => exact ⟨p, ds, a, cap, rfl, rfl, hpp, hdl, HO1.out, HD.out, HP.out, HS.out, B1.out⟩
                · have HS : Hid (Stuck s p ds.length 12) := Or.inr (Or.inl (by omega))
                  go_wp2
                  go_meet
                  case rel => exact ⟨p, ds, a, cap, rfl, rfl, hpp, hdl, HO.out, HD.out, HP.out, HS.out, HB2.out⟩
              · have HS : Hid (Stuck s p ds.length 12) := Or.inl hq
                go_wp2
                go_meet
                case rel => exact ⟨p, ds, a, cap, rfl, rfl, hpp, hdl, HO.out, HD.out, HP.out, HS.out, HB2.out⟩
          case rest =>
            obtain ⟨p, ds, a, cap, rfl, rfl, hpp, hdl, HO, HD, HP, HS, hb⟩ := hcut
            have HB2 := hideIt hb
            clear hb HB HA1
            by_cases hq : p < s.size
            · have hqi : (p : Int) < (s.size : Int) := by omega
              have hE : (q1, q2, q3) = (0, 6, (p : Int)) := by
                rw [HQ.out, at_no HP.out hq (step_fnone V N _ _ _ (by
                  rcases HS.out with h | h
                  · exact absurd hq h
                  · exact h))]
                rfl
              have HE := hideIt hE
              clear hE
              by_cases h0 : (ds.length : Int) = 0
              · go_wp2
                go_ret3
                cases HE.out
                exact ⟨rfl, HB2.out⟩
              · have h0b : ((ds.length : Int) == 0) = false := by simp only [beq_eq_false_iff_ne]; exact h0
                go_wp2
                go_ret3
                cases HE.out
                exact ⟨rfl, HB2.out⟩
            · have hE0 : T = (⟨V, N, valR ds, ds.length, true⟩, none) := at_end HP.out hq
              have hE1 : (q1, q2, q3) = readT s (⟨V, N, valR ds, ds.length, true⟩, none) := by rw [HQ.out, hE0]
              obtain rfl : p = s.size := by omega
              by_cases h0 : (ds.length : Int) = 0
              · have hE : (q1, q2, q3) = (0, 6, (s.size : Int)) := by rw [hE1]; unfold readT; exact if_pos (Or.inr ⟨rfl, h0⟩)
                have HE := hideIt hE
                clear hE hE1 hE0
                go_wp2
                go_ret3
                cases HE.out
                exact ⟨rfl, HB2.out⟩
              · have h0b : ((ds.length : Int) == 0) = false := by simp only [beq_eq_false_iff_ne]; exact h0
                have hE2 : (q1, q2, q3) = if 4294967295 < V then (0, 5, 0) else (V * 4294967296 + (partsOf (valR ds).toNat ((ds.length : Int)).toNat : Nat), 0, 0) := by
                  rw [hE1]; unfold readT; exact if_neg (fun k => by rcases k with k | k; exact hN k; exact h0 k.2)
                clear hE1 hE0
                by_cases hg : 4294967295 < V
                · rw [if_pos hg] at hE2
                  have HE := hideIt hE2
                  clear hE2
                  go_wp2
                  go_ret3
                  cases HE.out
                  exact ⟨rfl, HB2.out⟩
                · rw [if_neg hg] at hE2
                  have HE := hideIt hE2
                  clear hE2
                  have hl := HB2.out.size
                  have HE2 : Hid ((q1, q2, q3) = (V * 4294967296 + (partsOf (valR ds).toNat ds.length : Nat), 0, 0)) := hideIt (by have := HE.out; simpa using this)
                  clear HE
                  obtain ⟨pp, hpp⟩ : ∃ pp, partsOf (valR ds).toNat ds.length = pp := ⟨_, rfl⟩
                  have HPB : Hid (pp < 4294967296) := by show _ < _; rw [← hpp]; have := parts_lt HD.out hdl; omega
                  rw [hpp] at HE2
                  have hE3 := HE2.out
                  have HPP := hideIt hpp
                  clear hpp HP HS HE2
                  cases hE3
                  clear HG HQ
                  go_wp2_with fail
                  have hcall := refParts_any ds _ ds.length w.heap.size wc HO.out hdl HD.out hl
                  rw [HPP.out] at hcall
                  refine hcall.mono ?_
                  rintro e w1 ⟨rfl, hb1⟩
                  have B1 : Hid (Below w.heap.size w w1) := HB2.out.trans (hb1.mono HB2.out.size)
                  clear hb1 hcall
                  have hpb : (pp : Int) < 4294967296 := by have := HPB.out; omega
                  go_wp2
                  go_ret3
                  exact ⟨rfl, B1.out⟩
        · have h46b : (((s[pos]'hp).toNat : Int) != 46) = true := by simp [h46]
          have hE : (q1, q2, q3) = (0, 6, (pos : Int)) := by
            rw [HQ.out, at_no HA.out hp (step_none V N _ (Or.inl (rune_not46 s pos hp h46)) (by
              rcases HS.out with h | h
              · exact absurd hp h
              · exact h))]
            rfl
          have HE := hideIt hE
          clear hE
          go_wp2
          go_ret3
          cases HE.out
          exact ⟨rfl, HB.out⟩
      · have hE0 : T = (⟨V, N, 0, 0, false⟩, none) := at_end HA.out hp
        have hE1 : (q1, q2, q3) = readT s (⟨V, N, 0, 0, false⟩, none) := by rw [HQ.out, hE0]
        unfold readT at hE1
        simp only [hN, Bool.false_eq_true, false_and, or_false, if_false] at hE1
        by_cases hg : 4294967295 < V
        · rw [if_pos hg] at hE1
          have HE := hideIt hE1
          clear hE1 hE0
          go_wp2
          go_ret3
          cases HE.out
          exact ⟨rfl, HB.out⟩
        · rw [if_neg hg] at hE1
          have HE := hideIt hE1
          clear hE1 hE0
          have hl := HB.out.size
          go_wp2_with fail
          refine (refParts_any [] _ 0 w.heap.size wc (World.ownsRow_nil _ _ _ _) (by decide) (fun d hd => by cases hd) hl).mono ?_
          rintro e w1 ⟨rfl, hb1⟩
          have B1 : Hid (Below w.heap.size w w1) := HB.out.trans (hb1.mono HB.out.size)
          have hpz : partsOf (valR []).toNat 0 = 0 := by decide +kernel
          rw [hpz]
          clear hb1
          go_wp2
          go_ret3
          have h1 := HE.out
          rw [show partsOf (0 : Int).toNat (0 : Int).toNat = 0 by decide +kernel] at h1
          cases h1
          exact ⟨by simp, B1.out⟩
end Go.Proofs.YtjdcnlggpfkopaaDoor
