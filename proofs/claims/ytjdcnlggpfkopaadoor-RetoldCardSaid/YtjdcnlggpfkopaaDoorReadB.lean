/- Read, the code's: the walk. -/
import Derived.Test.YtjdcnlggpfkopaaDoorRead
import Derived.Laws.RangeAny
import Derived.Deep.LoopGhost
namespace Go.Proofs.YtjdcnlggpfkopaaDoor
open Go.ChangeShapes Go.WideShapes Go.ChangeAt Go.RowKit
set_option linter.unusedVariables false

def r0 : Rd := ⟨0, 0, 0, 0, false⟩
/-- A text gone through from a place on: what was read; the place of a rune that cannot stand there. -/
def scan (s : ByteArray) : Nat → Nat → Rd → Rd × Option Nat
  | 0, _, r => (r, none)
  | k + 1, pos, r => if pos < s.size then (match stepR r ((Utf8.decode s pos).1 : Int) with | none => (r, some pos) | some r' => scan s k (pos + (Utf8.decode s pos).2) r') else (r, none)

theorem scan_end (s : ByteArray) (k pos : Nat) (r : Rd) (h : ¬ pos < s.size) : scan s k pos r = (r, none) := by
  cases k with
  | zero => rfl
  | succ k => simp [scan, h]
theorem scan_no (s : ByteArray) (k pos : Nat) (r : Rd) (h : pos < s.size) (hk : s.size ≤ pos + k) (hr : stepR r ((Utf8.decode s pos).1 : Int) = none) : scan s k pos r = (r, some pos) := by
  cases k with
  | zero => omega
  | succ k => simp [scan, h, hr]
theorem scan_yes (s : ByteArray) (k pos : Nat) (r r' : Rd) (h : pos < s.size) (hr : stepR r ((Utf8.decode s pos).1 : Int) = some r') : scan s (k + 1) pos r = scan s k (pos + (Utf8.decode s pos).2) r' := by
  simp [scan, h, hr]
theorem width_pos (s : ByteArray) (pos : Nat) (h : pos < s.size) : 1 ≤ (Utf8.decode s pos).2 := by
  by_cases ha : (s[pos]'h).toNat < 128
  · rw [decode_ascii s pos h ha]
    exact Nat.le_refl _
  · exact (decode_high s pos h (by omega)).2

structure Good (r : Rd) : Prop where
  ok : r.Ok
  sv : r.sv.toNat < 10 ^ r.sf.toNat
  fv : r.fv.toNat < 10 ^ r.ff.toNat
theorem good0 : Good r0 := ⟨⟨by decide, by decide, by decide, by decide, by decide, by decide, by decide, by decide⟩, by decide, by decide⟩
theorem grow (v f d : Int) (m : Nat) (h0 : 0 ≤ v) (hf0 : 0 ≤ f) (hf1 : f < m) (hv : v.toNat < 10 ^ f.toNat) (hd0 : 0 ≤ d) (hd : d ≤ 9) :
    (v * 10 + d).toNat < 10 ^ (f + 1).toNat ∧ (v * 10 + d).toNat < 10 ^ m := by
  have e : (f + 1).toNat = f.toNat + 1 := by omega
  have h1 : (v * 10 + d).toNat < 10 ^ (f + 1).toNat := by rw [e, Nat.pow_succ]; omega
  exact ⟨h1, Nat.lt_of_lt_of_le h1 (Nat.pow_le_pow_right (by decide) (by omega))⟩
theorem good_step (r r' : Rd) (c : Int) (h : Good r) (hs : stepR r c = some r') : Good r' := by
  obtain ⟨sv, sf, fv, ff, bp⟩ := r
  obtain ⟨⟨a1, a2, a3, a4, a5, a6, a7, a8⟩, hsv, hfv⟩ := h
  have hle := figOf_le c
  unfold stepR at hs
  simp only at *
  by_cases hb : bp = true
  · rw [if_pos hb] at hs
    by_cases hc : 0 ≤ figOf c ∧ ff < 12
    · rw [if_pos hc] at hs; cases hs
      have := grow fv ff (figOf c) 12 a5 a7 hc.2 hfv hc.1 hle.1
      have e12 : (10 : Nat) ^ 12 = 1000000000000 := by decide
      exact ⟨⟨a1, a2, a3, a4, by simp only; omega, by simp only; omega, by simp only; omega, by simp only; omega⟩, hsv, this.1⟩
    · rw [if_neg hc] at hs; cases hs
  · rw [if_neg hb] at hs
    by_cases hp : c = 46 ∧ 0 < sf
    · rw [if_pos hp] at hs; cases hs
      exact ⟨⟨a1, a2, a3, a4, a5, a6, a7, a8⟩, hsv, hfv⟩
    · rw [if_neg hp] at hs
      by_cases hc : 0 ≤ figOf c ∧ sf < 10
      · rw [if_pos hc] at hs; cases hs
        have := grow sv sf (figOf c) 10 a1 a3 hc.2 hsv hc.1 hle.1
        have e10 : (10 : Nat) ^ 10 = 10000000000 := by decide
        exact ⟨⟨by simp only; omega, by simp only; omega, by simp only; omega, by simp only; omega, a5, a6, a7, a8⟩, this.1, hfv⟩
      · rw [if_neg hc] at hs; cases hs

/-- What Read answers: time, error, place. -/
def readOf (s : ByteArray) : Int × Int × Int :=
  match scan s s.size 0 r0 with
  | (_, some p) => (0, 6, p)
  | (r, none) => if r.sf = 0 ∨ r.bp = true ∧ r.ff = 0 then (0, 6, s.size) else if 4294967295 < r.sv then (0, 5, 0) else (r.sv * 4294967296 + (partsOf r.fv.toNat r.ff.toNat : Nat), 0, 0)

theorem tread_ok (sv sf fv ff : Int) (bp : Bool) (r' : Rd) (at_ c : Int) (s : ByteArray) (pos b : Nat) (w : World) (hb : b = w.heap.size) (hZ : Zeros w) (hr : Rd.Ok ⟨sv, sf, fv, ff, bp⟩) (h : stepR ⟨sv, sf, fv, ff, bp⟩ c = some r') :
    Calls Tryd.prog 36 #[.pointer (some ⟨b, 0, none⟩), .int .i64 at_, .int .i32 c]
      ((w.alloc (.cells #[.int .u64 sv, .int .i64 sf, .int .u64 fv, .int .i64 ff, .bool bp] 71)).iter s pos) fun e w' => e = .returned (.tuple #[]) ∧ w' = (w.alloc (.cells #[.int .u64 r'.sv, .int .i64 r'.sf, .int .u64 r'.fv, .int .i64 r'.ff, .bool r'.bp] 71)).iter s pos := by
  subst hb; exact take_ok ⟨sv, sf, fv, ff, bp⟩ r' at_ c s pos w hZ hr h
theorem tread_no (sv sf fv ff : Int) (bp : Bool) (at_ c : Int) (s : ByteArray) (pos b : Nat) (w : World) (hb : b = w.heap.size) (hZ : Zeros w) (hr : Rd.Ok ⟨sv, sf, fv, ff, bp⟩) (h : stepR ⟨sv, sf, fv, ff, bp⟩ c = none) :
    Calls Tryd.prog 36 #[.pointer (some ⟨b, 0, none⟩), .int .i64 at_, .int .i32 c]
      ((w.alloc (.cells #[.int .u64 sv, .int .i64 sf, .int .u64 fv, .int .i64 ff, .bool bp] 71)).iter s pos) fun e w' => e = .panicked (fault 6 at_) ∧ w' = (w.alloc (.cells #[.int .u64 sv, .int .i64 sf, .int .u64 fv, .int .i64 ff, .bool bp] 71)).iter s pos := by
  subst hb; exact take_no ⟨sv, sf, fv, ff, bp⟩ at_ c s pos w hZ hr h
theorem next_at (W : World) (b : Nat) (s : ByteArray) (pos : Nat) (ty : TypeId) (hb : b = W.heap.size) (h : pos < s.size) :
    (Instr.next (.pointer (some ⟨b, 0, none⟩)) true ty).run Tryd.prog (W.iter s pos) = .ok (.tuple #[.bool true, .int .i64 pos, .int .i32 (Utf8.decode s pos).1]) (W.iter s (pos + (Utf8.decode s pos).2)) := by
  subst hb; exact run_next_any W s pos ty h
theorem next_none (W : World) (b : Nat) (s : ByteArray) (pos : Nat) (ty : TypeId) (hb : b = W.heap.size) (h : ¬ pos < s.size) :
    (Instr.next (.pointer (some ⟨b, 0, none⟩)) true ty).run Tryd.prog (W.iter s pos) = .ok (.tuple #[.bool false]) (W.iter s pos) := by
  subst hb; exact run_next_end W s pos ty h

/-- The world of a reading: the three results' cells, the reading, the iterator. -/
theorem three_cells (w : World) (c : Array Value) (t : TypeId) (s : ByteArray) (pos : Nat) :
    let W := ((((w.alloc (.cells #[.int .u64 0] 22)).alloc (.cells #[.int .i64 0] 24)).alloc (.cells #[.int .i64 0] 3)).alloc (.cells c t)).iter s pos
    (w.heap.size + 1 + 1 < W.heap.size ∧ W.cell? ⟨w.heap.size, 0, none⟩ = some (.int .u64 0) ∧ W.cell? ⟨w.heap.size + 1, 0, none⟩ = some (.int .i64 0) ∧ W.cell? ⟨w.heap.size + 1 + 1, 0, none⟩ = some (.int .i64 0)) ∧
    (W.frozen? ⟨w.heap.size, 0, none⟩ = false ∧ W.frozen? ⟨w.heap.size + 1, 0, none⟩ = false ∧ W.frozen? ⟨w.heap.size + 1 + 1, 0, none⟩ = false) ∧ Below w.heap.size w W := by
  refine ⟨⟨?_, ?_, ?_, ?_⟩, ⟨?_, ?_, ?_⟩, ?_⟩
  · simp [World.iter]
  · simp [World.iter, go_sem]
  · simp [World.iter, go_sem]
  · simp [World.iter, go_sem]
  · simp [World.iter, go_sem]
  · simp [World.iter, go_sem]
  · simp [World.iter, go_sem]
  · exact Below.alloc (Below.alloc (Below.alloc (Below.alloc (Below.alloc (Below.refl _ _) (Nat.le_refl _) _) (by simp) _) (by simp; omega) _) (by simp; omega) _) (by simp; omega) _

theorem reading_cells (w : World) (a b c d : Value) (e : Value) (t : TypeId) (s : ByteArray) (pos : Nat) :
    let W := ((((w.alloc (.cells #[.int .u64 0] 22)).alloc (.cells #[.int .i64 0] 24)).alloc (.cells #[.int .i64 0] 3)).alloc (.cells #[a, b, c, d, e] t)).iter s pos
    W.cell? ⟨w.heap.size + 1 + 1 + 1, 0, none⟩ = some a ∧ W.cell? ⟨w.heap.size + 1 + 1 + 1, 1, none⟩ = some b ∧ W.cell? ⟨w.heap.size + 1 + 1 + 1, 2, none⟩ = some c ∧ W.cell? ⟨w.heap.size + 1 + 1 + 1, 3, none⟩ = some d ∧ W.cell? ⟨w.heap.size + 1 + 1 + 1, 4, none⟩ = some e := by
  refine ⟨?_, ?_, ?_, ?_, ?_⟩ <;> simp [World.iter, go_sem]

theorem stored3 (W : World) (m n : Nat) (x y z a b c : Value) (o : Obj) (h : n + 1 + 1 < W.heap.size)
    (t1 : W.cell? ⟨n, 0, none⟩ = some a) (t2 : W.cell? ⟨n + 1, 0, none⟩ = some b) (t3 : W.cell? ⟨n + 1 + 1, 0, none⟩ = some c) :
    let V := ((((W.drewN m).setCell ⟨n, 0, none⟩ x).setCell ⟨n + 1, 0, none⟩ y).setCell ⟨n + 1 + 1, 0, none⟩ z).alloc o
    V.cell? ⟨n, 0, none⟩ = some x ∧ V.cell? ⟨n + 1, 0, none⟩ = some y ∧ V.cell? ⟨n + 1 + 1, 0, none⟩ = some z ∧ Below n W V := by
  have h0 : n < W.heap.size := by omega
  have h1 : n + 1 < W.heap.size := by omega
  refine ⟨?_, ?_, ?_, ?_⟩
  · simp [go_sem, t1, h0]
  · simp [go_sem, t2, h1]
  · simp [go_sem, t3, h]
  · exact Below.alloc (Below.setCell (Below.setCell (Below.setCell (below_drewN (Below.refl _ _) m) (by exact Nat.le_refl _) _) (by exact Nat.le_succ _) _) (by show n ≤ n + 1 + 1; omega) _) (by simp only [World.size_setCell, World.heap_drewN]; omega) _

set_option maxHeartbeats 800000 in
theorem read_walk (s : ByteArray) (w : World) (hZ : Zeros w) (hs : s.size ≤ maxLen) :
    Calls Tryd.prog 23 #[.string s] w fun e w' => e = .returned (.tuple #[.int .u64 (readOf s).1, .int .i64 (readOf s).2.1, .int .i64 (readOf s).2.2]) ∧ Below w.heap.size w w' := by
  have hmf : ∀ (fn : Fn) (first cap : Array Value) (w : World), (Instr.makeFunc fn first cap).run Tryd.prog w = .ok (.func fn first cap) w := fun _ _ _ _ => rfl
  unfold maxLen at hs
  have hZ3 : Zeros (((w.alloc (.cells #[.int .u64 0] 22)).alloc (.cells #[.int .i64 0] 24)).alloc (.cells #[.int .i64 0] 3)) :=
    hZ.below ((((Below.refl _ _).alloc (Nat.le_refl _) _).alloc (by simp) _).alloc (by simp; omega) _)
  go_enter_defers Tryd.func23, Tryd.ntmps23
  go_wp2
  go_loopg [6] s.size (fun k _ wr => ∃ (pos : Nat) (sv sf fv ff : Int) (bp : Bool), wr = ((((w.alloc (.cells #[.int .u64 0] 22)).alloc (.cells #[.int .i64 0] 24)).alloc (.cells #[.int .i64 0] 3)).alloc (Rd.obj ⟨sv, sf, fv, ff, bp⟩)).iter s pos ∧
    scan s k pos ⟨sv, sf, fv, ff, bp⟩ = scan s s.size 0 r0 ∧ s.size ≤ pos + k ∧ Good ⟨sv, sf, fv, ff, bp⟩)
  case atStart => exact ⟨0, 0, 0, 0, 0, false, rfl, rfl, by omega, good0⟩
  case round =>
    obtain ⟨pos, sv, sf, fv, ff, bp, rfl, hsc, hk, hg⟩ := hrel
    have HS : Hid (scan s gk pos ⟨sv, sf, fv, ff, bp⟩ = scan s s.size 0 r0) := hsc
    clear hsc
    by_cases hp : pos < s.size
    · have hnx := fun ty => next_at ((((w.alloc (.cells #[.int .u64 0] 22)).alloc (.cells #[.int .i64 0] 24)).alloc (.cells #[.int .i64 0] 3)).alloc (Rd.obj ⟨sv, sf, fv, ff, bp⟩)) (w.heap.size + 1 + 1 + 1 + 1) s pos ty (by simp) hp
      have hwd := width_pos s pos hp
      cases hst : stepR ⟨sv, sf, fv, ff, bp⟩ ((Utf8.decode s pos).1 : Int) with
      | none =>
        have HN : Hid (stepR ⟨sv, sf, fv, ff, bp⟩ ((Utf8.decode s pos).1 : Int) = none) := hst
        clear hst
        go_wp2_with fail
        refine (tread_no sv sf fv ff bp _ _ s _ _ _ (by simp) hZ3 hg.ok HN.out).mono ?_
        rintro e w' ⟨rfl, rfl⟩
        obtain ⟨⟨t0, t1, t2, t3⟩, ⟨t4, t5, t6⟩, t7⟩ := three_cells w #[.int .u64 sv, .int .i64 sf, .int .u64 fv, .int .i64 ff, .bool bp] 71 s (pos + (Utf8.decode s pos).2)
        have hro : readOf s = (0, 6, (pos : Int)) := by unfold readOf; rw [← HS.out, scan_no s gk pos _ hp hk HN.out]
        refine leaves_cons (f := 35) (args := #[.pointer (some ⟨w.heap.size, 0, none⟩), .pointer (some ⟨w.heap.size + 1, 0, none⟩), .pointer (some ⟨w.heap.size + 1 + 1, 0, none⟩)]) (by simp) (by simp [go_sem]) ?_
        refine (caught w.heap.size 0 0 0 6 pos _ t0 t1 t2 t3 t4 t5 t6).mono ?_
        rintro e u' w'' ⟨rfl, rfl, q0, q1, q2, hb⟩
        simp [Leaves, settle, results, Tryd.results23, go_sem, q0, q1, q2, hro]
        exact t7.trans hb
      | some r' =>
        have HN : Hid (stepR ⟨sv, sf, fv, ff, bp⟩ ((Utf8.decode s pos).1 : Int) = some r') := hst
        clear hst
        go_wp2_with fail
        refine (tread_ok sv sf fv ff bp r' _ _ s _ _ _ (by simp) hZ3 hg.ok HN.out).mono ?_
        rintro e w' ⟨rfl, rfl⟩
        go_wp2
        obtain ⟨g', rfl⟩ : ∃ g', gk = g' + 1 := ⟨gk - 1, by omega⟩
        go_roundg g'
        case rel => exact ⟨pos + (Utf8.decode s pos).2, r'.sv, r'.sf, r'.fv, r'.ff, r'.bp, rfl, by rw [← HS.out, scan_yes s g' pos _ r' hp HN.out], by omega, good_step _ r' _ hg HN.out⟩
        case measure => omega
    · have hnx := fun ty => next_none ((((w.alloc (.cells #[.int .u64 0] 22)).alloc (.cells #[.int .i64 0] 24)).alloc (.cells #[.int .i64 0] 3)).alloc (Rd.obj ⟨sv, sf, fv, ff, bp⟩)) (w.heap.size + 1 + 1 + 1 + 1) s pos ty (by simp) hp
      obtain ⟨⟨t0, t1, t2, t3⟩, ⟨t4, t5, t6⟩, t7⟩ := three_cells w #[.int .u64 sv, .int .i64 sf, .int .u64 fv, .int .i64 ff, .bool bp] 71 s pos
      obtain ⟨u0, u1, u2, u3, u4⟩ := reading_cells w (.int .u64 sv) (.int .i64 sf) (.int .u64 fv) (.int .i64 ff) (.bool bp) 71 s pos
      obtain ⟨⟨a1, a2, a3, a4, a5, a6, a7, a8⟩, gsv, gfv⟩ := hg
      simp only at a1 a2 a3 a4 a5 a6 a7 a8 gsv gfv
      have hsc : scan s s.size 0 r0 = (⟨sv, sf, fv, ff, bp⟩, none) := by rw [← HS.out, scan_end s gk pos _ hp]
      by_cases he : sf = 0 ∨ bp = true ∧ ff = 0
      · have hro : readOf s = (0, 6, (s.size : Int)) := by unfold readOf; rw [hsc]; simp only; rw [if_pos he]
        clear hsc
        have HE : Hid (sf = 0 ∨ bp = true ∧ ff = 0) := he
        have HRO : Hid (readOf s = (0, 6, (s.size : Int))) := hro
        clear he hro
        go_wp2_with fail
        refine (end_early sv sf fv ff _ bp _ _ HE.out u0 u1 u3 u4).mono ?_
        rintro e w' ⟨rfl, rfl⟩
        refine leaves_cons (f := 35) (args := #[.pointer (some ⟨w.heap.size, 0, none⟩), .pointer (some ⟨w.heap.size + 1, 0, none⟩), .pointer (some ⟨w.heap.size + 1 + 1, 0, none⟩)]) (by simp) (by simp [go_sem]) ?_
        refine (caught w.heap.size 0 0 0 6 s.size _ t0 t1 t2 t3 t4 t5 t6).mono ?_
        rintro e u' w'' ⟨rfl, rfl, q0, q1, q2, hb⟩
        simp [Leaves, settle, results, Tryd.results23, go_sem, q0, q1, q2, HRO.out]
        exact t7.trans hb
      · have he1 : (sf == 0) = false := by rw [beq_eq_false_iff_ne]; omega
        have he2 : bp = false ∨ (ff == 0) = false := by
          cases bp with
          | false => exact Or.inl rfl
          | true => refine Or.inr ?_; rw [beq_eq_false_iff_ne]; intro h; exact he (Or.inr ⟨rfl, h⟩)
        have HE2 : Hid (bp = false ∨ (ff == 0) = false) := he2
        clear he2
        by_cases hg : 4294967295 < sv
        · have HRO : Hid (readOf s = (0, 5, 0)) := by show readOf s = _; unfold readOf; rw [hsc]; simp only; rw [if_neg he, if_pos hg]
          clear hsc he
          go_wp2_with fail
          refine (end_great sv sf fv ff _ bp _ _ he1 HE2.out hg u0 u1 u3 u4).mono ?_
          rintro e w' ⟨rfl, rfl⟩
          refine leaves_cons (f := 35) (args := #[.pointer (some ⟨w.heap.size, 0, none⟩), .pointer (some ⟨w.heap.size + 1, 0, none⟩), .pointer (some ⟨w.heap.size + 1 + 1, 0, none⟩)]) (by simp) (by simp [go_sem]) ?_
          refine (caught w.heap.size 0 0 0 5 0 _ t0 t1 t2 t3 t4 t5 t6).mono ?_
          rintro e u' w'' ⟨rfl, rfl, q0, q1, q2, hb⟩
          simp [Leaves, settle, results, Tryd.results23, go_sem, q0, q1, q2, HRO.out]
          exact t7.trans hb
        · have HRO : Hid (readOf s = (sv * 4294967296 + (partsOf fv.toNat ff.toNat : Nat), 0, 0)) := by show readOf s = _; unfold readOf; rw [hsc]; simp only; rw [if_neg he, if_neg hg]
          clear hsc he
          go_wp2_with fail
          refine (end_well sv sf fv ff _ bp _ _ he1 HE2.out (by omega) u0 u1 u3 u4).mono ?_
          rintro e w' ⟨rfl, rfl⟩
          go_wp2_with fail
          obtain ⟨vn, rfl⟩ := Int.eq_ofNat_of_zero_le a5
          obtain ⟨fn, rfl⟩ := Int.eq_ofNat_of_zero_le a7
          refine (time_any sv vn fn _ _ (by simpa using gfv) (by omega) a1 (by omega) u0 u2 u3).mono ?_
          rintro e w' ⟨n, rfl, rfl⟩
          go_wp2
          obtain ⟨q0, q1, q2, hb⟩ := stored3 _ n w.heap.size (.int .u64 (sv * 4294967296 + (partsOf vn fn : Nat))) (.int .i64 0) (.int .i64 0) _ _ _ (.cells #[.int .i64 0, .int .i64 0] 66) t0 t1 t2 t3
          have hb' := t7.trans hb
          refine leaves_cons (f := 35) (args := #[.pointer (some ⟨w.heap.size, 0, none⟩), .pointer (some ⟨w.heap.size + 1, 0, none⟩), .pointer (some ⟨w.heap.size + 1 + 1, 0, none⟩)]) (by simp) (by simp [go_sem]) ?_
          refine (idle w.heap.size _).mono ?_
          rintro e u' w'' ⟨rfl, rfl, rfl⟩
          simp [Leaves, settle, results, Tryd.results23, go_sem, q0, q1, q2, HRO.out]
          exact hb'
end Go.Proofs.YtjdcnlggpfkopaaDoor
