/- Bytes out of packets: the document's own. -/
import Derived.Test.YtjdcnlggpfkopaaPkE
import Derived.Test.YtjdcnlggpfkopaaTake
import Derived.Deep.Onto
namespace Go.Proofs.Ytjdcnlggpfkopaa
open Go.ChangeShapes Go.WideShapes Go.ChangeAt Go.RowKit
set_option linter.unusedVariables false

set_option maxHeartbeats 400000 in
theorem refWithin_any (n lo hi : Int) (w : World) :
    Calls Try.prog 38 #[.int .i64 n, .int .i64 lo, .int .i64 hi] w fun e w' => e = .returned (.bool (decide (lo ≤ n ∧ n ≤ hi))) ∧ w' = w := by
  by_cases h1 : lo ≤ n
  · by_cases h2 : n ≤ hi
    · go_enter Try.func38, Try.ntmps38
      go_wp2
      go_ret
      exact ⟨by simp [h1, h2], rfl⟩
    · go_enter Try.func38, Try.ntmps38
      go_wp2
      go_ret
      exact ⟨by simp [h2], rfl⟩
  · go_enter Try.func38, Try.ntmps38
    go_wp2
    go_ret
    exact ⟨by rw [decide_eq_false (show ¬ lo ≤ n by omega)]; rfl, rfl⟩

theorem grown_set {w wr : World} {g : Nat} (h : w.grownBy wr none) (hg : w.heap.size ≤ g) (i : Nat) (v : Value) : w.grownBy (wr.setCell ⟨g, i, none⟩ v) none :=
  ⟨h.os, h.tape, h.output, by rw [World.size_setCell]; exact h.size, fun k hk hr => by rw [heap_setCell_other _ _ _ _ (show k ≠ g by omega)]; exact h.block k hk hr⟩
theorem made_n (k : Nat) : madeCells (Value.int .u8 0).cells (k * 1) = (List.replicate k (Value.int .u8 0)).toArray := by
  apply Array.ext
  · simp [madeCells]
  · intro i h1 h2
    simp [madeCells, Value.cells, Nat.mod_one]
set_option maxHeartbeats 400000 in
theorem refBytes_any (len : Nat) (n : Int) (w : World) (h0 : 0 ≤ n) (h1 : n ≤ 18446744073709551615) (hlen : len ≤ 8) :
    Calls Try.prog 39 #[.int .u64 n, .int .i64 len] w fun e w' => e = .returned (.slice (some ⟨w.heap.size, 0, none⟩) len len) ∧ w'.heap[w.heap.size]? = some (.cells (putN (List.replicate len (Value.int .u8 0)).toArray 0 len n) 5 (0, 0)) ∧ w.grownBy w' none := by
  obtain ⟨i0, hi, hz0, hz1, hz2⟩ := info_parts u8info
  have hmk : ∀ w : World, (Instr.makeSlice 22 (.int .i64 (len : Int)) (.int .i64 (len : Int))).run Try.prog w = .ok (.slice (some ⟨w.heap.size, 0, none⟩) len len) (w.alloc (.cells (List.replicate len (Value.int .u8 0)).toArray 5)) := fun w => by
    have := run_make w 22 5 i0 (.int .u8 0) Try.underlying22 hi hz0 .i64 .i64 (len : Int) (len : Int) (by omega) (by omega) (by rw [hz2]; omega) (by omega)
    rw [hz1, show ((len : Int)).toNat = len by omega, made_n] at this
    exact this
  clear hi hz0 hz1 hz2
  go_enter Try.func39, Try.ntmps39
  go_wp2
  go_loopw [0, 6] (fun nv i wr => ∃ (k : Nat) (x : Int) (c : Array Value), i = .int .i64 ((k : Int) - 1) ∧ nv = .int .u64 x ∧ 0 ≤ x ∧ x ≤ 18446744073709551615 ∧ k ≤ len ∧ wr.heap[w.heap.size]? = some (.cells c 5 (0, 0)) ∧ c.size = len ∧
      putN c 0 k x = putN (List.replicate len (Value.int .u8 0)).toArray 0 len n ∧ w.grownBy wr none) (fun _ i _ => (intOf i + 1).toNat)
  case atStart => exact ⟨len, n, (List.replicate len (Value.int .u8 0)).toArray, by go_num, rfl, h0, h1, Nat.le_refl _, by simpa using heap_alloc_new w (.cells (List.replicate len (Value.int .u8 0)).toArray 5), by simp, rfl, grown_alloc _ _⟩
  case round =>
    obtain ⟨k, x, c, rfl, rfl, hx0, hx1, hk, hg, hcs, hput, hb⟩ := hrel
    have HG2 : Hid (wr.heap[w.heap.size]? = some (.cells c 5 (0, 0))) := hg
    have HS : Hid (c.size = len) := hcs
    have HP : Hid (putN c 0 k x = putN (List.replicate len (Value.int .u8 0)).toArray 0 len n) := hput
    have HB : Hid (w.grownBy wr none) := hb
    cases k with
    | zero =>
      clear hg hcs hput hb
      go_wp2
      go_ret
      exact ⟨rfl, by rw [← HP.out]; exact HG2.out, HB.out⟩
    | succ k =>
      have e1 : (((k + 1 : Nat) : Int) - 1) = (k : Int) := by omega
      rw [e1]
      have hfr := frozen_of_row wr w.heap.size k c _ hg
      obtain ⟨old, hold⟩ : ∃ v, wr.cell? ⟨w.heap.size, k, none⟩ = some v := ⟨_, by rw [cell_of_row wr w.heap.size k c _ _ hg]; exact Array.getElem?_eq_getElem (by omega)⟩
      have hklt : (k : Int) < (len : Int) := by omega
      clear hg hcs hput hb
      go_wp2
      go_roundw
      case rel =>
        refine ⟨k, x / 256, c.setIfInBounds (0 + k) (.int .u8 (x % 256)), by go_num, by go_num, by omega, by omega, by omega, ?_, by rw [Array.size_setIfInBounds]; exact HS.out, HP.out, grown_set HB.out (Nat.le_refl _) _ _⟩
        rw [Nat.zero_add]
        exact heap_setCell_same wr w.heap.size k c _ _ HG2.out
      case measure => simp [intOf]
set_option maxRecDepth 100000 in
theorem put4 (n : Int) : putN (List.replicate 4 (Value.int .u8 0)).toArray 0 4 n = (u8s (bytes4 n)).toArray := by kernel_rfl
set_option maxRecDepth 100000 in
theorem put8 (n : Int) : putN (List.replicate 8 (Value.int .u8 0)).toArray 0 8 n = (u8s (bytes8 n)).toArray := by kernel_rfl
theorem refBytes4 (n : Int) (w : World) (h0 : 0 ≤ n) (h1 : n ≤ 18446744073709551615) :
    Calls Try.prog 39 #[.int .u64 n, .int .i64 4] w fun e w' => ∃ g, e = .returned (.slice (some ⟨g, 0, none⟩) 4 4) ∧ w'.heap[g]? = some (.cells (u8s (bytes4 n)).toArray 5 (0, 0)) ∧ w.grownBy w' none := by
  have := refBytes_any 4 n w h0 h1 (by decide)
  rw [put4] at this
  exact this.mono fun e w' h => ⟨_, h⟩
theorem refBytes8 (n : Int) (w : World) (h0 : 0 ≤ n) (h1 : n ≤ 18446744073709551615) :
    Calls Try.prog 39 #[.int .u64 n, .int .i64 8] w fun e w' => ∃ g, e = .returned (.slice (some ⟨g, 0, none⟩) 8 8) ∧ w'.heap[g]? = some (.cells (u8s (bytes8 n)).toArray 5 (0, 0)) ∧ w.grownBy w' none := by
  have := refBytes_any 8 n w h0 h1 (by decide)
  rw [put8] at this
  exact this.mono fun e w' h => ⟨_, h⟩
theorem cells_row {w : World} {g : Nat} {l : List Value} {t : TypeId} (h : w.heap[g]? = some (.cells l.toArray t (0, 0))) : ∀ j u, l[j]? = some u → w.cell? ((⟨g, 0, none⟩ : Addr).add j) = some u := by
  intro j u hu
  have hadd : (⟨g, 0, none⟩ : Addr).add j = ⟨g, j, none⟩ := by unfold Addr.add; split <;> simp_all
  rw [hadd, cell_of_row w g j _ _ _ h]
  simpa using hu
theorem own_grown {w w' : World} {base : Nat} {e : TypeId} {v : Value} {n : Nat} {xs : List Value} (h : w.ownsRow base e 1 v n xs) (hg : w.grownBy w' none) : w'.ownsRow base e 1 v n xs := h.kept hg (by cases h : v.ownBlock <;> simp)
theorem grown_below {w w' : World} {B : Nat} {row : Option Nat} (h : w.grownBy w' row) (hr : ∀ k, row = some k → B ≤ k) (hB : B ≤ w.heap.size) : Below B w w' :=
  ⟨h.os, h.tape, h.output, h.size, fun k hk => h.block k (by omega) (fun he => by have := hr k he.symm; omega)⟩
theorem own_new (W : World) (l : List Int) (base : Nat) (hb : base ≤ W.heap.size) (hl : l.length ≤ 1000) : (W.alloc (.cells (u8s l).toArray 5)).ownsRow base 5 1 (.slice (some ⟨W.heap.size, 0, none⟩) l.length l.length) l.length (u8s l) := by
  refine ⟨by simp [u8s], Or.inr ⟨W.heap.size, l.length, _, rfl, hb, heap_alloc_new _ _, Nat.le_refl _, by unfold maxLen; omega, by simp [u8s], ?_⟩⟩
  simp [u8s, ← List.map_take]

/-- What the document's Form hands back. -/
def RefFormed (w0 w' : World) (r : Value) (er : Int) (zs : List Int) : Prop :=
  (er ≠ 0 ∧ r = .slice none 0 0) ∨ (er = 0 ∧ w'.ownsRow w0.heap.size 5 1 r 48 (u8s zs))

theorem u8s_app (a b : List Int) : u8s a ++ u8s b = u8s (a ++ b) := by simp [u8s]
set_option maxRecDepth 100000 in
set_option maxHeartbeats 2000000 in
theorem refForm_good (a v m c d e f gg h i j k l X : Int) (w : World) (hF : Fits a v m c d e f gg h i j k l) (ba : 0 ≤ a ∧ a ≤ 3) (bc : 0 ≤ c ∧ c ≤ 255) (bd : -128 ≤ d ∧ d ≤ 127) (be : -128 ≤ e ∧ e ≤ 127) (kv : v = 3 ∨ v = 4) (km : m = 3 ∨ m = 4) (hX : X = a * 64 + v * 8 + m) :
    Calls Try.prog 14 #[.agg #[.int .i64 a, .int .i64 v, .int .i64 m, .int .i64 c, .int .i64 d, .int .i64 e, .int .u32 f, .int .u32 gg, .int .u32 h, .int .u64 i, .int .u64 j, .int .u64 k, .int .u64 l]] w fun r w' => ∃ s, r = .returned (.tuple #[s, .int .i64 0]) ∧ w'.ownsRow w.heap.size 5 1 s 48 (u8s (formList X c (d % 256) (e % 256) f gg h i j k l)) ∧ Below w.heap.size w w' := by
  obtain ⟨t0, hi, hz0, hz1, hz2⟩ := info_parts u8info
  have HI : Hid (Try.prog.info? 5 = some t0) := hi
  obtain ⟨⟨f0, f1⟩, ⟨g0, g1⟩, ⟨h0, h1⟩, ⟨i0, i1⟩, ⟨j0, j1⟩, ⟨k0, k1⟩, ⟨l0, l1⟩⟩ := hF
  have dA : decide (0 ≤ a ∧ a ≤ 3) = true := by simpa using ba
  have dB : decide (0 ≤ c ∧ c ≤ 255) = true := by simpa using bc
  have dC : decide (-128 ≤ d ∧ d ≤ 127) = true := by simpa using bd
  have dD : decide (-128 ≤ e ∧ e ≤ 127) = true := by simpa using be
  have HX : Hid (X = a * 64 + v * 8 + m) := hX
  clear hi hX
  go_enter Try.func14, Try.ntmps14
  go_wp2_with fail
  refine (refWithin_any _ _ _ _).mono ?_
  rintro r w1 ⟨rfl, rfl⟩
  rw [dA]
  go_wp2_with fail
  refine (refWithin_any _ _ _ _).mono ?_
  rintro r w1 ⟨rfl, rfl⟩
  rw [dB]
  go_wp2_with fail
  refine (refWithin_any _ _ _ _).mono ?_
  rintro r w1 ⟨rfl, rfl⟩
  rw [dC]
  go_wp2_with fail
  refine (refWithin_any _ _ _ _).mono ?_
  rintro r w1 ⟨rfl, rfl⟩
  rw [dD]
  clear dA dB dC dD
  rcases kv with rfl | rfl <;> rcases km with rfl | rfl
  all_goals
    go_wp2_with fail
    first
      | rw [show 64 * a + 24 + 3 = X by have := HX.out; omega]
      | rw [show 64 * a + 24 + 4 = X by have := HX.out; omega]
      | rw [show 64 * a + 32 + 3 = X by have := HX.out; omega]
      | rw [show 64 * a + 32 + 4 = X by have := HX.out; omega]
    generalize hP : w.alloc _ = WP
    have sP : WP.heap.size = w.heap.size + 1 := by rw [← hP]; simp
    have HBW : Hid (Below w.heap.size w WP) := by rw [← hP]; exact (Below.refl _ _).alloc (Nat.le_refl _) _
    have P7 : Hid (WP.cell? ⟨w.heap.size, 7, none⟩ = some (.int .u32 gg)) := by rw [← hP]; simp [go_sem, Hid]
    have P8 : Hid (WP.cell? ⟨w.heap.size, 8, none⟩ = some (.int .u32 h)) := by rw [← hP]; simp [go_sem, Hid]
    have P9 : Hid (WP.cell? ⟨w.heap.size, 9, none⟩ = some (.int .u64 i)) := by rw [← hP]; simp [go_sem, Hid]
    have P10 : Hid (WP.cell? ⟨w.heap.size, 10, none⟩ = some (.int .u64 j)) := by rw [← hP]; simp [go_sem, Hid]
    have P11 : Hid (WP.cell? ⟨w.heap.size, 11, none⟩ = some (.int .u64 k)) := by rw [← hP]; simp [go_sem, Hid]
    have P12 : Hid (WP.cell? ⟨w.heap.size, 12, none⟩ = some (.int .u64 l)) := by rw [← hP]; simp [go_sem, Hid]
    clear hP HX
    have SP : Hid (WP.heap.size = w.heap.size + 1) := sP
    have O0 : Hid ((WP.alloc (.cells (u8s [X, c, d % 256, e % 256]).toArray 5)).ownsRow (w.heap.size + 1) 5 1 (.slice (some ⟨w.heap.size + 1, 0, none⟩) 4 4) 4 (u8s [X, c, d % 256, e % 256])) := by
      have := own_new WP [X, c, d % 256, e % 256] (w.heap.size + 1) (by omega) (by simp)
      rw [sP] at this
      exact this
    have KB0 : Hid (Below (w.heap.size + 1) WP (WP.alloc (.cells (u8s [X, c, d % 256, e % 256]).toArray 5))) := (Below.refl _ _).alloc (by omega) _
    clear sP
    refine (refBytes4 f _ f0 (by omega)).mono ?_
    rintro r u0 ⟨g0', rfl, hr, hG⟩
    have O0' : Hid (u0.ownsRow (w.heap.size + 1) 5 1 _ 4 (u8s ([X, c, d % 256, e % 256]))) := own_grown O0.out hG
    have KB0' : Hid (Below (w.heap.size + 1) WP u0) := KB0.out.trans (grown_below hG (by simp) (by have := KB0.out.size; have := SP.out; omega))
    have R0 : Hid (u0.heap[g0']? = some (.cells (u8s (bytes4 f)).toArray 5 (0, 0))) := hr
    have HS0 : Hid (w.heap.size + 1 ≤ u0.heap.size) := by have := KB0'.out.size; have := SP.out; show _ ≤ _; omega
    clear hr hG O0 KB0
    go_wp2_with (
      refine wpList_append_own_at _ rfl _ _ 22 rfl (w.heap.size + 1) 5 t0 (.int .u8 0) 1 1 Try.underlying22 HI.out hz0 hz1 hz2 rfl (by decide) _ 4 (u8s ([X, c, d % 256, e % 256])) rfl O0'.out ⟨g0', 0, none⟩ 4 4 (u8s (bytes4 f)) rfl rfl (cells_row R0.out) (u8s_one _) (by unfold maxLen; omega) (by omega) HS0.out ?_
      intro v1 w1 ho hg _ _
      rw [u8s_app] at ho
      obtain ⟨a1, c1, rfl⟩ := own_slice ho
      have O1 : Hid (w1.ownsRow (w.heap.size + 1) 5 1 (.slice a1 8 c1) 8 (u8s ([X, c, d % 256, e % 256] ++ bytes4 f))) := ho
      have KB1 : Hid (Below (w.heap.size + 1) WP w1) := KB0'.out.trans (grown_below hg (fun k hk => (O0'.out.lt k hk).1) HS0.out)
      have q1 : w1.cell? ⟨w.heap.size, 7, none⟩ = some (.int .u32 gg) := by rw [KB1.out.cell (p := ⟨w.heap.size, 7, none⟩) (Nat.lt_succ_self _)]; exact P7.out
      clear ho hg O0' KB0' R0 HS0)
    clear q1
    refine (refBytes4 gg _ g0 (by omega)).mono ?_
    rintro r u1 ⟨g1', rfl, hr, hG⟩
    have O1' : Hid (u1.ownsRow (w.heap.size + 1) 5 1 _ 8 (u8s ([X, c, d % 256, e % 256] ++ bytes4 f))) := own_grown O1.out hG
    have KB1' : Hid (Below (w.heap.size + 1) WP u1) := KB1.out.trans (grown_below hG (by simp) (by have := KB1.out.size; have := SP.out; omega))
    have R1 : Hid (u1.heap[g1']? = some (.cells (u8s (bytes4 gg)).toArray 5 (0, 0))) := hr
    have HS1 : Hid (w.heap.size + 1 ≤ u1.heap.size) := by have := KB1'.out.size; have := SP.out; show _ ≤ _; omega
    clear hr hG O1 KB1
    go_wp2_with (
      refine wpList_append_own_at _ rfl _ _ 22 rfl (w.heap.size + 1) 5 t0 (.int .u8 0) 1 1 Try.underlying22 HI.out hz0 hz1 hz2 rfl (by decide) _ 8 (u8s ([X, c, d % 256, e % 256] ++ bytes4 f)) rfl O1'.out ⟨g1', 0, none⟩ 4 4 (u8s (bytes4 gg)) rfl rfl (cells_row R1.out) (u8s_one _) (by unfold maxLen; omega) (by omega) HS1.out ?_
      intro v2 w2 ho hg _ _
      rw [u8s_app] at ho
      obtain ⟨a2, c2, rfl⟩ := own_slice ho
      have O2 : Hid (w2.ownsRow (w.heap.size + 1) 5 1 (.slice a2 12 c2) 12 (u8s ([X, c, d % 256, e % 256] ++ bytes4 f ++ bytes4 gg))) := ho
      have KB2 : Hid (Below (w.heap.size + 1) WP w2) := KB1'.out.trans (grown_below hg (fun k hk => (O1'.out.lt k hk).1) HS1.out)
      have q2 : w2.cell? ⟨w.heap.size, 8, none⟩ = some (.int .u32 h) := by rw [KB2.out.cell (p := ⟨w.heap.size, 8, none⟩) (Nat.lt_succ_self _)]; exact P8.out
      clear ho hg O1' KB1' R1 HS1)
    clear q2
    refine (refBytes4 h _ h0 (by omega)).mono ?_
    rintro r u2 ⟨g2', rfl, hr, hG⟩
    have O2' : Hid (u2.ownsRow (w.heap.size + 1) 5 1 _ 12 (u8s ([X, c, d % 256, e % 256] ++ bytes4 f ++ bytes4 gg))) := own_grown O2.out hG
    have KB2' : Hid (Below (w.heap.size + 1) WP u2) := KB2.out.trans (grown_below hG (by simp) (by have := KB2.out.size; have := SP.out; omega))
    have R2 : Hid (u2.heap[g2']? = some (.cells (u8s (bytes4 h)).toArray 5 (0, 0))) := hr
    have HS2 : Hid (w.heap.size + 1 ≤ u2.heap.size) := by have := KB2'.out.size; have := SP.out; show _ ≤ _; omega
    clear hr hG O2 KB2
    go_wp2_with (
      refine wpList_append_own_at _ rfl _ _ 22 rfl (w.heap.size + 1) 5 t0 (.int .u8 0) 1 1 Try.underlying22 HI.out hz0 hz1 hz2 rfl (by decide) _ 12 (u8s ([X, c, d % 256, e % 256] ++ bytes4 f ++ bytes4 gg)) rfl O2'.out ⟨g2', 0, none⟩ 4 4 (u8s (bytes4 h)) rfl rfl (cells_row R2.out) (u8s_one _) (by unfold maxLen; omega) (by omega) HS2.out ?_
      intro v3 w3 ho hg _ _
      rw [u8s_app] at ho
      obtain ⟨a3, c3, rfl⟩ := own_slice ho
      have O3 : Hid (w3.ownsRow (w.heap.size + 1) 5 1 (.slice a3 16 c3) 16 (u8s ([X, c, d % 256, e % 256] ++ bytes4 f ++ bytes4 gg ++ bytes4 h))) := ho
      have KB3 : Hid (Below (w.heap.size + 1) WP w3) := KB2'.out.trans (grown_below hg (fun k hk => (O2'.out.lt k hk).1) HS2.out)
      have q3 : w3.cell? ⟨w.heap.size, 9, none⟩ = some (.int .u64 i) := by rw [KB3.out.cell (p := ⟨w.heap.size, 9, none⟩) (Nat.lt_succ_self _)]; exact P9.out
      clear ho hg O2' KB2' R2 HS2)
    clear q3
    refine (refBytes8 i _ i0 i1).mono ?_
    rintro r u3 ⟨g3', rfl, hr, hG⟩
    have O3' : Hid (u3.ownsRow (w.heap.size + 1) 5 1 _ 16 (u8s ([X, c, d % 256, e % 256] ++ bytes4 f ++ bytes4 gg ++ bytes4 h))) := own_grown O3.out hG
    have KB3' : Hid (Below (w.heap.size + 1) WP u3) := KB3.out.trans (grown_below hG (by simp) (by have := KB3.out.size; have := SP.out; omega))
    have R3 : Hid (u3.heap[g3']? = some (.cells (u8s (bytes8 i)).toArray 5 (0, 0))) := hr
    have HS3 : Hid (w.heap.size + 1 ≤ u3.heap.size) := by have := KB3'.out.size; have := SP.out; show _ ≤ _; omega
    clear hr hG O3 KB3
    go_wp2_with (
      refine wpList_append_own_at _ rfl _ _ 22 rfl (w.heap.size + 1) 5 t0 (.int .u8 0) 1 1 Try.underlying22 HI.out hz0 hz1 hz2 rfl (by decide) _ 16 (u8s ([X, c, d % 256, e % 256] ++ bytes4 f ++ bytes4 gg ++ bytes4 h)) rfl O3'.out ⟨g3', 0, none⟩ 8 8 (u8s (bytes8 i)) rfl rfl (cells_row R3.out) (u8s_one _) (by unfold maxLen; omega) (by omega) HS3.out ?_
      intro v4 w4 ho hg _ _
      rw [u8s_app] at ho
      obtain ⟨a4, c4, rfl⟩ := own_slice ho
      have O4 : Hid (w4.ownsRow (w.heap.size + 1) 5 1 (.slice a4 24 c4) 24 (u8s ([X, c, d % 256, e % 256] ++ bytes4 f ++ bytes4 gg ++ bytes4 h ++ bytes8 i))) := ho
      have KB4 : Hid (Below (w.heap.size + 1) WP w4) := KB3'.out.trans (grown_below hg (fun k hk => (O3'.out.lt k hk).1) HS3.out)
      have q4 : w4.cell? ⟨w.heap.size, 10, none⟩ = some (.int .u64 j) := by rw [KB4.out.cell (p := ⟨w.heap.size, 10, none⟩) (Nat.lt_succ_self _)]; exact P10.out
      clear ho hg O3' KB3' R3 HS3)
    clear q4
    refine (refBytes8 j _ j0 j1).mono ?_
    rintro r u4 ⟨g4', rfl, hr, hG⟩
    have O4' : Hid (u4.ownsRow (w.heap.size + 1) 5 1 _ 24 (u8s ([X, c, d % 256, e % 256] ++ bytes4 f ++ bytes4 gg ++ bytes4 h ++ bytes8 i))) := own_grown O4.out hG
    have KB4' : Hid (Below (w.heap.size + 1) WP u4) := KB4.out.trans (grown_below hG (by simp) (by have := KB4.out.size; have := SP.out; omega))
    have R4 : Hid (u4.heap[g4']? = some (.cells (u8s (bytes8 j)).toArray 5 (0, 0))) := hr
    have HS4 : Hid (w.heap.size + 1 ≤ u4.heap.size) := by have := KB4'.out.size; have := SP.out; show _ ≤ _; omega
    clear hr hG O4 KB4
    go_wp2_with (
      refine wpList_append_own_at _ rfl _ _ 22 rfl (w.heap.size + 1) 5 t0 (.int .u8 0) 1 1 Try.underlying22 HI.out hz0 hz1 hz2 rfl (by decide) _ 24 (u8s ([X, c, d % 256, e % 256] ++ bytes4 f ++ bytes4 gg ++ bytes4 h ++ bytes8 i)) rfl O4'.out ⟨g4', 0, none⟩ 8 8 (u8s (bytes8 j)) rfl rfl (cells_row R4.out) (u8s_one _) (by unfold maxLen; omega) (by omega) HS4.out ?_
      intro v5 w5 ho hg _ _
      rw [u8s_app] at ho
      obtain ⟨a5, c5, rfl⟩ := own_slice ho
      have O5 : Hid (w5.ownsRow (w.heap.size + 1) 5 1 (.slice a5 32 c5) 32 (u8s ([X, c, d % 256, e % 256] ++ bytes4 f ++ bytes4 gg ++ bytes4 h ++ bytes8 i ++ bytes8 j))) := ho
      have KB5 : Hid (Below (w.heap.size + 1) WP w5) := KB4'.out.trans (grown_below hg (fun k hk => (O4'.out.lt k hk).1) HS4.out)
      have q5 : w5.cell? ⟨w.heap.size, 11, none⟩ = some (.int .u64 k) := by rw [KB5.out.cell (p := ⟨w.heap.size, 11, none⟩) (Nat.lt_succ_self _)]; exact P11.out
      clear ho hg O4' KB4' R4 HS4)
    clear q5
    refine (refBytes8 k _ k0 k1).mono ?_
    rintro r u5 ⟨g5', rfl, hr, hG⟩
    have O5' : Hid (u5.ownsRow (w.heap.size + 1) 5 1 _ 32 (u8s ([X, c, d % 256, e % 256] ++ bytes4 f ++ bytes4 gg ++ bytes4 h ++ bytes8 i ++ bytes8 j))) := own_grown O5.out hG
    have KB5' : Hid (Below (w.heap.size + 1) WP u5) := KB5.out.trans (grown_below hG (by simp) (by have := KB5.out.size; have := SP.out; omega))
    have R5 : Hid (u5.heap[g5']? = some (.cells (u8s (bytes8 k)).toArray 5 (0, 0))) := hr
    have HS5 : Hid (w.heap.size + 1 ≤ u5.heap.size) := by have := KB5'.out.size; have := SP.out; show _ ≤ _; omega
    clear hr hG O5 KB5
    go_wp2_with (
      refine wpList_append_own_at _ rfl _ _ 22 rfl (w.heap.size + 1) 5 t0 (.int .u8 0) 1 1 Try.underlying22 HI.out hz0 hz1 hz2 rfl (by decide) _ 32 (u8s ([X, c, d % 256, e % 256] ++ bytes4 f ++ bytes4 gg ++ bytes4 h ++ bytes8 i ++ bytes8 j)) rfl O5'.out ⟨g5', 0, none⟩ 8 8 (u8s (bytes8 k)) rfl rfl (cells_row R5.out) (u8s_one _) (by unfold maxLen; omega) (by omega) HS5.out ?_
      intro v6 w6 ho hg _ _
      rw [u8s_app] at ho
      obtain ⟨a6, c6, rfl⟩ := own_slice ho
      have O6 : Hid (w6.ownsRow (w.heap.size + 1) 5 1 (.slice a6 40 c6) 40 (u8s ([X, c, d % 256, e % 256] ++ bytes4 f ++ bytes4 gg ++ bytes4 h ++ bytes8 i ++ bytes8 j ++ bytes8 k))) := ho
      have KB6 : Hid (Below (w.heap.size + 1) WP w6) := KB5'.out.trans (grown_below hg (fun k hk => (O5'.out.lt k hk).1) HS5.out)
      have q6 : w6.cell? ⟨w.heap.size, 12, none⟩ = some (.int .u64 l) := by rw [KB6.out.cell (p := ⟨w.heap.size, 12, none⟩) (Nat.lt_succ_self _)]; exact P12.out
      clear ho hg O5' KB5' R5 HS5)
    clear q6
    refine (refBytes8 l _ l0 l1).mono ?_
    rintro r u6 ⟨g6', rfl, hr, hG⟩
    have O6' : Hid (u6.ownsRow (w.heap.size + 1) 5 1 _ 40 (u8s ([X, c, d % 256, e % 256] ++ bytes4 f ++ bytes4 gg ++ bytes4 h ++ bytes8 i ++ bytes8 j ++ bytes8 k))) := own_grown O6.out hG
    have KB6' : Hid (Below (w.heap.size + 1) WP u6) := KB6.out.trans (grown_below hG (by simp) (by have := KB6.out.size; have := SP.out; omega))
    have R6 : Hid (u6.heap[g6']? = some (.cells (u8s (bytes8 l)).toArray 5 (0, 0))) := hr
    have HS6 : Hid (w.heap.size + 1 ≤ u6.heap.size) := by have := KB6'.out.size; have := SP.out; show _ ≤ _; omega
    clear hr hG O6 KB6
    go_wp2_with (
      refine wpList_append_own_at _ rfl _ _ 22 rfl (w.heap.size + 1) 5 t0 (.int .u8 0) 1 1 Try.underlying22 HI.out hz0 hz1 hz2 rfl (by decide) _ 40 (u8s ([X, c, d % 256, e % 256] ++ bytes4 f ++ bytes4 gg ++ bytes4 h ++ bytes8 i ++ bytes8 j ++ bytes8 k)) rfl O6'.out ⟨g6', 0, none⟩ 8 8 (u8s (bytes8 l)) rfl rfl (cells_row R6.out) (u8s_one _) (by unfold maxLen; omega) (by omega) HS6.out ?_
      intro v7 w7 ho hg _ _
      rw [u8s_app] at ho
      obtain ⟨a7, c7, rfl⟩ := own_slice ho
      have O7 : Hid (w7.ownsRow (w.heap.size + 1) 5 1 (.slice a7 48 c7) 48 (u8s ([X, c, d % 256, e % 256] ++ bytes4 f ++ bytes4 gg ++ bytes4 h ++ bytes8 i ++ bytes8 j ++ bytes8 k ++ bytes8 l))) := ho
      have KB7 : Hid (Below (w.heap.size + 1) WP w7) := KB6'.out.trans (grown_below hg (fun k hk => (O6'.out.lt k hk).1) HS6.out)
      clear ho hg O6' KB6' R6 HS6)
    go_ret2
    exact ⟨_, rfl, O7.out.mono (Nat.le_succ _), HBW.out.trans (KB7.out.mono (Nat.le_succ _))⟩
end Go.Proofs.Ytjdcnlggpfkopaa
