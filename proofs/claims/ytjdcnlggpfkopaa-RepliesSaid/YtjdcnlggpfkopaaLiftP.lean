/- A packet, and bytes, as they come in. -/
import Derived.Test.YtjdcnlggpfkopaaPkE
import Derived.Lib.SmallJoins
import Derived.ChangeArms
import Derived.Below
import Derived.ChangeOld
namespace Go.Proofs.Ytjdcnlggpfkopaa
open Go.ChangeShapes Go.WideShapes Go.ChangeAt Go.RowKit Go.Joins
set_option linter.unusedVariables false

theorem c1_int : Try.prog.cellsOf 3 = 1 := by kernel_rfl
theorem c1_u32 : Try.prog.cellsOf 23 = 1 := by kernel_rfl
theorem c1_u64 : Try.prog.cellsOf 24 = 1 := by kernel_rfl
theorem c13 : Try.prog.cellsOf 26 = 13 := by kernel_rfl

theorem agg_field {H : Type} {enc : TypeId × Value → H} {W : World} {base : Nat} {sp : Nat → Bool} {held : Bool} {n : Nat} {t : TypeId} {k : IntKind} {c : Value} {o : Option (DataW H × List MemPlace)} (hu : Try.prog.underlying t = some (.int k))
    (h : DataW.trod enc Try.prog W base sp held n t [c] = o) (ho : o.isSome = true) : ∃ a, c = .int k a ∧ (Lit.int k a).wf = true := by
  obtain ⟨y, hy⟩ := Option.isSome_iff_exists.1 ho
  rw [hy] at h
  obtain ⟨a, e1, _, hw⟩ := DataW.trod_int hu h
  exact ⟨a, by simpa using e1, hw⟩

theorem list13 {l : List Value} (h : l.length = 13) : ∃ c0 c1 c2 c3 c4 c5 c6 c7 c8 c9 c10 c11 c12, l = [c0, c1, c2, c3, c4, c5, c6, c7, c8, c9, c10, c11, c12] := by
  match l, h with
  | [c0, c1, c2, c3, c4, c5, c6, c7, c8, c9, c10, c11, c12], _ => exact ⟨c0, c1, c2, c3, c4, c5, c6, c7, c8, c9, c10, c11, c12, rfl⟩

structure IsPk (v : Value) (a b c d e f g h i j k l m : Int) : Prop where
  eq : v = .agg #[.int .i64 a, .int .i64 b, .int .i64 c, .int .i64 d, .int .i64 e, .int .i64 f, .int .u32 g, .int .u32 h, .int .u32 i, .int .u64 j, .int .u64 k, .int .u64 l, .int .u64 m]
  fits : Fits a b c d e f g h i j k l m
  ba : -9223372036854775808 ≤ a ∧ a ≤ 9223372036854775807
  bb : -9223372036854775808 ≤ b ∧ b ≤ 9223372036854775807
  bc : -9223372036854775808 ≤ c ∧ c ≤ 9223372036854775807
  bd : -9223372036854775808 ≤ d ∧ d ≤ 9223372036854775807
  be : -9223372036854775808 ≤ e ∧ e ≤ 9223372036854775807
  bf : -9223372036854775808 ≤ f ∧ f ≤ 9223372036854775807

set_option maxHeartbeats 1000000 in
set_option maxRecDepth 100000 in
theorem open_packet {H : Type} {enc : TypeId × Value → H} {W : World} {base b0 : Nat} {sp : Nat → Bool} {held : Bool} {r : Reach} {v : Value} {dd : DataW H} {p : List MemPlace}
    (hv : Value.okWide Try.prog W r b0 26 v) (hr : DataW.Trod enc Try.prog W base sp held 26 v dd p) :
    ∃ a b c d e f g h i j k l m, IsPk v a b c d e f g h i j k l m := by
  obtain ⟨cs, rfl, hsz⟩ := okWide_struct Try.underlying26 hv
  obtain ⟨fuel, hf⟩ := hr
  obtain ⟨xs, n, _, _, _, hxl, hall⟩ := DataW.trod_struct Try.underlying26 hf
  obtain ⟨l⟩ := cs
  obtain ⟨c0, c1, c2, c3, c4, c5, c6, c7, c8, c9, c10, c11, c12, rfl⟩ := list13 (l := l) (by simpa [c13] using hsz)
  have hs : ∀ i, i < 13 → (xs[i]?).isSome = true := fun i hi => by
    rw [List.getElem?_eq_getElem (by rw [hxl]; exact hi)]; rfl
  have g0 := hall 0 _ rfl
  have g1 := hall 1 _ rfl
  have g2 := hall 2 _ rfl
  have g3 := hall 3 _ rfl
  have g4 := hall 4 _ rfl
  have g5 := hall 5 _ rfl
  have g6 := hall 6 _ rfl
  have g7 := hall 7 _ rfl
  have g8 := hall 8 _ rfl
  have g9 := hall 9 _ rfl
  have g10 := hall 10 _ rfl
  have g11 := hall 11 _ rfl
  have g12 := hall 12 _ rfl
  simp only [Value.cells] at g0 g1 g2 g3 g4 g5 g6 g7 g8 g9 g10 g11 g12
  obtain ⟨a, rfl, wa⟩ := agg_field Try.underlying3 g0 (hs 0 (by decide))
  obtain ⟨b, rfl, wb⟩ := agg_field Try.underlying3 g1 (hs 1 (by decide))
  obtain ⟨c, rfl, wc⟩ := agg_field Try.underlying3 g2 (hs 2 (by decide))
  obtain ⟨d, rfl, wd⟩ := agg_field Try.underlying3 g3 (hs 3 (by decide))
  obtain ⟨e, rfl, we⟩ := agg_field Try.underlying3 g4 (hs 4 (by decide))
  obtain ⟨f, rfl, wf⟩ := agg_field Try.underlying3 g5 (hs 5 (by decide))
  obtain ⟨g, rfl, wg⟩ := agg_field Try.underlying23 g6 (hs 6 (by decide))
  obtain ⟨h, rfl, wh⟩ := agg_field Try.underlying23 g7 (hs 7 (by decide))
  obtain ⟨i, rfl, wi⟩ := agg_field Try.underlying23 g8 (hs 8 (by decide))
  obtain ⟨j, rfl, wj⟩ := agg_field Try.underlying24 g9 (hs 9 (by decide))
  obtain ⟨k, rfl, wk⟩ := agg_field Try.underlying24 g10 (hs 10 (by decide))
  obtain ⟨l, rfl, wl⟩ := agg_field Try.underlying24 g11 (hs 11 (by decide))
  obtain ⟨m, rfl, wm⟩ := agg_field Try.underlying24 g12 (hs 12 (by decide))
  exact ⟨a, b, c, d, e, f, g, h, i, j, k, l, m, rfl, ⟨bounds_u32 wg, bounds_u32 wh, bounds_u32 wi, bounds_u64 wj, bounds_u64 wk, bounds_u64 wl, bounds_u64 wm⟩, bounds_i64 wa, bounds_i64 wb, bounds_i64 wc, bounds_i64 wd, bounds_i64 we, bounds_i64 wf⟩

theorem open_bytes {H : Type} {enc : TypeId × Value → H} {W : World} {fuel : Nat} {a : Option Addr} {len cap : Nat} {dd : DataW H} {p : List MemPlace}
    (hf : DataW.trod enc Try.prog W 0 (fun _ => true) true fuel 22 (Value.slice a len cap).cells.toList = some (dd, p)) : ∃ z, Bytes48 W a len cap z := by
  rcases open_ints Try.underlying22 Try.underlying5 (by kernel_rfl) hf with ⟨hcs, _⟩ | ⟨x, l, c, zs, hcs, _, hl, hm, hz, _, hcell, hwz⟩
  · simp [Value.cells] at hcs
    obtain ⟨rfl, rfl, rfl⟩ := hcs
    exact ⟨fun _ => 0, by decide, fun _ => by decide, fun h => by cases h⟩
  · simp [Value.cells] at hcs
    obtain ⟨rfl, rfl, rfl⟩ := hcs
    have hz' : zs.length = cap := by simpa using hz
    unfold maxLen at hm
    refine ⟨fun j => zs.getD j 0, by omega, fun j => ?_, fun h48 => ?_⟩
    · rw [List.getD_eq_getElem?_getD]
      cases hx : zs[j]? with
      | none => simp
      | some y => exact bounds_u8 (hwz y (List.mem_of_getElem? hx))
    · obtain ⟨b, off, spot⟩ := x
      have h0 := hcell 0 (by omega)
      have hspot : spot = none := by simpa [Addr.add] using World.cell?_spot h0
      subst hspot
      refine ⟨b, off, rfl, by omega, fun j hj => ?_⟩
      have hj' := hcell j (by omega)
      have hadd : (⟨b, off, none⟩ : Addr).add j = ⟨b, off + j, none⟩ := by unfold Addr.add; split <;> simp_all
      rw [hadd] at hj'
      exact hj'
end Go.Proofs.Ytjdcnlggpfkopaa
