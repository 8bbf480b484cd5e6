/- Clocks, as they come in. -/
import Derived.Test.YtjdcnlggpfkopaaTickA
import Derived.Lib.SmallJoins
import Derived.ChangeArms
import Derived.Below
import Derived.ChangeOld
import Derived.Deep.Slices
import Derived.WalkKit
import Derived.ProofKit
import Derived.OpenShut
import Derived.ShutString
import Derived.SizedLaws
namespace Go.Proofs.Ytjdcnlggpfkopaa
open Go.ChangeShapes Go.WideShapes Go.ChangeAt Go.RowKit Go.Joins
set_option linter.unusedVariables false

theorem c1_i64 : Try.prog.cellsOf 2 = 1 := by kernel_rfl
theorem c2_tick : Try.prog.cellsOf 104 = 2 := by kernel_rfl
theorem by16 : Try.prog.bytesOf 104 = 16 := by kernel_rfl
theorem list2 {l : List Value} (h : l.length = 2) : ∃ c0 c1, l = [c0, c1] := by
  match l, h with
  | [c0, c1], _ => exact ⟨c0, c1, rfl⟩
set_option maxRecDepth 100000 in
theorem open_tick {H : Type} {enc : TypeId × Value → H} {W : World} {fuel : Nat} {cs : List Value} {x : DataW H × List MemPlace} (h : DataW.trod enc Try.prog W 0 (fun _ => true) true fuel 104 cs = some x) :
    ∃ m f, cs = [.int .i64 m, .int .i64 f] := by
  obtain ⟨y0, y1, n, rfl, hl, h0, h1⟩ := trod_struct2 Try.underlying104 h
  rw [c2_tick] at hl
  obtain ⟨v0, v1, rfl⟩ := list2 hl
  dsimp only at h0 h1
  rw [c1_i64] at h0 h1
  simp only [List.drop_zero, List.drop_succ_cons, List.take_succ_cons, List.take_zero] at h0 h1
  obtain ⟨m, e0, _, _⟩ := DataW.trod_int Try.underlying2 h0
  obtain ⟨f, e1, _, _⟩ := DataW.trod_int Try.underlying2 h1
  simp only [List.cons.injEq, and_true] at e0 e1
  subst e0 e1
  exact ⟨m, f, rfl⟩
set_option maxRecDepth 100000 in
theorem open_ticks {H : Type} {enc : TypeId × Value → H} {W : World} {fuel : Nat} {a : Option Addr} {len cap : Nat} {dd : DataW H} {p : List MemPlace}
    (hf : DataW.trod enc Try.prog W 0 (fun _ => true) true fuel 63 (Value.slice a len cap).cells.toList = some (dd, p)) (hsz : ∀ elems spare, dd = .slice elems spare → elems.length + spare.length ≤ 8796093021952) : ∃ md fa, TicksIn W a len cap md fa := by
  rcases Go.Deep.open_slice Try.underlying63 hf with ⟨hcs, _⟩ | ⟨x, l, c, m, n, D, Pl, hcs, _, hl, hm, hmm, hx, hel⟩
  · simp [Value.cells] at hcs
    obtain ⟨rfl, rfl, rfl⟩ := hcs
    exact ⟨fun _ => 0, fun _ => 0, by omega, Nat.le_refl _, fun h => by omega⟩
  · simp [Value.cells] at hcs
    obtain ⟨rfl, rfl, rfl⟩ := hcs
    simp only [Prod.mk.injEq] at hx
    have hlm : len ≤ m := by rw [hmm]; simp; omega
    have hlen : len ≤ 8796093021952 := by
      have := hsz _ _ hx.1
      simp only [List.length_map, List.length_range] at this
      omega
    rw [c2_tick] at hel
    obtain ⟨b, off, spot⟩ := x
    have hop : ∀ i, i < len → ∃ m f, W.cells? 0 ((⟨b, off, spot⟩ : Addr).add (i * 2)) 2 = some [.int .i64 m, .int .i64 f] := fun i hi => by
      obtain ⟨cs', h1, h2⟩ := hel i (by omega)
      obtain ⟨m, f, rfl⟩ := open_tick h2
      exact ⟨m, f, h1⟩
    let md : Nat → Int := fun i => if h : i < len then (hop i h).choose else 0
    let fa : Nat → Int := fun i => if h : i < len then (hop i h).choose_spec.choose else 0
    have hop2 : ∀ i, i < len → W.cells? 0 ((⟨b, off, spot⟩ : Addr).add (i * 2)) 2 = some [.int .i64 (md i), .int .i64 (fa i)] := fun i hi => by
      have := (hop i hi).choose_spec.choose_spec
      simp only [md, fa, hi, dif_pos]
      exact this
    refine ⟨md, fa, hlen, hl, fun hn => ?_⟩
    clear_value md fa
    have hspot : spot = none := by
      obtain ⟨_, _, hcell⟩ := World.cells?_some (hop2 0 hn)
      have h0 := hcell 0 (by omega)
      rw [Go.Deep.add_add] at h0
      have h0' : W.cell? ((⟨b, off, spot⟩ : Addr).add (0 * 2 + 0)) = some (.int .i64 (md 0)) := by simpa using h0
      simpa [Addr.add] using World.cell?_spot h0'
    subst hspot
    refine ⟨b, off, rfl, fun i hi => ?_⟩
    obtain ⟨_, _, hcell⟩ := World.cells?_some (hop2 i hi)
    have hadd : ∀ j, ((⟨b, off, none⟩ : Addr).add (i * 2)).add j = ⟨b, off + i * 2 + j, none⟩ := fun j => by rw [Go.Deep.add_add]; unfold Addr.add; split <;> simp_all; omega
    have e0 := hcell 0 (by omega)
    have e1 := hcell 1 (by omega)
    rw [hadd] at e0 e1
    exact ⟨by simpa using e0, by simpa using e1⟩
end Go.Proofs.Ytjdcnlggpfkopaa
