/- The law Peers, where what it reads is small. -/
import Derived.Test.YtjdcnlggpfkopaaPeersA
import Derived.Test.YtjdcnlggpfkopaaParses
import Derived.Deep.Slices
import Derived.WalkKit
import Derived.ProofKit
import Derived.OpenShut
import Derived.JoinedCond
namespace Go.Proofs.Ytjdcnlggpfkopaa
open Go.ChangeShapes Go.WideShapes Go.ChangeAt Go.RowKit Go.Joins
set_option linter.unusedVariables false

theorem bulk_pos {H : Type} (d : DataW H) : 1 ≤ Rows.uptoBulk d := by
  cases d with
  | lit l => cases l <;> simp [Rows.uptoBulk]
  | _ => simp [Rows.uptoBulk]
theorem bulk_mem {H : Type} {d : DataW H} {l : List (DataW H)} (h : d ∈ l) : Rows.uptoBulk d ≤ Rows.uptoBulkAll l := by
  induction l with
  | nil => cases h
  | cons x r ih =>
    rw [Rows.uptoBulkAll]
    rcases List.mem_cons.1 h with e | e
    · subst e; omega
    · have := ih e; omega
theorem bulk_len {H : Type} (l : List (DataW H)) : l.length ≤ Rows.uptoBulkAll l := by
  induction l with
  | nil => exact Nat.zero_le _
  | cons x r ih => have := bulk_pos x; rw [Rows.uptoBulkAll, List.length_cons]; omega
theorem c1_bytes : Try.prog.cellsOf 22 = 1 := by kernel_rfl
theorem c4_op : Try.prog.cellsOf 60 = 4 := by kernel_rfl
theorem list4 {l : List Value} (h : l.length = 4) : ∃ c0 c1 c2 c3, l = [c0, c1, c2, c3] := by
  match l, h with
  | [c0, c1, c2, c3], _ => exact ⟨c0, c1, c2, c3, rfl⟩
set_option maxHeartbeats 1000000 in
set_option maxRecDepth 100000 in
/-- A step of a script, as it comes in. -/
theorem open_op {H : Type} {enc : TypeId × Value → H} {W : World} {fuel : Nat} {cs : List Value} {x : DataW H × List MemPlace} (h : DataW.trod enc Try.prog W 0 (fun _ => true) true fuel 60 cs = some x) (hb : Rows.uptoBulk x.1 ≤ 1048576) :
    ∃ kd pe u ob nb cb zb, cs = [.int .i64 kd, .int .i64 pe, .int .u64 u, .slice ob nb cb] ∧ (0 ≤ u ∧ u ≤ 18446744073709551615) ∧ Bytes W ob nb cb zb := by
  obtain ⟨y0, y1, y2, y3, n, rfl, hl, h0, h1, h2, h3⟩ := trod_struct4 Try.underlying60 h
  rw [c4_op] at hl
  obtain ⟨v0, v1, v2, v3, rfl⟩ := list4 hl
  dsimp only at h0 h1 h2 h3
  rw [c1_int] at h0 h1
  rw [c1_u64] at h2
  rw [c1_bytes] at h3
  simp only [List.drop_zero, List.drop_succ_cons, List.take_succ_cons, List.take_zero] at h0 h1 h2 h3
  obtain ⟨kd, e0, _, _⟩ := DataW.trod_int Try.underlying3 h0
  obtain ⟨pe, e1, _, _⟩ := DataW.trod_int Try.underlying3 h1
  obtain ⟨u, e2, _, hw⟩ := DataW.trod_int Try.underlying24 h2
  obtain ⟨ob, nb, cb, e3⟩ := slice_form Try.underlying22 h3
  simp only [List.cons.injEq, and_true] at e0 e1 e2 e3
  subst e0 e1 e2 e3
  obtain ⟨d3, p3⟩ := y3
  obtain ⟨zb, hB⟩ := open_all (a := ob) (len := nb) (cap := cb) (dd := d3) (p := p3) h3 (fun elems spare hd => by
    subst hd
    have h1 := bulk_len elems
    have h2 := bulk_len spare
    simp only [Rows.uptoBulk, Rows.uptoBulkAll] at hb
    omega)
  exact ⟨kd, pe, u, ob, nb, cb, zb, rfl, by simpa [Lit.wf, IntKind.min, IntKind.max, IntKind.signed, IntKind.bits] using hw, hB⟩
set_option maxRecDepth 100000 in
/-- The script, as it comes in. -/
theorem open_script {H : Type} {enc : TypeId × Value → H} {W : World} {fuel : Nat} {a : Option Addr} {len cap : Nat} {dd : DataW H} {p : List MemPlace}
    (hf : DataW.trod enc Try.prog W 0 (fun _ => true) true fuel 49 (Value.slice a len cap).cells.toList = some (dd, p)) (hb : Rows.uptoBulk dd ≤ 1048576) : Script W a len cap := by
  rcases Go.Deep.open_slice Try.underlying49 hf with ⟨hcs, _⟩ | ⟨x, l, c, m, n, D, Pl, hcs, _, hl, hm, hmm, hx, hel⟩
  · simp [Value.cells] at hcs
    obtain ⟨rfl, rfl, rfl⟩ := hcs
    exact ⟨Nat.le_refl _, by omega, fun h => by omega⟩
  · simp [Value.cells] at hcs
    obtain ⟨rfl, rfl, rfl⟩ := hcs
    simp only [Prod.mk.injEq] at hx
    have hlm : len ≤ m := by rw [hmm]; simp; omega
    have hbk : Rows.uptoBulkAll ((List.range len).map D) ≤ 1048576 := by rw [hx.1, Rows.uptoBulk] at hb; omega
    have hlen : len ≤ 1048576 := by have := bulk_len ((List.range len).map D); simp only [List.length_map, List.length_range] at this; omega
    rw [c4_op] at hel
    refine ⟨hl, by omega, fun hn => ?_⟩
    obtain ⟨b, off, spot⟩ := x
    have hop : ∀ i, i < len → ∃ kd pe u ob nb cb zb, W.cells? 0 ((⟨b, off, spot⟩ : Addr).add (i * 4)) 4 = some [.int .i64 kd, .int .i64 pe, .int .u64 u, .slice ob nb cb] ∧ (0 ≤ u ∧ u ≤ 18446744073709551615) ∧ Bytes W ob nb cb zb := fun i hi => by
      obtain ⟨cs', h1, h2⟩ := hel i (by omega)
      have hDi : Rows.uptoBulk (D i) ≤ 1048576 := by have := bulk_mem (l := (List.range len).map D) (List.mem_map.2 ⟨i, List.mem_range.2 hi, rfl⟩); omega
      obtain ⟨kd, pe, u, ob, nb, cb, zb, rfl, hu, hB⟩ := open_op h2 hDi
      exact ⟨kd, pe, u, ob, nb, cb, zb, h1, hu, hB⟩
    have hspot : spot = none ∧ b < W.heap.size := by
      obtain ⟨kd, pe, u, ob, nb, cb, zb, h1, _⟩ := hop 0 hn
      obtain ⟨_, _, hcell⟩ := World.cells?_some h1
      have h0 := hcell 0 (by omega)
      rw [Go.Deep.add_add] at h0
      have h0' : W.cell? ((⟨b, off, spot⟩ : Addr).add (0 * 4 + 0)) = some (.int .i64 kd) := by simpa using h0
      exact ⟨by simpa [Addr.add] using World.cell?_spot h0', World.block_lt_of_cell? W _ h0'⟩
    obtain ⟨rfl, hbl⟩ := hspot
    refine ⟨b, off, rfl, hbl, fun i hi => ?_⟩
    obtain ⟨kd, pe, u, ob, nb, cb, zb, h1, hu, hB⟩ := hop i hi
    obtain ⟨_, _, hcell⟩ := World.cells?_some h1
    have hadd : ∀ j, ((⟨b, off, none⟩ : Addr).add (i * 4)).add j = ⟨b, off + i * 4 + j, none⟩ := fun j => by rw [Go.Deep.add_add]; unfold Addr.add; split <;> simp_all; omega
    have e0 := hcell 0 (by omega)
    have e1 := hcell 1 (by omega)
    have e2 := hcell 2 (by omega)
    have e3 := hcell 3 (by omega)
    rw [hadd] at e0 e1 e2 e3
    exact ⟨kd, pe, u, ob, nb, cb, zb, by simpa using e0, by simpa using e1, by simpa using e2, by simpa using e3, hu, hB⟩
end Go.Proofs.Ytjdcnlggpfkopaa
namespace Go.Proofs.Ytjdcnlggpfkopaa.peers
open Go.ChangeShapes Go.WideShapes Go.ChangeAt Go.RowKit
set_option linter.unusedVariables false

theorem own : ownKnob Try.prog.godebug = none := by kernel_rfl
theorem laidOut : laidOutB Try.prog = true := by kernel_rfl

set_option maxRecDepth 100000 in
theorem lifted (os : Os) (started : os.Started) (H : Type) (enc : TypeId × Value → H) (F : Stop.Interp) :
    ReturnsInHanded {} Try.checked os 6 .any ((Rows.OpenSpec.upto Rows.peersSpec).pre6 enc Try.prog Try.f6 Rows.peersUptoRow.domain false) (((Rows.OpenSpec.upto Rows.peersSpec).at F).post enc Try.prog Try.f6 false true false false) := by
  refine returnsInHanded_of_cond (C := Try.checked) (s := Rows.OpenSpec.upto Rows.peersSpec) (k := Rows.uptoSmall) rfl own started (by kernel_rfl) Try.func6
    (OpenSpec.witness (enc := enc) (C := Try.checked) (s := Rows.OpenSpec.upto Rows.peersSpec) (k := Rows.uptoSmall) rfl false ⟨#[], #[.slice none 0 0], []⟩ 8 (by kernel_rfl) (by kernel_rfl) (by kernel_rfl)
      (x := ([.nil], [], [])) (by kernel_rfl) rfl (by kernel_rfl)) ?_
  intro W base args ds gs before hval0 hW _ hk _
  have hval : ∀ (j : Nat) t v, Try.f6.params[j]? = some t → args[j]? = some v → Value.okWide Try.prog W .any base t v := hval0
  have hW' := hW
  obtain ⟨p, q, hA0, hV, rfl, hfz, hnd⟩ := hW
  have hA : DataW.TrodAll enc Try.prog W 0 (fun _ => true) true Try.f6.params.toList args.toList ds p := hA0
  rw [Try.params6] at hA hval
  obtain ⟨v0, vs0, d0, ds0, p0, q0, hargs, rfl, rfl, h0, r0⟩ := trodAll_cons hA
  obtain ⟨rfl, rfl, rfl⟩ := trodAll_nil r0
  obtain rfl : args = #[v0] := by cases args; simp_all
  obtain ⟨rfl, rfl⟩ := trodVars_none hV
  have k0 := h0
  have lt0 : ∀ x ∈ p0, x.block < W.heap.size := by obtain ⟨m, hm⟩ := k0; exact DataW.trod_lt m _ _ _ hm
  obtain ⟨o, len, cap, rfl⟩ := okWide_slice Try.underlying49 (hval 0 49 v0 rfl rfl)
  have hsc : Script W o len cap := by
    obtain ⟨fuel, hf⟩ := h0
    refine open_script hf ?_
    have h := of_decide_eq_true hk
    simp only [List.append_nil, Rows.uptoBulkAll] at h
    omega
  clear hA0 hval0
  refine (peers_walk o len cap W hsc).mono fun r W' ⟨he, bel⟩ => ?_
  subst he
  exact ⟨_, rfl, _, _, _, [], _, [], hW', trodAll_mk1 (shut_bool Try.underlying4 _), (trodAll_cons_mk (Below.trod laidOut (by kernel_rfl) (of_decide_eq_true (by kernel_rfl)) k0 bel lt0) trodAll_mk0), rfl, bel.frame _, fun h => by cases h⟩

theorem over : Rows.peersUptoRow.holds Try.pinned (Rows.OpenSpec.upto Rows.peersSpec) :=
  OpenClaim.holds_of_cond 6 Try.f6 rfl rfl rfl rfl rfl rfl rfl ⟨rfl, rfl, rfl, rfl, rfl⟩ rfl rfl rfl rfl rfl (by kernel_rfl) Try.func6 (by kernel_rfl)
    (of_decide_eq_true (by kernel_rfl)) (by unfold Func.isWrapper; first | (rw [if_pos (by decide +kernel)]; kernel_rfl) | (rw [if_neg (by decide +kernel)]; exact ⟨rfl, rfl⟩))
    (fun os started H enc _ F => lifted os started H enc F)
end Go.Proofs.Ytjdcnlggpfkopaa.peers
namespace Go.Proofs.Ytjdcnlggpfkopaa
theorem peers_upto_holds : Rows.PeersUptoSaid := peers.over
#print axioms peers_upto_holds
end Go.Proofs.Ytjdcnlggpfkopaa
