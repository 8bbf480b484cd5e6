/- A step of a script. -/
import Derived.Test.YtjdcnlggpfkopaaPairA
namespace Go.Proofs.Ytjdcnlggpfkopaa
open Go.ChangeShapes Go.WideShapes Go.ChangeAt Go.RowKit
set_option linter.unusedVariables false

/-- Neither a book, nor its lists, nor bytes. -/
def Odd (ty : TypeId) : Prop := ty ≠ 32 ∧ ty ≠ 22 ∧ ty ≠ 5
/-- What lies below W0 stays, and all that is odd, but for the blocks of S. -/
structure Frame (w w' : World) (W0 : Nat) (S : Nat → Prop) : Prop where
  bel : Below W0 w w'
  others : ∀ k cs ty fr, w.heap[k]? = some (.cells cs ty fr) → Odd ty → ¬ S k → w'.heap[k]? = w.heap[k]?
theorem Frame.of_below {w w' : World} {W0 : Nat} {S : Nat → Prop} (h : Below w.heap.size w w') (hW : W0 ≤ w.heap.size) : Frame w w' W0 S :=
  ⟨h.mono hW, fun k cs ty fr hk _ _ => h.block k (Array.getElem?_eq_some_iff.1 hk).1⟩
theorem Frame.of_moved {w w' : World} {W0 : Nat} {S : Nat → Prop} (h : Moved w w' S) (hW : W0 ≤ w.heap.size) (hs : ∀ k, S k → W0 ≤ k) : Frame w w' W0 S :=
  ⟨⟨h.os, h.tape, h.output, h.size, fun k hk => h.block k (by omega) (fun hS => by have := hs k hS; omega)⟩, fun k cs ty fr hk _ hS => h.block k (Array.getElem?_eq_some_iff.1 hk).1 hS⟩
theorem Frame.trans {w w1 w2 : World} {W0 : Nat} {S : Nat → Prop} (h : Frame w w1 W0 S) (h' : Frame w1 w2 W0 S) : Frame w w2 W0 S :=
  ⟨h.bel.trans h'.bel, fun k cs ty fr hk ho hs => by rw [h'.others k cs ty fr (by rw [h.others k cs ty fr hk ho hs]; exact hk) ho hs]; exact h.others k cs ty fr hk ho hs⟩
theorem Frame.mono {w w1 : World} {W0 : Nat} {S S' : Nat → Prop} (h : Frame w w1 W0 S) (hs : ∀ k, S k → S' k) : Frame w w1 W0 S' :=
  ⟨h.bel, fun k cs ty fr hk ho hn => h.others k cs ty fr hk ho (fun h => hn (hs k h))⟩
theorem Booked.now {w w' : World} {bo m : Nat} (h : Booked w bo w.heap.size m) (hb : Below w.heap.size w w') : Booked w' bo w'.heap.size m := (h.below hb).more hb.size (Nat.le_refl _)
/-- Books stay where only odd blocks are turned. -/
theorem Booked.moved {w w' : World} {bo m : Nat} {S : Nat → Prop} (h : Booked w bo w.heap.size m) (hm : Moved w w' S) (hs : ∀ k cs ty fr, S k → w.heap[k]? = some (.cells cs ty fr) → Odd ty) : Booked w' bo w'.heap.size m := by
  obtain ⟨bv, vs, h1, h2, h3, h4⟩ := h.row
  have key : ∀ (k : Nat) (cs : Array Value) (ty : TypeId) (fr : Nat × Nat), w.heap[k]? = some (.cells cs ty fr) → ¬ Odd ty → w'.heap[k]? = some (.cells cs ty fr) := fun k cs ty fr hk ho => by rw [hm.block k (Array.getElem?_eq_some_iff.1 hk).1 (fun hS => ho (hs k cs ty fr hS hk))]; exact hk
  refine ⟨h.hm, by have := h.lt; have := hm.size; omega, Nat.le_refl _, bv, vs, key _ _ _ _ h1 (fun ho => ho.1 rfl), owns_moved h2 hm ?_, fun k hk => by have := h3 k hk; have := hm.size; omega, fun i v hi => (h4 i v hi).keep hm.size fun b cur hbB hc => key _ _ _ _ hc (fun ho => ho.2.2 rfl)⟩
  intro k hk hS
  rcases h2.2 with ⟨rfl, _⟩ | ⟨g, cap, cur, rfl, _, hr, _⟩
  · cases hk
  · simp [Value.ownBlock] at hk
    subst hk
    exact (hs g _ _ _ hS hr).2.1 rfl
theorem Twin.own {w : World} {bp br N : Nat} {ow : Option Nat} (h : Twin w bp br N ow) : (∀ k, ow = some k → k < w.heap.size) ∧ bp < w.heap.size ∧ br < w.heap.size ∧ ∀ b cs ty fr, w.heap[b]? = some (.cells cs ty fr) → ty ≠ 44 → ∀ k, ow = some k → k ≠ b := by
  obtain ⟨wt, t, sm, a, cc, base, ss, hp, hr, ho, hb, hl, hs, ht, rfl⟩ := h.ex
  exact ⟨fun k hk => (ho.lt k hk).2, (Array.getElem?_eq_some_iff.1 hp).1, (Array.getElem?_eq_some_iff.1 hr).1, fun b cs ty fr hbk hty => owns_ne ho hbk hty⟩
theorem Twin.odd {w : World} {bp br N : Nat} {ow : Option Nat} (h : Twin w bp br N ow) : ∀ k cs ty fr, S3 bp br ow k → w.heap[k]? = some (.cells cs ty fr) → Odd ty := by
  obtain ⟨wt, t, sm, a, cc, base, ss, hp, hr, ho, hb, hl, hs, ht, rfl⟩ := h.ex
  intro k cs ty fr hS hk
  rcases hS with rfl | rfl | hS
  · rw [hp] at hk; cases hk; exact ⟨by decide, by decide, by decide⟩
  · rw [hr] at hk; cases hk; exact ⟨by decide, by decide, by decide⟩
  · rcases ho.2 with ⟨h1, _⟩ | ⟨g, cap, cur, h1, _, hr', _⟩
    · cases h1; cases hS
    · cases h1
      simp [Value.ownBlock] at hS
      subst hS
      rw [hr'] at hk; cases hk; exact ⟨by decide, by decide, by decide⟩
theorem LastAt.below {w w' : World} {a : Option Addr} {N c : Nat} {sm : Nat → Int} (h : LastAt w a N c sm) (hb : Below w.heap.size w w') : LastAt w' a N c sm := by
  obtain ⟨h1, h2, h3⟩ := h
  refine ⟨h1, h2, fun hp => ?_⟩
  obtain ⟨g, hg, hl, hc⟩ := h3 hp
  exact ⟨g, hg, Nat.lt_of_lt_of_le hl hb.size, fun j hj => by rw [hb.cell (p := ⟨g, _, none⟩) hl, hb.cell (p := ⟨g, _, none⟩) hl]; exact hc j hj⟩
set_option maxRecDepth 100000 in
set_option maxHeartbeats 4000000 in
theorem play_best (bx bp br bo N : Nat) (ow : Option Nat) (pe u : Int) (ob : Option Addr) (nb cb : Nat) (w : World) (hX : PairAt w bx bp br bo) (hT : Twin w bp br N ow) (hN : N ≤ 10000000) :
    Calls Try.prog 24 #[.pointer (some ⟨bx, 0, none⟩), .agg #[.int .i64 4, .int .i64 pe, .int .u64 u, .slice ob nb cb]] w fun e w' => e = .returned (.bool true) ∧ Below w.heap.size w w' := by
  have hbx : bx < w.heap.size := (Array.getElem?_eq_some_iff.1 hX).1
  have c0 : w.cell? ⟨bx, 0, none⟩ = some (.pointer (some ⟨bp, 0, none⟩)) := by rw [cell_of_row w bx 0 _ _ _ hX]; rfl
  have HX := hid_of hX
  have HT := hid_of hT
  clear hX hT
  go_enter Try.func24, Try.ntmps24
  go_wp2_with fail
  obtain ⟨wt, t, sm, a, cc, base, ss, hp, hr, hO, hbase, hl, hS, ht, hown⟩ := HT.out.ex
  have BA : Below w.heap.size w (w.alloc (.cells #[.int .i64 4, .int .i64 pe, .int .u64 u, .slice ob nb cb] 60)) := (Below.refl _ _).alloc (Nat.le_refl _) _
  have HRr := hid_of hr
  have HLa := hid_of (last_of hO hl hS hN)
  have hpf := best_pos sm (min N 8) (by omega)
  refine (best_all bp wt t sm (min N 8) _ (hp.below BA) (by omega)).mono ?_
  rintro e w1 ⟨rfl, hb1⟩
  have B1 : Hid (Below w.heap.size w w1) := BA.trans (hb1.mono (by simp))
  have l1 : w.heap.size < w1.heap.size := by have := hb1.size; simp at this; omega
  have c1 : w1.cell? ⟨bx, 1, none⟩ = some (.pointer (some ⟨br, 0, none⟩)) := by rw [B1.out.cell (p := ⟨bx, 1, none⟩) hbx, cell_of_row w bx 1 _ _ _ HX.out]; rfl
  have lx1 : bx < w1.heap.size := by omega
  clear hb1 BA hp hr hO hbase hS ht hown c0
  generalize hBO : bestOf sm (min N 8) = bb at hpf
  obtain ⟨⟨x, y⟩, F, te⟩ := bb
  simp only at hpf ⊢
  have hof := order_self hpf
  have HBO := hid_of hBO
  clear hBO hpf
  go_wp2_with fail
  have BC : Below w1.heap.size w1 (w1.alloc (.cells #[.int .i64 x, .int .i64 y] 44)) := (Below.refl _ _).alloc (Nat.le_refl _) _
  have B2 : Below w.heap.size w (w1.alloc (.cells #[.int .i64 x, .int .i64 y] 44)) := B1.out.trans (BC.mono (by omega))
  refine (refBest_any br wt t a N cc sm _ (HRr.out.below B2) (HLa.out.below B2)).mono ?_
  rw [HBO.out]
  rintro e w2 ⟨rfl, hb2⟩
  have BB : Hid (Below w.heap.size w w2) := B2.trans (hb2.mono (by simp; omega))
  have x0 : w2.cell? ⟨w1.heap.size, 0, none⟩ = some (.int .i64 x) := by rw [hb2.cell (p := ⟨w1.heap.size, 0, none⟩) (by simp)]; simp [go_sem]
  have x1 : w2.cell? ⟨w1.heap.size, 1, none⟩ = some (.int .i64 y) := by rw [hb2.cell (p := ⟨w1.heap.size, 1, none⟩) (by simp)]; simp [go_sem]
  have l2 : w1.heap.size < w2.heap.size := by have := hb2.size; simp at this; omega
  clear hb2 B2 BC c1 HRr HLa
  have hof' : FloatKind.f64.format.order F F = some Ordering.eq := hof
  go_wp2
  go_ret
  exact ⟨rfl, BB.out.alloc (by omega) _⟩
end Go.Proofs.Ytjdcnlggpfkopaa
