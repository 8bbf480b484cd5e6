/- Agreed: lists of clocks that grow beside one another; what the far clock and the two clocks give. -/
import Derived.Test.YtjdcnlggpfkopabDoorAgrM
import Derived.Test.YtjdcnlggpfkopabDoorPick
import Derived.Test.YtjdcnlggpfkopabDoorSelD
import Derived.Maps.AppendAt
import Derived.OwnWalk
namespace Go.Proofs.YtjdcnlggpfkopabDoor
open Go.ChangeShapes Go.WideShapes Go.ChangeAt Go.RowKit
set_option linter.unusedVariables false

def pairT (md fa : Nat → Int) (n : Nat) : List Value := (List.range (n * 2)).map fun i => Value.int .i64 (if i % 2 = 0 then md (i / 2) else fa (i / 2))
theorem pairT_len (md fa : Nat → Int) (n : Nat) : (pairT md fa n).length = n * 2 := by simp [pairT]
theorem pairT_at (md fa : Nat → Int) (n i : Nat) (h : i < n * 2) : (pairT md fa n)[i]? = some (.int .i64 (if i % 2 = 0 then md (i / 2) else fa (i / 2))) := by simp [pairT, h]
theorem pairT_snoc (md fa : Nat → Int) (n : Nat) : pairT md fa n ++ [.int .i64 (md n), .int .i64 (fa n)] = pairT md fa (n + 1) := by
  unfold pairT
  rw [show (n + 1) * 2 = n * 2 + 1 + 1 by omega, List.range_succ, List.range_succ]
  simp only [List.map_append, List.map_cons, List.map_nil, List.append_assoc, List.cons_append, List.nil_append]
  rw [if_pos (by omega), if_neg (by omega), show n * 2 / 2 = n by omega, show (n * 2 + 1) / 2 = n by omega]
theorem slice_of2 {w : World} {B : Nat} {e : TypeId} {v : Value} {n : Nat} {xs : List Value} (h : w.ownsRow B e 2 v n xs) : ∃ a c, v = .slice a n c := by
  rcases h.2 with ⟨h1, h2⟩ | ⟨g, cap, cur, h1, _⟩
  · exact ⟨none, 0, by rw [h1, h2]⟩
  · exact ⟨_, cap, h1⟩
theorem own_ticks {w : World} {B : Nat} {v : Value} {n : Nat} {md fa : Nat → Int} (h : w.ownsRow B 27 2 v n (pairT md fa n)) (h0 : 0 < n) : ∃ g c, v = .slice (some ⟨g, 0, none⟩) n c ∧ TicksAt w g 0 n md fa := by
  rcases h.2 with ⟨h1, h2⟩ | ⟨g, cap, cur, h1, h2, h3, _⟩
  · omega
  · refine ⟨g, cap, h1, fun j hj => ?_⟩
    have hadd : ∀ i, (⟨g, 0, none⟩ : Addr).add i = ⟨g, i, none⟩ := fun i => by unfold Addr.add; split <;> simp_all
    have e1 := h.cells (g := g) (by rw [h1]; rfl) (j * 2) _ (pairT_at md fa n (j * 2) (by omega))
    have e2 := h.cells (g := g) (by rw [h1]; rfl) (j * 2 + 1) _ (pairT_at md fa n (j * 2 + 1) (by omega))
    rw [hadd] at e1 e2
    rw [if_pos (by omega), show j * 2 / 2 = j by omega] at e1
    rw [if_neg (by omega), show (j * 2 + 1) / 2 = j by omega] at e2
    rw [Nat.zero_add]
    exact ⟨e1, e2⟩
/-- Two lists beside one another. -/
structure Two (w wr : World) (lv : Value) (kl : Nat) (xl : List Value) (mv : Value) (km : Nat) (xm : List Value) : Prop where
  ol : wr.ownsRow w.heap.size 27 2 lv kl xl
  om : wr.ownsRow w.heap.size 27 2 mv km xm
  dis : ∀ q, lv.ownBlock = some q → mv.ownBlock ≠ some q
  bel : Below w.heap.size w wr
theorem Two.swap {w wr : World} {lv : Value} {kl : Nat} {xl : List Value} {mv : Value} {km : Nat} {xm : List Value} (h : Two w wr lv kl xl mv km xm) : Two w wr mv km xm lv kl xl :=
  ⟨h.om, h.ol, fun q h1 h2 => h.dis q h2 h1, h.bel⟩
theorem Two.alloc {w wr : World} {lv : Value} {kl : Nat} {xl : List Value} {mv : Value} {km : Nat} {xm : List Value} (h : Two w wr lv kl xl mv km xm) (o : Obj) : Two w (wr.alloc o) lv kl xl mv km xm :=
  ⟨h.ol.alloc o, h.om.alloc o, h.dis, h.bel.alloc h.bel.size o⟩
theorem Two.step {w wr w4 : World} {lv v4 : Value} {kl k4 : Nat} {xl x4 : List Value} {mv : Value} {km : Nat} {xm : List Value} (h : Two w wr lv kl xl mv km xm) (ho : w4.ownsRow w.heap.size 27 2 v4 k4 x4) (hg : wr.grownBy w4 lv.ownBlock) (hat : v4.ownBlock = lv.ownBlock ∨ v4.ownBlock = some wr.heap.size) : Two w w4 v4 k4 x4 mv km xm := by
  have hm : mv.ownBlock = none ∨ mv.ownBlock ≠ lv.ownBlock := by
    cases h1 : mv.ownBlock with
    | none => exact Or.inl rfl
    | some q => exact Or.inr fun h2 => h.dis q h2.symm h1
  refine ⟨ho, h.om.kept hg hm, fun q h1 h2 => ?_, below_grown h.bel h.bel.size hg (fun k hk => (h.ol.lt k hk).1)⟩
  rcases hat with e | e
  · rw [e] at h1; exact h.dis q h1 h2
  · rw [e] at h1
    have := (h.om.lt q h2).2
    cases h1
    omega
theorem own_conv {w : World} {B : Nat} {v : Value} {k : Nat} {md fa : Nat → Int} {x y : Int} (h : w.ownsRow B 27 2 v (k + 1) (pairT md fa k ++ [.int .i64 x, .int .i64 y])) (hx : x = md k) (hy : y = fa k) : w.ownsRow B 27 2 v (k + 1) (pairT md fa (k + 1)) := by
  rw [hx, hy, pairT_snoc] at h; exact h
theorem news2 (w : World) (x y : Value) (t : TypeId) : ∀ j u, [x, y][j]? = some u → (w.alloc (.cells #[x, y] t)).cell? ((⟨w.heap.size, 0, none⟩ : Addr).add j) = some u := by
  intro j u hu
  have hadd : (⟨w.heap.size, 0, none⟩ : Addr).add j = ⟨w.heap.size, j, none⟩ := by unfold Addr.add; split <;> simp_all
  rw [hadd, cell_of_row _ w.heap.size j _ _ _ (heap_alloc_new w _)]
  simpa using hu
theorem tickinfo : (Tryd.prog.info? 27).map (fun i => (i.zero, i.size, i.bytes)) = some (some (.agg #[.int .i64 0, .int .i64 0]), 2, 16) := by kernel_rfl
def absI (e : Int) : Int := if e < -e then -e else e
def errI (er : Nat → Int) (j : Nat) : Int := pickOf (er j) 1000000 - 500000
def mdL (t : Int) (er : Nat → Int) (j : Nat) : Int := t + errI er j
def faL (er : Nat → Int) (j : Nat) : Int := absI (errI er j) + pickOf (er j) 77
def faM (er : Nat → Int) (j : Nat) : Int := pickOf (er j) 77
/-- Clocks that all allow t. -/
structure Near (t : Int) (md fa fm : Nat → Int) (n : Nat) : Prop where
  all : AllAllow md fa n t
  good : ∀ j, j < n → Tame md fa j
  good2 : ∀ j, j < n → Tame (fun _ => t) fm j
theorem near_err (t : Int) (er : Nat → Int) (n : Nat) (h0 : -1000000000000000000 ≤ t) (h1 : t ≤ 1000000000000000000) : Near t (mdL t er) (faL er) (faM er) n := by
  have hb : ∀ j, 0 ≤ pickOf (er j) 77 ∧ pickOf (er j) 77 < 77 ∧ 0 ≤ pickOf (er j) 1000000 ∧ pickOf (er j) 1000000 < 1000000 := fun j => ⟨(pick_bd _ _ (by omega)).1, (pick_bd _ _ (by omega)).2, (pick_bd _ _ (by omega)).1, (pick_bd _ _ (by omega)).2⟩
  refine ⟨fun j _ => ?_, fun j _ => ?_, fun j _ => ?_⟩
  · have := hb j
    unfold mdL faL absI errI
    split <;> omega
  · have := hb j
    unfold Tame mdL faL absI errI
    split <;> omega
  · have := hb j
    unfold Tame faM
    dsimp only
    omega
theorem near_one (t : Int) (h0 : -1000000000000000000 ≤ t) (h1 : t ≤ 1000000000000000000) : Near t (fun _ => t) (fun _ => 1) (fun _ => 1) 1 :=
  ⟨fun j _ => by show t - 1 ≤ t ∧ t ≤ t + 1; omega, fun j _ => by unfold Tame; dsimp only; omega, fun j _ => by unfold Tame; dsimp only; omega⟩
def fa37 : Nat → Int
  | 0 => 3
  | _ => 7
theorem comb37 : (outOf (fun _ => 4096) fa37 2).err = 0 ∧ combOf (fun _ => 4096) fa37 2 = 4096 := by decide +kernel
theorem ticks37 (w : World) : TicksAt (w.alloc (.cells #[.int .i64 4096, .int .i64 3, .int .i64 4096, .int .i64 7] 27)) w.heap.size 0 2 (fun _ => 4096) fa37 := by
  intro j hj
  rw [cell_of_row _ w.heap.size _ _ _ _ (heap_alloc_new w _), cell_of_row _ w.heap.size _ _ _ _ (heap_alloc_new w _)]
  match j, hj with
  | 0, _ => exact ⟨rfl, rfl⟩
  | 1, _ => exact ⟨rfl, rfl⟩
  | j + 2, h => omega
theorem ticksZ (w : World) (t a : Int) : TicksAt (w.alloc (.cells #[.int .i64 t, .int .i64 2, .int .i64 (t + a), .int .i64 2, .int .i64 (t + 1), .int .i64 2, .int .i64 (t - 1), .int .i64 2] 27)) w.heap.size 0 4 (mdZ t a) faZ := by
  intro j hj
  rw [cell_of_row _ w.heap.size _ _ _ _ (heap_alloc_new w _), cell_of_row _ w.heap.size _ _ _ _ (heap_alloc_new w _)]
  match j, hj with
  | 0, _ => exact ⟨rfl, rfl⟩
  | 1, _ => exact ⟨rfl, rfl⟩
  | 2, _ => exact ⟨rfl, rfl⟩
  | 3, _ => exact ⟨rfl, rfl⟩
  | j + 4, h => omega
theorem comb_door (W : World) (g : Nat) (hT : TicksAt W g 0 2 (fun _ => 4096) fa37) : Calls Tryd.prog 9 #[.slice (some ⟨g, 0, none⟩) 2 2] W fun r w' => r = .returned (.tuple #[.int .i64 4096, .int .i64 0]) ∧ Below W.heap.size W w' := by
  have := door_combine (some ⟨g, 0, none⟩) 2 2 (fun _ => 4096) fa37 W ⟨by unfold maxLen; omega, Or.inr ⟨g, 0, rfl, hT⟩⟩
  rwa [comb37.1, comb37.2] at this
theorem sel_door (W : World) (g n c : Nat) (md fa : Nat → Int) (hn : n ≤ 32) (hT : TicksAt W g 0 n md fa) : Calls Tryd.prog 8 #[.slice (some ⟨g, 0, none⟩) n c] W (Chosen (outOf md fa n) W) :=
  door_select (some ⟨g, 0, none⟩) n c md fa W ⟨by unfold maxLen; omega, Or.inr ⟨g, 0, rfl, hT⟩⟩
end Go.Proofs.YtjdcnlggpfkopabDoor
