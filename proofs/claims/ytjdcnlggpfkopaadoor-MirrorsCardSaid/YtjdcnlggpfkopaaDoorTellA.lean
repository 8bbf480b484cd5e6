/- Tell, the code's: behind the whole seconds. -/
import Derived.Test.YtjdcnlggpfkopaaDoorFig
import Derived.Deep.LoopGhost
import Derived.Laws.BytesString
import Derived.Lib.AppendStr
import Derived.Handy
import Derived.Maps.AppendAt
namespace Go.Proofs.YtjdcnlggpfkopaaDoor
open Go.ChangeShapes Go.WideShapes Go.ChangeAt Go.RowKit
set_option linter.unusedVariables false

theorem u8row : (Tryd.prog.info? 5).map (fun i => (i.zero, i.size, i.bytes)) = some (some (.int .u8 0), 1, 1) := by kernel_rfl

/-- What the whole seconds' figures are told by. -/
def AppSaid (n : Int) (D : List Int) (w : World) : Prop :=
  Calls Tryd.prog 34 #[.slice none 0 0, .int .u64 n, .int .i64 10] w fun e w' => ∃ v, e = .returned v ∧ w'.ownsRow w.heap.size 5 1 v D.length (D.map (Value.int .u8)) ∧ Below w.heap.size w w'

def fracDigs : Nat → Int → List Int
  | 0, _ => []
  | k + 1, p => (48 + p * 10 / 4294967296) :: fracDigs k (p * 10 % 4294967296)
theorem fracDigs_len (k : Nat) (p : Int) : (fracDigs k p).length = k := by
  induction k generalizing p with
  | zero => rfl
  | succ k ih => simp [fracDigs, ih]
def bytesOf (ns : List Int) : ByteArray := ns.foldl (fun r n => r.push (UInt8.ofNat n.toNat)) ByteArray.empty
def tellOf (D : List Int) (t : Int) : List Int := D ++ 46 :: fracDigs 10 (t % 4294967296)

theorem ret_str {a b : ByteArray} (h : a = b) : Ending.returned (.string a) = .returned (.string b) := by rw [h]
theorem own_string {w : World} {base : Nat} {v : Value} {L : List Int} (h : w.ownsRow base 5 1 v L.length (L.map (Value.int .u8))) (hL : 0 < L.length) :
    ∃ g cap, v = .slice (some ⟨g, 0, none⟩) L.length cap ∧ ((convert 31 9 (.slice (some ⟨g, 0, none⟩) L.length cap)).run Tryd.prog w = .ok (.string (bytesOf L)) w) := by
  have h' := h
  rcases h.2 with ⟨_, hn⟩ | ⟨g, cap, cur, rfl, _⟩
  · omega
  · refine ⟨g, cap, rfl, ?_⟩
    rw [run_convert_bytes_string w 31 9 5 _ _ _ Tryd.underlying31 Tryd.underlying5 Tryd.underlying9]
    have hc := h'.cells (g := g) rfl
    have := run_loadCells_list (P := Tryd.prog) w ⟨g, 0, none⟩ (L.map (Value.int .u8)) hc
    rw [List.length_map] at this
    exact run_bytesToString w _ _ _ L this

set_option maxHeartbeats 400000 in
theorem tell_walk (t : Int) (D : List Int) (w : World) (h0 : 0 ≤ t) (h1 : t ≤ 18446744073709551615) (hD : D.length ≤ 20) (hA : Hid (AppSaid (t / 4294967296) D w)) :
    Calls Tryd.prog 22 #[.int .u64 t] w fun e w' => e = .returned (.string (bytesOf (tellOf D t))) ∧ Below w.heap.size w w' := by
  obtain ⟨i0, hi, hz0, hz1, hz2⟩ := info_parts u8row
  go_enter Tryd.func22, Tryd.ntmps22
  go_wp2_with fail
  refine (show AppSaid (t / 4294967296) D w from hA.out).mono ?_
  rintro e w1 ⟨v, rfl, hown, hb⟩
  go_wp2_with (first | (at_builtin; refine wpList_append_own _ rfl _ _ 31 rfl w.heap.size 5 i0 (.int .u8 0) 1 1 Tryd.underlying31 hi hz0 hz1 hz2 rfl (by decide) _ _ _ rfl (hown.alloc _) ⟨w1.heap.size, 0, none⟩ 1 1 [.int .u8 46] rfl rfl ?c1 ?c2 ?c3 ?c4 ?c5 ?_))
  case c1 => exact Go.cell_one_new _ _ _
  case c2 => intro u hu; simp at hu; subst hu; rfl
  case c3 => unfold maxLen; omega
  case c4 => omega
  case c5 => have := hb.size; simp; omega
  intro v2 w2 hown2 hg2 _
  have hb2 : Below w.heap.size w w2 := (hb.alloc hb.size _).grown hg2 (by have := hb.size; simp; omega) (fun k hk => (hown.lt k hk).1)
  clear hown hg2 hb
  go_wp2
  go_loopw [3, 4, 13] (fun v p i wr => ∃ (k : Nat) (q : Int) (L : List Int), k ≤ 10 ∧ i = .int .i64 k ∧ p = .int .u64 q ∧ 0 ≤ q ∧ q < 4294967296 ∧ wr.ownsRow w.heap.size 5 1 v L.length (L.map (Value.int .u8)) ∧
      0 < L.length ∧ L.length ≤ D.length + 1 + k ∧ L ++ fracDigs (10 - k) q = tellOf D t ∧ Below w.heap.size w wr) (fun _ _ i _ => 10 - (intOf i).toNat)
  case atStart => exact ⟨0, _, D ++ [46], by omega, rfl, rfl, by omega, by omega, by simpa using hown2, by simp, by simp, by simp [tellOf], hb2⟩
  case round =>
    obtain ⟨k, q, L, hk, rfl, rfl, hq0, hq1, hown, hL0, hL, hfd, hb⟩ := hrel
    have HF : Hid (L ++ fracDigs (10 - k) q = tellOf D t) := hfd
    clear hfd
    clear hown2 hb2
    by_cases hlt : (k : Int) < 10
    · go_wp2_with (at_builtin; refine wpList_append_own _ rfl _ _ 31 rfl w.heap.size 5 i0 (.int .u8 0) 1 1 Tryd.underlying31 hi hz0 hz1 hz2 rfl (by decide) _ _ _ rfl (hown.alloc _) ⟨wr.heap.size, 0, none⟩ 1 1 [.int .u8 (48 + q * 10 / 4294967296)] rfl rfl ?c1 ?c2 ?c3 ?c4 ?c5 ?_)
      case c1 => exact Go.cell_one_new _ _ _
      case c2 => intro u hu; simp at hu; subst hu; rfl
      case c3 => unfold maxLen; omega
      case c4 => omega
      case c5 => have := hb.size; simp; omega
      intro v3 w3 hown3 hg3 _
      have hb3 : Below w.heap.size w w3 := (hb.alloc hb.size _).grown hg3 (by have := hb.size; simp; omega) (fun k hk => (hown.lt k hk).1)
      clear hown hg3 hb
      go_wp2
      go_roundw
      case rel =>
        refine ⟨k + 1, _, L ++ [48 + q * 10 / 4294967296], by omega, by go_num, rfl, by omega, by omega, by simpa using hown3, by simp, by simp; omega, ?_, hb3⟩
        rw [← HF.out, show 10 - k = (10 - (k + 1)) + 1 by omega]
        simp [fracDigs]
      case measure => simp [intOf]; omega
    · have hk10 : k = 10 := by omega
      subst hk10
      have HL : Hid (L = tellOf D t) := by have := HF.out; simpa [fracDigs, Hid] using this
      obtain ⟨g, cap, hv, hcv⟩ := own_string hown hL0
      subst hv
      clear hown HF
      go_wp2
      go_ret
      exact ⟨ret_str (by rw [HL.out]), hb⟩
end Go.Proofs.YtjdcnlggpfkopaaDoor
