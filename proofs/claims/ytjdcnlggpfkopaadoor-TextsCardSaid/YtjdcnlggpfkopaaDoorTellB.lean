/- The whole seconds' figures: fewer than a hundred. -/
import Derived.Test.YtjdcnlggpfkopaaDoorTellA
import Derived.WalkSpells
namespace Go.Proofs.YtjdcnlggpfkopaaDoor
open Go.ChangeShapes Go.WideShapes Go.ChangeAt Go.RowKit
set_option linter.unusedVariables false

def digitsStr : ByteArray := ⟨#[48, 49, 50, 51, 52, 53, 54, 55, 56, 57, 97, 98, 99, 100, 101, 102, 103, 104, 105, 106, 107, 108, 109, 110, 111, 112, 113, 114, 115, 116, 117, 118, 119, 120, 121, 122]⟩
def smallsStr : ByteArray := ⟨#[48, 48, 48, 49, 48, 50, 48, 51, 48, 52, 48, 53, 48, 54, 48, 55, 48, 56, 48, 57, 49, 48, 49, 49, 49, 50, 49, 51, 49, 52, 49, 53, 49, 54, 49, 55, 49, 56, 49, 57, 50, 48, 50, 49, 50, 50, 50, 51, 50, 52, 50, 53, 50, 54, 50, 55, 50, 56, 50, 57, 51, 48, 51, 49, 51, 50, 51, 51, 51, 52, 51, 53, 51, 54, 51, 55, 51, 56, 51, 57, 52, 48, 52, 49, 52, 50, 52, 51, 52, 52, 52, 53, 52, 54, 52, 55, 52, 56, 52, 57, 53, 48, 53, 49, 53, 50, 53, 51, 53, 52, 53, 53, 53, 54, 53, 55, 53, 56, 53, 57, 54, 48, 54, 49, 54, 50, 54, 51, 54, 52, 54, 53, 54, 54, 54, 55, 54, 56, 54, 57, 55, 48, 55, 49, 55, 50, 55, 51, 55, 52, 55, 53, 55, 54, 55, 55, 55, 56, 55, 57, 56, 48, 56, 49, 56, 50, 56, 51, 56, 52, 56, 53, 56, 54, 56, 55, 56, 56, 56, 57, 57, 48, 57, 49, 57, 50, 57, 51, 57, 52, 57, 53, 57, 54, 57, 55, 57, 56, 57, 57]⟩
set_option maxRecDepth 100000 in
theorem digits_at : ∀ n, n < 10 → digitsStr.extract n (n + 1) = bytesOf [48 + (n : Int)] := by decide +kernel
set_option maxRecDepth 100000 in
theorem smalls_at : ∀ n, n < 100 → smallsStr.extract (n * 2) (n * 2 + 2) = bytesOf [48 + (n : Int) / 10, 48 + (n : Int) % 10] := by decide +kernel

set_option maxRecDepth 100000 in
set_option maxHeartbeats 400000 in
theorem small_one (n : Nat) (h : n < 10) (w : World) :
    Calls Tryd.prog 59 #[.int .i64 n] w fun e w' => e = .returned (.string (bytesOf [48 + (n : Int)])) ∧ w' = w := by
  go_enter Tryd.func59, Tryd.ntmps59
  go_wp2
  go_ret
  exact ⟨ret_str (digits_at n h), rfl⟩
set_option maxRecDepth 100000 in
set_option maxHeartbeats 400000 in
theorem small_two (n : Nat) (h0 : 10 ≤ n) (h : n < 100) (w : World) :
    Calls Tryd.prog 59 #[.int .i64 n] w fun e w' => e = .returned (.string (bytesOf [48 + (n : Int) / 10, 48 + (n : Int) % 10])) ∧ w' = w := by
  go_enter Tryd.func59, Tryd.ntmps59
  go_wp2
  go_ret
  exact ⟨ret_str (smalls_at n h), rfl⟩

def smallDigs (n : Nat) : List Int := if n < 10 then [48 + (n : Int)] else [48 + (n : Int) / 10, 48 + (n : Int) % 10]
theorem small_any (n : Nat) (h : n < 100) (w : World) :
    Calls Tryd.prog 59 #[.int .i64 n] w fun e w' => e = .returned (.string (bytesOf (smallDigs n))) ∧ w' = w := by
  unfold smallDigs
  by_cases h0 : n < 10
  · rw [if_pos h0]; exact small_one n h0 w
  · rw [if_neg h0]; exact small_two n (by omega) h w
theorem smallDigs_bytes : ∀ n, n < 100 → (bytesOf (smallDigs n)).size = (smallDigs n).length ∧ Lib.strCells (bytesOf (smallDigs n)) = (smallDigs n).map (Value.int .u8) ∧ (smallDigs n).length ≤ 2 := by
  have key : ∀ n, n < 100 → (bytesOf (smallDigs n)).size = (smallDigs n).length ∧ (bytesOf (smallDigs n)).data.toList.map (fun b => (b.toNat : Int)) = smallDigs n ∧ (smallDigs n).length ≤ 2 := by decide +kernel
  intro n h
  obtain ⟨k1, k2, k3⟩ := key n h
  refine ⟨k1, ?_, k3⟩
  have : Lib.strCells (bytesOf (smallDigs n)) = ((bytesOf (smallDigs n)).data.toList.map (fun b => (b.toNat : Int))).map (Value.int .u8) := by simp [Lib.strCells]
  rw [this, k2]

set_option maxRecDepth 100000 in
set_option maxHeartbeats 400000 in
theorem append_inner_small (n : Nat) (h : n < 100) (w : World) :
    Calls Tryd.prog 50 #[.slice none 0 0, .int .u64 n, .int .i64 10] w fun e w' => ∃ v, e = .returned v ∧ w'.ownsRow w.heap.size 5 1 v (smallDigs n).length ((smallDigs n).map (Value.int .u8)) ∧ Below w.heap.size w w' := by
  obtain ⟨i0, hi, hz0, hz1, hz2⟩ := info_parts u8row
  obtain ⟨k1, k2, k3⟩ := smallDigs_bytes n h
  have K1 : Hid ((bytesOf (smallDigs n)).size = (smallDigs n).length) := k1
  have K2 : Hid (Lib.strCells (bytesOf (smallDigs n)) = (smallDigs n).map (Value.int .u8)) := k2
  have hsz : (bytesOf (smallDigs n)).size ≤ 2 := by omega
  clear k1 k2
  go_enter Tryd.func50, Tryd.ntmps50
  go_wp2_with fail
  refine (small_any n h _).mono ?_
  rintro e w1 ⟨rfl, rfl⟩
  go_wp2_with (at_builtin; refine Lib.wpList_append_own_string _ rfl _ _ 31 9 rfl w1.heap.size 5 i0 Tryd.underlying31 Tryd.underlying9 hi hz0 hz1 hz2 _ _ _ rfl (World.ownsRow_nil _ _ _ _) _ rfl ?c1 ?c2 (Nat.le_refl _) ?_)
  case c1 => unfold maxLen; omega
  case c2 => omega
  intro v w2 hown hg _
  have hb : Below w1.heap.size w1 w2 := (Below.refl _ _).grown hg (Nat.le_refl _) (fun k hk => by cases hk)
  rw [K1.out, K2.out] at hown
  clear hg
  go_wp2
  go_ret
  exact ⟨v, rfl, hown, hb⟩
theorem append_small (n : Nat) (h : n < 100) (w : World) : AppSaid n (smallDigs n) w := by
  unfold AppSaid
  go_enter Tryd.func34, Tryd.ntmps34
  go_wp2_with fail
  refine (append_inner_small n h _).mono ?_
  rintro e w1 ⟨v, rfl, hown, hb⟩
  go_wp2
  go_ret
  exact ⟨v, rfl, hown, hb⟩
end Go.Proofs.YtjdcnlggpfkopaaDoor
