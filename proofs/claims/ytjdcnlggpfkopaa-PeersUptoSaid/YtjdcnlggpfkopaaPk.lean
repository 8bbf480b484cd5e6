/- Packets out of bytes: the code's. -/
import Derived.Test.YtjdcnlggpfkopaaRows
import Derived.WalkKit
import Derived.ProofKit
import Derived.OpenShut
import Derived.WalkLawsBesides
import Derived.Laws.BitsAllLaws
import Derived.StillTail
import Derived.StillTactics
namespace Go.Proofs.Ytjdcnlggpfkopaa
open Go.ChangeShapes Go.WideShapes Go.ChangeAt Go.RowKit
set_option linter.unusedVariables false

theorem or_byte (n : Nat) (c : Nat) (hn : n < 72057594037927936) (hc : c < 256) : bits .or .u64 ((n : Int) * 256) (c : Int) = (n : Int) * 256 + (c : Int) := by
  have e : ((n : Int) * 256) = ((n * 256 : Nat) : Int) := by omega
  rw [e, u64_or_nat _ _ (by omega) (by omega), nat_join 8 (n * 256) c (by show n * 256 % 256 = 0; omega) (by show c < 256; exact hc)]
  omega

/-- A number, the highest byte first: of the k bytes from z 0 on. -/
def beNum (z : Nat → Int) : Nat → Int
  | 0 => 0
  | k + 1 => beNum z k * 256 + z k
theorem beNum_bd (z : Nat → Int) (hz : ∀ j, 0 ≤ z j ∧ z j ≤ 255) (k : Nat) : 0 ≤ beNum z k ∧ beNum z k < 256 ^ k := by
  induction k with
  | zero => simp [beNum]
  | succ k ih =>
    have := hz k
    have e : (256 : Int) ^ (k + 1) = 256 ^ k * 256 := Int.pow_succ 256 k
    simp only [beNum]; rw [e]; omega
theorem beNum_step (z : Nat → Int) (hz : ∀ j, 0 ≤ z j ∧ z j ≤ 255) (k : Nat) (hk : k < 8) :
    bits .or .u64 (beNum z k * 256) (z k) = beNum z (k + 1) ∧ 0 ≤ beNum z k ∧ beNum z k < 72057594037927936 := by
  obtain ⟨h0, h1⟩ := beNum_bd z hz k
  have hp : ∀ k, k < 8 → (256 : Int) ^ k ≤ 72057594037927936 := by decide
  have hp := hp k hk
  have hlt : beNum z k < 72057594037927936 := by omega
  refine ⟨?_, h0, hlt⟩
  obtain ⟨n, hn⟩ := Int.eq_ofNat_of_zero_le h0
  have hc := hz k
  obtain ⟨c, hc'⟩ := Int.eq_ofNat_of_zero_le hc.1
  simp only [beNum]
  rw [hn, hc', or_byte n c (by omega) (by omega)]

set_option maxHeartbeats 400000 in
theorem number_any (z : Nat → Int) (hz : ∀ j, 0 ≤ z j ∧ z j ≤ 255) (b off n cap : Nat) (w : World) (hn : n ≤ 8)
    (hcell : ∀ j, j < n → w.cell? ⟨b, off + j, none⟩ = some (.int .u8 (z j))) :
    Calls Try.prog 82 #[.slice (some ⟨b, off, none⟩) n cap] w fun e w' => e = .returned (.int .u64 (beNum z n)) ∧ w' = w := by
  go_enter Try.func82, Try.ntmps82
  go_wp2
  go_loop [3, 8] (fun v i => ∃ k : Nat, k ≤ n ∧ i = .int .i64 k ∧ v = .int .u64 (beNum z k)) (fun _ i => n - (intOf i).toNat)
  case atStart => exact ⟨0, Nat.zero_le _, rfl, rfl⟩
  case round =>
    obtain ⟨k, hk, rfl, rfl⟩ := hrel
    by_cases hlt : k < n
    · have hc := hcell k hlt
      obtain ⟨hor, hb0, hb1⟩ := beNum_step z hz k (by omega)
      have hzk := hz k
      have HO : Hid (bits .or .u64 (beNum z k * 256) (z k) = beNum z (k + 1)) := hor
      clear hor hcell
      go_wp2
      go_round
      case rel => exact ⟨k + 1, by omega, by go_num, by rw [HO.out]⟩
      case measure => simp [intOf]; omega
    · have : k = n := by omega
      subst this
      go_wp2
      go_ret
      exact ⟨rfl, rfl⟩

/-- A packet's fields. -/
structure Pk where
  leap : Int
  version : Int
  mode : Int
  stratum : Int
  poll : Int
  precision : Int
  delay : Int
  dispersion : Int
  id : Int
  reference : Int
  origin : Int
  receive : Int
  transmit : Int
abbrev Pk.cells (p : Pk) : Array Value := #[.int .i64 p.leap, .int .i64 p.version, .int .i64 p.mode, .int .i64 p.stratum, .int .i64 p.poll, .int .i64 p.precision, .int .u32 p.delay, .int .u32 p.dispersion, .int .u32 p.id, .int .u64 p.reference, .int .u64 p.origin, .int .u64 p.receive, .int .u64 p.transmit]
def Pk.zero : Pk := ⟨0, 0, 0, 0, 0, 0, 0, 0, 0, 0, 0, 0, 0⟩
def shift (z : Nat → Int) (o : Nat) : Nat → Int := fun j => z (o + j)
/-- The packet that 48 bytes are. -/
def unpackOf (z : Nat → Int) : Pk :=
  ⟨z 0 / 64, z 0 / 8 % 8, z 0 % 8, z 1, IntKind.i8.wrap (z 2), IntKind.i8.wrap (z 3), beNum (shift z 4) 4, beNum (shift z 8) 4, beNum (shift z 12) 4, beNum (shift z 16) 8, beNum (shift z 24) 8, beNum (shift z 32) 8, beNum (shift z 40) 8⟩

theorem and7 (x : Int) (h0 : 0 ≤ x) (h1 : x < 256) : bits .and .u8 x 7 = x % 8 := by
  rw [u8_and x 7 h0 h1 (by decide) (by decide)]
  have : (x.toNat &&& (7 : Int).toNat) = x.toNat % 8 := nat_mask3 _
  rw [this]; omega

theorem region_tail {P : Program} {id : Nat} {Q : Exit → Act → World → Prop} {a : Act} {w : World} {l : List Oper} (n : Nat) (hm : P.follows .mixedOrders = true) (hB : Region.lexTailB .any l.toArray n = true)
    (h : wpStill P l.toArray w.drew (fun a' => wpList P l.toArray Q (l.drop n) a' w.drew) (l.take n) a) : (Code.region id l.toArray true).wp P Q a w := wp_region_still_tail n hm hB h

theorem number_at (z : Nat → Int) (hz : ∀ j, 0 ≤ z j ∧ z j ≤ 255) (b off o n cap : Nat) (W : World) (h : o + n ≤ 48) (hn : n ≤ 8)
    (hc : ∀ j, j < 48 → W.cell? ⟨b, off + j, none⟩ = some (.int .u8 (z j))) :
    Calls Try.prog 82 #[.slice (some ⟨b, off + o, none⟩) n cap] W fun e w' => e = .returned (.int .u64 (beNum (shift z o) n)) ∧ w' = W :=
  number_any (shift z o) (fun j => hz _) b (off + o) n cap W hn (fun j hj => by rw [Nat.add_assoc]; exact hc (o + j) (by omega))
theorem wrap8 (x : Int) : wrap64 (IntKind.i8.wrap x) = IntKind.i8.wrap x := by
  have h : -128 ≤ IntKind.i8.wrap x ∧ IntKind.i8.wrap x ≤ 127 := by
    simp only [IntKind.wrap, IntKind.bits, IntKind.signed]; simp; split <;> omega
  exact IntWalk.wrap64_in _ ⟨by omega, by omega⟩
theorem be4 (z : Nat → Int) (hz : ∀ j, 0 ≤ z j ∧ z j ≤ 255) (o : Nat) : beNum (shift z o) 4 % 4294967296 = beNum (shift z o) 4 := by
  have := beNum_bd (shift z o) (fun j => hz _) 4
  have e : (256 : Int) ^ 4 = 4294967296 := by decide
  omega

set_option maxRecDepth 100000 in
set_option maxHeartbeats 1000000 in
theorem unpack_any (z : Nat → Int) (hz : ∀ j, 0 ≤ z j ∧ z j ≤ 255) (b off cap : Nat) (w : World) (hcap : 48 ≤ cap)
    (hcell : ∀ j, j < 48 → w.cell? ⟨b, off + j, none⟩ = some (.int .u8 (z j))) :
    Calls Try.prog 58 #[.slice (some ⟨b, off, none⟩) 48 cap] w fun e w' => e = .returned (.agg (unpackOf z).cells) ∧ Below w.heap.size w w' := by
  have hb : b < w.heap.size := World.block_lt_of_cell? w _ (hcell 0 (by omega))
  have c0 : w.cell? ⟨b, off, none⟩ = some (.int .u8 (z 0)) := hcell 0 (by omega)
  have c1 : w.cell? ⟨b, off + 1, none⟩ = some (.int .u8 (z 1)) := hcell 1 (by omega)
  have c2 : w.cell? ⟨b, off + 2, none⟩ = some (.int .u8 (z 2)) := hcell 2 (by omega)
  have c3 : w.cell? ⟨b, off + 3, none⟩ = some (.int .u8 (z 3)) := hcell 3 (by omega)
  have HW : Hid (∀ (X : Obj) j, j < 48 → ((w.alloc X).drew).cell? ⟨b, off + j, none⟩ = some (.int .u8 (z j))) := fun X j hj => by
    have := hcell j hj
    simpa [go_sem, hb] using this
  have HZ : Hid (∀ j, 0 ≤ z j ∧ z j ≤ 255) := hz
  have z0 := hz 0
  have a7 := and7 (z 0) z0.1 (by omega)
  have a7' := and7 (z 0 / 8) (by omega) (by omega)
  have q8 : (8 : Int) ≤ (cap : Int) := by omega
  have q12 : (12 : Int) ≤ (cap : Int) := by omega
  have q16 : (16 : Int) ≤ (cap : Int) := by omega
  have q24 : (24 : Int) ≤ (cap : Int) := by omega
  have q32 : (32 : Int) ≤ (cap : Int) := by omega
  have q40 : (40 : Int) ≤ (cap : Int) := by omega
  have q48 : (48 : Int) ≤ (cap : Int) := by omega
  have n4 : ¬ cap = 4 := by omega
  have n8 : ¬ cap = 8 := by omega
  have n12 : ¬ cap = 12 := by omega
  have n16 : ¬ cap = 16 := by omega
  have n24 : ¬ cap = 24 := by omega
  have n32 : ¬ cap = 32 := by omega
  have n40 : ¬ cap = 40 := by omega
  clear hcell
  go_enter Try.func58, Try.ntmps58
  go_wp2
  refine region_tail 55 (by kernel_rfl) (by kernel_rfl) ?_
  simp only [List.take_succ_cons, List.take_zero, List.drop_succ_cons, List.drop_zero]
  repeat still_step
  refine wpStill_step (fun K hK => ?_)
  go_simp
  refine ⟨_, number_at z hz b off 4 4 _ _ (by decide) (by decide) (HW.out _), hK _ ?_⟩
  clear hK K
  repeat still_step
  refine wpStill_step (fun K hK => ?_)
  go_simp
  refine ⟨_, number_at z hz b off 8 4 _ _ (by decide) (by decide) (HW.out _), hK _ ?_⟩
  clear hK K
  repeat still_step
  refine wpStill_step (fun K hK => ?_)
  go_simp
  refine ⟨_, number_at z hz b off 12 4 _ _ (by decide) (by decide) (HW.out _), hK _ ?_⟩
  clear hK K
  repeat still_step
  refine wpStill_step (fun K hK => ?_)
  go_simp
  refine ⟨_, number_at z hz b off 16 8 _ _ (by decide) (by decide) (HW.out _), hK _ ?_⟩
  clear hK K
  repeat still_step
  refine wpStill_step (fun K hK => ?_)
  go_simp
  refine ⟨_, number_at z hz b off 24 8 _ _ (by decide) (by decide) (HW.out _), hK _ ?_⟩
  clear hK K
  repeat still_step
  refine wpStill_step (fun K hK => ?_)
  go_simp
  refine ⟨_, number_at z hz b off 32 8 _ _ (by decide) (by decide) (HW.out _), hK _ ?_⟩
  clear hK K
  repeat still_step
  refine wpStill_step (fun K hK => ?_)
  go_simp
  refine ⟨_, number_at z hz b off 40 8 _ _ (by decide) (by decide) (HW.out _), hK _ ?_⟩
  clear hK K
  repeat still_step
  refine wpStill_nil ?_
  go_wp2
  have e1 : wrap64 (z 1) = z 1 := IntWalk.wrap64_in _ ⟨by have := hz 1; omega, by have := hz 1; omega⟩
  have e2 := wrap8 (z 2)
  have e3 := wrap8 (z 3)
  have e4 := be4 z hz 4
  have e5 := be4 z hz 8
  have e6 := be4 z hz 12
  exact bodyPost_ret (v := .agg (unpackOf z).cells) (by simp [results, Try.results58, go_sem, unpackOf, e1, e2, e3, e4, e5, e6]) rfl ⟨rfl, ((Below.refl _ _).alloc (Nat.le_refl _) _).drew⟩
end Go.Proofs.Ytjdcnlggpfkopaa
