/- The law Replies: the walk. -/
import Derived.Test.YtjdcnlggpfkopaaOut
import Derived.Test.YtjdcnlggpfkopaaRefRep
namespace Go.Proofs.Ytjdcnlggpfkopaa
open Go.ChangeShapes Go.WideShapes Go.ChangeAt Go.RowKit
set_option linter.unusedVariables false

theorem kind_mode (r : Pk × Int) (n : Nat) (z : Nat → Int) (hr : r = parseOf n z) (h : r.2 = 0) : r.1.version = 3 ∨ r.1.version = 4 := by
  obtain ⟨_, _, h1⟩ := parseOf_ok n z r hr h
  exact (kind_bd _ _ h1).1
theorem reply_bd (r : Pk × Int) (a c e f gg h i rc tr : Int) (he : replyErr r a c e rc tr = 0) : ∀ x ∈ replyList r a c e f gg h i rc tr, 0 ≤ x ∧ x ≤ 255 := by
  unfold replyErr at he
  split at he
  · rename_i h1; exact absurd he h1
  · split at he
    · cases he
    · split at he
      · cases he
      · unfold replyList
        exact form_bd a r.1.version 4 c r.1.poll e f gg h i r.1.transmit rc tr he
abbrev stCells (a v m c d e f gg h i j k l : Int) : Array Value := #[.int .i64 a, .int .i64 v, .int .i64 m, .int .i64 c, .int .i64 d, .int .i64 e, .int .u32 f, .int .u32 gg, .int .u32 h, .int .u64 i, .int .u64 j, .int .u64 k, .int .u64 l]

set_option maxRecDepth 100000 in
set_option maxHeartbeats 4000000 in
theorem replies_walk (a v m c d e f gg h i j k l rc tr : Int) (o : Option Addr) (n cap : Nat) (zs : List Int) (w : World) (hF : Fits a v m c d e f gg h i j k l) (hrc : 0 ≤ rc ∧ rc ≤ 18446744073709551615) (htr : 0 ≤ tr ∧ tr ≤ 18446744073709551615) (hb : Bytes w o n cap zs) :
    Calls Try.prog 5 #[.slice o n cap, .agg #[.int .i64 a, .int .i64 v, .int .i64 m, .int .i64 c, .int .i64 d, .int .i64 e, .int .u32 f, .int .u32 gg, .int .u32 h, .int .u64 i, .int .u64 j, .int .u64 k, .int .u64 l], .int .u64 rc, .int .u64 tr] w fun r w' => r = .returned (.bool true) ∧ Below w.heap.size w w' := by
  have HF : Hid (Fits a v m c d e f gg h i j k l) := hF
  have HZ : Hid ((0 ≤ rc ∧ rc ≤ 18446744073709551615) ∧ (0 ≤ tr ∧ tr ≤ 18446744073709551615)) := ⟨hrc, htr⟩
  have HB : Hid (Bytes w o n cap zs) := hb
  have HL : Hid (zs.length = n ∧ n ≤ 140737488351232 ∧ ∀ x ∈ zs, 0 ≤ x ∧ x ≤ 255) := ⟨hb.hlen, hb.hle, hb.hbd⟩
  obtain ⟨r, hr⟩ : ∃ r, r = parseOf n (fun j => zs.getD j 0) := ⟨_, rfl⟩
  have HR : Hid (r = parseOf n (fun j => zs.getD j 0)) := hr
  obtain ⟨er, her⟩ : ∃ er, er = replyErr r a c e rc tr := ⟨_, rfl⟩
  obtain ⟨fl, hfl⟩ : ∃ fl, fl = replyList r a c e f gg h i rc tr := ⟨_, rfl⟩
  have HE : Hid (replyErr r a c e rc tr = er ∧ replyList r a c e f gg h i rc tr = fl) := ⟨her.symm, hfl.symm⟩
  have HV : Hid ((er = 0 → ∀ x ∈ fl, 0 ≤ x ∧ x ≤ 255) ∧ fl.length = 48) := ⟨fun h0 => by rw [hfl]; exact reply_bd r a c e f gg h i rc tr (by rw [← her]; exact h0), by rw [hfl]; rfl⟩
  clear hF hb hr hrc htr her hfl
  go_enter Try.func5, Try.ntmps5
  go_wp2_with fail
  have E0 : Hid (Below (w.heap.size + 1) (w.alloc (.cells #[.int .i64 a, .int .i64 v, .int .i64 m, .int .i64 c, .int .i64 d, .int .i64 e, .int .u32 f, .int .u32 gg, .int .u32 h, .int .u64 i, .int .u64 j, .int .u64 k, .int .u64 l] 26)) ((w.alloc (.cells #[.int .i64 a, .int .i64 v, .int .i64 m, .int .i64 c, .int .i64 d, .int .i64 e, .int .u32 f, .int .u32 gg, .int .u32 h, .int .u64 i, .int .u64 j, .int .u64 k, .int .u64 l] 26)).alloc (.cells #[.slice none 0 0, .slice none 0 0, .slice none 0 0] 32))) := (Below.refl _ _).alloc (by simp) _
  have K0 : Hid (Booked ((w.alloc (.cells #[.int .i64 a, .int .i64 v, .int .i64 m, .int .i64 c, .int .i64 d, .int .i64 e, .int .u32 f, .int .u32 gg, .int .u32 h, .int .u64 i, .int .u64 j, .int .u64 k, .int .u64 l] 26)).alloc (.cells #[.slice none 0 0, .slice none 0 0, .slice none 0 0] 32)) (w.heap.size + 1) (w.heap.size + 2) 0) := by
    have := booked_new (w.alloc (.cells #[.int .i64 a, .int .i64 v, .int .i64 m, .int .i64 c, .int .i64 d, .int .i64 e, .int .u32 f, .int .u32 gg, .int .u32 h, .int .u64 i, .int .u64 j, .int .u64 k, .int .u64 l] 26))
    rw [World.size_alloc] at this
    exact this
  have HW0 : Hid (Below w.heap.size w ((w.alloc (.cells #[.int .i64 a, .int .i64 v, .int .i64 m, .int .i64 c, .int .i64 d, .int .i64 e, .int .u32 f, .int .u32 gg, .int .u32 h, .int .u64 i, .int .u64 j, .int .u64 k, .int .u64 l] 26)).alloc (.cells #[.slice none 0 0, .slice none 0 0, .slice none 0 0] 32))) := ((Below.refl _ _).alloc (Nat.le_refl _) _).trans (E0.out.mono (Nat.le_succ _))
  refine (lent_any o n cap zs _ (HB.out.below HW0.out)).mono ?_
  rintro r1 w1 ⟨rfl, hrow, hb1⟩
  simp only [World.size_alloc] at hrow hb1
  have R1 : Hid (w1.heap[w.heap.size + 1 + 1]? = some (.cells (lentRow zs 4).toArray 5 (0, 0))) := hrow
  have K1 : Hid (Booked w1 (w.heap.size + 1) (w.heap.size + 2) 0) := K0.out.below hb1
  have E1 : Hid (Below (w.heap.size + 1) (w.alloc (.cells #[.int .i64 a, .int .i64 v, .int .i64 m, .int .i64 c, .int .i64 d, .int .i64 e, .int .u32 f, .int .u32 gg, .int .u32 h, .int .u64 i, .int .u64 j, .int .u64 k, .int .u64 l] 26)) w1) := E0.out.trans (hb1.mono (by omega))
  have W1 : Hid (Below w.heap.size w w1) := HW0.out.trans (hb1.mono (by omega))
  have lt1 : w.heap.size + 2 < w1.heap.size := (Array.getElem?_eq_some_iff.1 hrow).1
  have c1 : ∀ o, w1.cell? ⟨w.heap.size, o, none⟩ = (w.alloc (.cells #[.int .i64 a, .int .i64 v, .int .i64 m, .int .i64 c, .int .i64 d, .int .i64 e, .int .u32 f, .int .u32 gg, .int .u32 h, .int .u64 i, .int .u64 j, .int .u64 k, .int .u64 l] 26)).cell? ⟨w.heap.size, o, none⟩ := fun o => E1.out.cell (p := ⟨w.heap.size, o, none⟩) (Nat.lt_succ_self _)
  have l1 : w.heap.size < w1.heap.size := by omega
  have LT1 := hid_of lt1
  clear hrow hb1 K0 E0 HW0 lt1
  go_wp2_with fail
  refine (reply_any a v m c d e f gg h i j k l rc tr _ n (n + 4) _ w1 (lent_bytes HL.out.1 HL.out.2.1 HL.out.2.2 R1.out).b48 HF.out HZ.out.1 HZ.out.2 r HR.out).mono ?_
  rw [HE.out.1, HE.out.2]
  rintro r1 w2 ⟨s1, rfl, hf1, hb2⟩
  have B2 : Hid (Below w1.heap.size w1 w2) := hb2
  obtain ⟨a1, rfl, by1, full1, hg1⟩ := hf1.bytes HV.out.1 HV.out.2
  have c2 : ∀ o, w2.cell? ⟨w.heap.size, o, none⟩ = (w.alloc (.cells #[.int .i64 a, .int .i64 v, .int .i64 m, .int .i64 c, .int .i64 d, .int .i64 e, .int .u32 f, .int .u32 gg, .int .u32 h, .int .u64 i, .int .u64 j, .int .u64 k, .int .u64 l] 26)).cell? ⟨w.heap.size, o, none⟩ := fun o => by rw [hb2.cell (p := ⟨w.heap.size, o, none⟩) l1]; exact c1 o
  have l2 : w.heap.size < w2.heap.size := by have := hb2.size; omega
  have F1 : Hid (Bytes w2 a1 (outN er) (outN er) (outL er fl) ∧ Full w2 w1.heap.size a1 (outN er) ∧ ∀ g, a1 = some ⟨g, 0, none⟩ → w1.heap.size ≤ g ∧ g < w2.heap.size) := ⟨by1, full1, hg1⟩
  clear hf1 hb2 by1 full1 hg1 c1 l1
  go_wp2_with fail
  refine (refReply_any a v m c d e f gg h i j k l rc tr o n cap _ w2 ((HB.out.below W1.out).below B2.out).b48 HF.out HZ.out.1 HZ.out.2 r HR.out).mono ?_
  rw [HE.out.1, HE.out.2]
  rintro r1 w3 ⟨s2, rfl, hf2, hb3⟩
  have B3 : Hid (Below w2.heap.size w2 w3) := hb3
  obtain ⟨a2, cc, rfl, by2, hg2⟩ := hf2.bytes HV.out.1 HV.out.2
  have F2 : Hid (Bytes w3 a2 (outN er) cc (outL er fl) ∧ ∀ x, a2 = some x → w2.heap.size ≤ x.block ∧ x.block < w3.heap.size) := ⟨by2, hg2⟩
  have c3 : ∀ o, w3.cell? ⟨w.heap.size, o, none⟩ = (w.alloc (.cells #[.int .i64 a, .int .i64 v, .int .i64 m, .int .i64 c, .int .i64 d, .int .i64 e, .int .u32 f, .int .u32 gg, .int .u32 h, .int .u64 i, .int .u64 j, .int .u64 k, .int .u64 l] 26)).cell? ⟨w.heap.size, o, none⟩ := fun o => by rw [hb3.cell (p := ⟨w.heap.size, o, none⟩) l2]; exact c2 o
  have l3 : w.heap.size < w3.heap.size := by have := hb3.size; omega
  clear hf2 hb3 by2 hg2 c2 l2
  go_wp2_with fail
  refine (same_true a1 a2 _ _ cc _ w3 (F1.out.1.below B3.out) F2.out.1).mono ?_
  rintro r1 w4 ⟨rfl, m4, hw4⟩
  have B4 : Hid (w4.heap = w3.heap) := by rw [hw4]; rfl
  have BB4 : Hid (Below w3.heap.size w3 w4) := by rw [hw4]; exact below_drewN (Below.refl _ _) _
  have HH4 : Hid (∀ o, w4.cell? ⟨w.heap.size, o, none⟩ = (w.alloc (.cells #[.int .i64 a, .int .i64 v, .int .i64 m, .int .i64 c, .int .i64 d, .int .i64 e, .int .u32 f, .int .u32 gg, .int .u32 h, .int .u64 i, .int .u64 j, .int .u64 k, .int .u64 l] 26)).cell? ⟨w.heap.size, o, none⟩) := fun o => by rw [hw4]; exact c3 o
  have l4 : w.heap.size < w4.heap.size := by rw [B4.out]; exact l3
  clear hw4 c3 l3
  have S13 : Hid (Below w1.heap.size w1 w4) := B2.out.trans ((B3.out.mono B2.out.size).trans (BB4.out.mono (Nat.le_trans B2.out.size B3.out.size)))
  have FU4 : Hid (Full w4 (w.heap.size + 2) a1 (outN er)) := by
    have h1 := (F1.out.2.1.below B3.out).below BB4.out
    rcases h1 with h1 | ⟨g, cur, h1, h2, h3⟩
    · exact Or.inl h1
    · exact Or.inr ⟨g, cur, h1, by have := LT1.out; omega, h3⟩
  go_wp2_with fail
  refine (take_any (w.heap.size + 1) (w.heap.size + 2) 0 a1 _ w4 (K1.out.below (S13.out.mono (by have := LT1.out; omega))) FU4.out (outN_le _) (by decide)).mono ?_
  rintro r1 w5 ⟨rfl, hk5, hst⟩
  have K5 : Hid (Booked w5 (w.heap.size + 1) w5.heap.size 1) := hk5
  have S5 : Hid (w4.heap.size ≤ w5.heap.size) := hst.1.size
  have R5 : Hid (w5.heap[w.heap.size + 1 + 1]? = some (.cells (lentRow zs 4).toArray 5 (0, 0))) := by
    have z := LT1.out
    have z2 := S13.out.size
    show _ = _
    rw [hst.2 (w.heap.size + 1 + 1) (by omega) (by omega) (fun g hg => by have := F1.out.2.2 g hg; omega), S13.out.block _ (by omega)]
    exact R1.out
  have Y5 : Hid (Bytes w5 a2 (outN er) cc (outL er fl) ∧ ∀ x, a2 = some x → x.block < w5.heap.size) := by
    have z := LT1.out
    have z2 := B2.out.size
    have z3 := B3.out.size
    have z4 : w4.heap.size = w3.heap.size := by rw [B4.out]
    have z5 := S5.out
    refine ⟨F2.out.1.keep (by omega) fun x hx => ?_, fun x hx => by have := F2.out.2 x hx; omega⟩
    have hxx := F2.out.2 x hx
    rw [hst.2 x.block (by omega) (by omega) (fun g hg => by have := F1.out.2.2 g hg; omega), B4.out]
  have W5 : Hid (Below w.heap.size w w5) := W1.out.trans ((S13.out.mono (by have := LT1.out; omega)).trans (hst.1.mono (Nat.le_succ _)))
  have c5 : ∀ o, w5.cell? ⟨w.heap.size, o, none⟩ = (w.alloc (.cells #[.int .i64 a, .int .i64 v, .int .i64 m, .int .i64 c, .int .i64 d, .int .i64 e, .int .u32 f, .int .u32 gg, .int .u32 h, .int .u64 i, .int .u64 j, .int .u64 k, .int .u64 l] 26)).cell? ⟨w.heap.size, o, none⟩ := fun o => by rw [hst.1.cell (p := ⟨w.heap.size, o, none⟩) (Nat.lt_succ_self _)]; exact HH4.out o
  have l5 : w.heap.size < w5.heap.size := by have := S5.out; omega
  clear hk5 hst B4 BB4 HH4 l4 FU4 S13 F1 F2 B2 B3 K1 E1 R1
  go_wp2_with fail
  refine (stays_true (w.heap.size + 1 + 1) o n cap zs w5 R5.out (HB.out.below W5.out)).mono ?_
  rintro r1 w6 ⟨rfl, m6, hw6⟩
  have R6 : Hid (w6.heap[w.heap.size + 1 + 1]? = some (.cells (lentRow zs 4).toArray 5 (0, 0))) := by rw [hw6]; exact R5.out
  have BB6 : Hid (Below w5.heap.size w5 w6) := by rw [hw6]; exact below_drewN (Below.refl _ _) _
  have c6 : ∀ o, w6.cell? ⟨w.heap.size, o, none⟩ = (w.alloc (.cells #[.int .i64 a, .int .i64 v, .int .i64 m, .int .i64 c, .int .i64 d, .int .i64 e, .int .u32 f, .int .u32 gg, .int .u32 h, .int .u64 i, .int .u64 j, .int .u64 k, .int .u64 l] 26)).cell? ⟨w.heap.size, o, none⟩ := fun o => by rw [hw6]; exact c5 o
  have l6 : w.heap.size < w6.heap.size := by have := BB6.out.size; omega
  have HS6 : Hid (w6.heap.size = w5.heap.size) := by rw [hw6]; rfl
  clear hw6 c5 l5 R5
  go_wp2_with fail
  refine (reply_any a v m c d e f gg h i j k l rc tr _ n (n + 4) _ w6 (lent_bytes HL.out.1 HL.out.2.1 HL.out.2.2 R6.out).b48 HF.out HZ.out.1 HZ.out.2 r HR.out).mono ?_
  rw [HE.out.1, HE.out.2]
  rintro r1 w7 ⟨s3, rfl, hf3, hb7⟩
  have B7 : Hid (Below w6.heap.size w6 w7) := hb7
  obtain ⟨a3, rfl, by3, full3, hg3⟩ := hf3.bytes HV.out.1 HV.out.2
  have F3 : Hid (Bytes w7 a3 (outN er) (outN er) (outL er fl)) := by3
  have S57 : Hid (Below w5.heap.size w5 w7) := BB6.out.trans (B7.out.mono (by rw [HS6.out]; exact Nat.le_refl _))
  clear hf3 hb7 by3 full3 hg3 c6 l6 R6
  go_wp2_with fail
  refine (same_true a3 a2 _ _ cc _ w7 F3.out (Y5.out.1.below S57.out)).mono ?_
  rintro r1 w8 ⟨rfl, m8, hw8⟩
  have S58 : Hid (Below w5.heap.size w5 w8) := by rw [hw8]; exact below_drewN S57.out _
  clear hw8
  go_wp2_with fail
  refine (kept_true (w.heap.size + 1) w5.heap.size 1 w8 (K5.out.below S58.out)).mono ?_
  rintro r1 w9 ⟨rfl, rfl⟩
  go_wp2
  go_ret
  exact ⟨rfl, W5.out.trans (S58.out.mono (Nat.le_of_lt (by have := K5.out.lt; omega)))⟩
end Go.Proofs.Ytjdcnlggpfkopaa
