/- The law Parses: the walk. -/
import Derived.Test.YtjdcnlggpfkopaaRefPk
import Derived.Test.YtjdcnlggpfkopaaRefFormB
import Derived.Test.YtjdcnlggpfkopaaStays
import Derived.Test.YtjdcnlggpfkopaaTake
namespace Go.Proofs.Ytjdcnlggpfkopaa
open Go.ChangeShapes Go.WideShapes Go.ChangeAt Go.RowKit
set_option linter.unusedVariables false

theorem Booked.below {w w' : World} {bo B m : Nat} (h : Booked w bo B m) (hb : Below B w w') : Booked w' bo B m := by
  obtain ⟨bv, vs, h1, h2, h3, h4⟩ := h.row
  refine ⟨h.hm, h.lt, Nat.le_trans h.le hb.size, bv, vs, by rw [hb.block bo h.lt]; exact h1, own_below h2 hb h3, h3, fun i v hi => (h4 i v hi).keep (Nat.le_refl _) fun b cur hbB hc => by rw [hb.block b hbB]; exact hc⟩
theorem Booked.more {w : World} {bo B B' m : Nat} (h : Booked w bo B m) (hB : B ≤ B') (hl : B' ≤ w.heap.size) : Booked w bo B' m := by
  obtain ⟨bv, vs, h1, h2, h3, h4⟩ := h.row
  exact ⟨h.hm, by have := h.lt; omega, hl, bv, vs, h1, h2, fun k hk => by have := h3 k hk; omega, fun i v hi => (h4 i v hi).keep hB fun b cur _ hc => hc⟩
theorem booked_new (w : World) : Booked (w.alloc (.cells #[.slice none 0 0, .slice none 0 0, .slice none 0 0] 32)) w.heap.size (w.heap.size + 1) 0 :=
  ⟨by decide, Nat.lt_succ_self _, by simp, .slice none 0 0, [], heap_alloc_new _ _, World.ownsRow_nil _ _ _ _, (fun k h => by cases h), (fun i v h => by simp at h)⟩

/-- Bytes, as Parse sees them. -/
theorem Bytes.b48 {w : World} {a : Option Addr} {n cap : Nat} {zs : List Int} (h : Bytes w a n cap zs) : Bytes48 w a n cap (fun j => zs.getD j 0) := by
  refine ⟨by have := h.hle; omega, fun j => ?_, fun hn => ?_⟩
  · rw [List.getD_eq_getElem?_getD]
    cases hx : zs[j]? with
    | none => simp
    | some y => exact h.hbd y (List.mem_of_getElem? hx)
  · obtain ⟨b, off, h1, _, h2⟩ := h.hat (by omega)
    exact ⟨b, off, h1, by have := h.hcap; omega, fun j hj => h2 j (by omega)⟩
theorem lent_bytes {w : World} {g n : Nat} {zs : List Int} (hl : zs.length = n) (hle : n ≤ 140737488351232) (hbd : ∀ x ∈ zs, 0 ≤ x ∧ x ≤ 255) (hg : w.heap[g]? = some (.cells (lentRow zs 4).toArray 5 (0, 0))) : Bytes w (some ⟨g, 0, none⟩) n (n + 4) zs := by
  refine ⟨hl, hle, by omega, hbd, fun hn => ⟨g, 0, rfl, (Array.getElem?_eq_some_iff.1 hg).1, fun j hj => ?_⟩⟩
  rw [cell_of_row w g (0 + j) _ _ _ hg, List.getElem?_toArray, Nat.zero_add]
  exact lentRow_lt zs j (by omega)
theorem row_bytes {w : World} {g n c : Nat} {cur : Array Value} {zs : List Int} (hl : zs.length = n) (hn : n ≤ 1000) (hc : n ≤ c) (hbd : ∀ x ∈ zs, 0 ≤ x ∧ x ≤ 255) (hg : w.heap[g]? = some (.cells cur 5 (0, 0))) (ht : cur.toList.take n = u8s zs) : Bytes w (some ⟨g, 0, none⟩) n c zs := by
  refine ⟨hl, by omega, hc, hbd, fun _ => ⟨g, 0, rfl, (Array.getElem?_eq_some_iff.1 hg).1, fun j hj => ?_⟩⟩
  rw [cell_of_row w g (0 + j) _ _ _ hg, Nat.zero_add, ← Array.getElem?_toList]
  have : (cur.toList.take n)[j]? = some (.int .u8 (zs.getD j 0)) := by
    rw [ht]; unfold u8s
    rw [List.getElem?_map, List.getD_eq_getElem?_getD, List.getElem?_eq_getElem (by omega)]; rfl
  rw [List.getElem?_take, if_pos hj] at this
  exact this
theorem nil_bytes (w : World) : Bytes w none 0 0 [] := ⟨rfl, by decide, by decide, (fun x h => by cases h), (fun h => by omega)⟩
theorem formed_both {w3 w4 w5 : World} {w4' : World} {s1 s2 : Value} {er : Int} {fl : List Int} {B : Nat} (h1 : Formed w3 w4 s1 er fl) (h2 : RefFormed w4' w5 s2 er fl) (hb : Below w4.heap.size w4 w5) (hB : B ≤ w3.heap.size) (hbd0 : er = 0 → ∀ x ∈ fl, 0 ≤ x ∧ x ≤ 255) (hl : fl.length = 48) :
    ∃ a1 a2 nn c2 zz, s1 = .slice a1 nn nn ∧ s2 = .slice a2 nn c2 ∧ Bytes w5 a1 nn nn zz ∧ Bytes w5 a2 nn c2 zz ∧ Full w5 B a1 nn ∧ nn ≤ 900 ∧ ∀ g, a1 = some ⟨g, 0, none⟩ → w3.heap.size ≤ g := by
  rcases h1 with ⟨he, rfl⟩ | ⟨he, g, hg, rfl, hrow⟩
  · rcases h2 with ⟨_, rfl⟩ | ⟨he', _⟩
    · exact ⟨none, none, 0, 0, [], rfl, rfl, nil_bytes _, nil_bytes _, Or.inl ⟨rfl, rfl⟩, by decide, fun g h => by cases h⟩
    · exact absurd he' he
  · rcases h2 with ⟨he', _⟩ | ⟨_, hown⟩
    · exact absurd he he'
    · have hbd := hbd0 he
      have hrow5 : w5.heap[g]? = some (.cells (fl.map (Value.int .u8)).toArray 5 (0, 0)) := by rw [hb.block g (Array.getElem?_eq_some_iff.1 hrow).1]; exact hrow
      rcases hown.2 with ⟨_, h0⟩ | ⟨g2, c2, cur, rfl, _, hg2, hc2, _, hcs, htk⟩
      · omega
      · refine ⟨some ⟨g, 0, none⟩, some ⟨g2, 0, none⟩, 48, c2, fl, rfl, rfl, row_bytes hl (by decide) (Nat.le_refl _) hbd hrow5 ?_, row_bytes hl (by decide) hc2 hbd hg2 htk, Or.inr ⟨g, _, rfl, by omega, hrow5, by simp [hl]⟩, by decide, fun g' h => by cases h; exact hg⟩
        rw [List.toList_toArray, List.take_of_length_le (by simp [hl])]; rfl
theorem Full.below {w w' : World} {B n : Nat} {ao : Option Addr} (h : Full w B ao n) (hb : Below w.heap.size w w') : Full w' B ao n := by
  rcases h with h | ⟨g, cur, h1, h2, h3, h4⟩
  · exact Or.inl h
  · exact Or.inr ⟨g, cur, h1, h2, by rw [hb.block g (Array.getElem?_eq_some_iff.1 h3).1]; exact h3, h4⟩
theorem bytes4_bd (n : Int) : ∀ x ∈ bytes4 n, 0 ≤ x ∧ x ≤ 255 := by
  intro x hx; unfold bytes4 at hx; simp only [List.mem_cons, List.not_mem_nil, or_false] at hx
  rcases hx with rfl | rfl | rfl | rfl <;> omega
theorem bytes8_bd (n : Int) : ∀ x ∈ bytes8 n, 0 ≤ x ∧ x ≤ 255 := by
  intro x hx; unfold bytes8 at hx; simp only [List.mem_cons, List.not_mem_nil, or_false] at hx
  rcases hx with rfl | rfl | rfl | rfl | rfl | rfl | rfl | rfl <;> omega
theorem formList_bd (b0 b1 b2 b3 f gg h i j k l : Int) (h0 : 0 ≤ b0 ∧ b0 ≤ 255) (h1 : 0 ≤ b1 ∧ b1 ≤ 255) (h2 : 0 ≤ b2 ∧ b2 ≤ 255) (h3 : 0 ≤ b3 ∧ b3 ≤ 255) : ∀ x ∈ formList b0 b1 b2 b3 f gg h i j k l, 0 ≤ x ∧ x ≤ 255 := by
  intro x hx
  unfold formList at hx
  simp only [List.mem_append, List.mem_cons, List.not_mem_nil, or_false] at hx
  rcases hx with ((((((((rfl | rfl | rfl | rfl) | hx) | hx) | hx) | hx) | hx) | hx) | hx)
  · exact h0
  · exact h1
  · exact h2
  · exact h3
  · exact bytes4_bd _ x hx
  · exact bytes4_bd _ x hx
  · exact bytes4_bd _ x hx
  · exact bytes8_bd _ x hx
  · exact bytes8_bd _ x hx
  · exact bytes8_bd _ x hx
  · exact bytes8_bd _ x hx

theorem form_bd (a v m c d e f gg h i j k l : Int) (he : formErr a v m c d e = 0) : ∀ x ∈ formList (a * 64 + v * 8 + m) (c % 256) (d % 256) (e % 256) f gg h i j k l, 0 ≤ x ∧ x ≤ 255 := by
  have hfit : fitsB a c d e = true := by
    cases hf : fitsB a c d e with
    | true => rfl
    | false => unfold formErr at he; rw [if_pos hf] at he; cases he
  have hk : kindOf v m = 0 := by unfold formErr at he; rw [if_neg (by simp [hfit])] at he; exact he
  obtain ⟨kv, km⟩ := kind_bd v m hk
  have ba : 0 ≤ a ∧ a ≤ 3 := by
    unfold fitsB at hfit; simp only [Bool.and_eq_true, decide_eq_true_eq] at hfit; exact hfit.1.1.1
  exact formList_bd _ _ _ _ _ _ _ _ _ _ _ (by omega) (by omega) (by omega) (by omega)

set_option maxRecDepth 100000 in
set_option maxHeartbeats 4000000 in
theorem parses_walk (a v m c d e f gg h i j k l : Int) (o : Option Addr) (n cap : Nat) (zs : List Int) (w : World) (hF : Fits a v m c d e f gg h i j k l) (hb : Bytes w o n cap zs) :
    Calls Try.prog 3 #[.slice o n cap, .agg #[.int .i64 a, .int .i64 v, .int .i64 m, .int .i64 c, .int .i64 d, .int .i64 e, .int .u32 f, .int .u32 gg, .int .u32 h, .int .u64 i, .int .u64 j, .int .u64 k, .int .u64 l]] w fun r w' => r = .returned (.bool true) ∧ Below w.heap.size w w' := by
  have HF : Hid (Fits a v m c d e f gg h i j k l) := hF
  have HB : Hid (Bytes w o n cap zs) := hb
  have HL : Hid (zs.length = n ∧ n ≤ 140737488351232 ∧ ∀ x ∈ zs, 0 ≤ x ∧ x ≤ 255) := ⟨hb.hlen, hb.hle, hb.hbd⟩
  obtain ⟨r, hr⟩ : ∃ r, r = parseOf n (fun j => zs.getD j 0) := ⟨_, rfl⟩
  have HR : Hid (r = parseOf n (fun j => zs.getD j 0)) := hr
  clear hF hb hr
  go_enter Try.func3, Try.ntmps3
  go_wp2
  go_loopw [6] (fun t wr => ∃ q : Nat, q ≤ 2 ∧ t = .int .i64 q ∧ Booked wr (w.heap.size + 1) wr.heap.size q ∧ Below (w.heap.size + 1) (w.alloc (.cells #[.int .i64 a, .int .i64 v, .int .i64 m, .int .i64 c, .int .i64 d, .int .i64 e, .int .u32 f, .int .u32 gg, .int .u32 h, .int .u64 i, .int .u64 j, .int .u64 k, .int .u64 l] 26)) wr) (fun t _ => 2 - (intOf t).toNat)
  case atStart =>
    refine ⟨0, by decide, rfl, ?_, (Below.refl _ _).alloc (by simp) _⟩
    have := booked_new (w.alloc (.cells #[.int .i64 a, .int .i64 v, .int .i64 m, .int .i64 c, .int .i64 d, .int .i64 e, .int .u32 f, .int .u32 gg, .int .u32 h, .int .u64 i, .int .u64 j, .int .u64 k, .int .u64 l] 26))
    rw [World.size_alloc] at this
    exact this.more (by simp) (Nat.le_refl _)
  case round =>
    obtain ⟨q, hq, rfl, hbk, hbw⟩ := hrel
    have HK : Hid (Booked wr (w.heap.size + 1) wr.heap.size q) := hbk
    have HW : Hid (Below (w.heap.size + 1) (w.alloc (.cells #[.int .i64 a, .int .i64 v, .int .i64 m, .int .i64 c, .int .i64 d, .int .i64 e, .int .u32 f, .int .u32 gg, .int .u32 h, .int .u64 i, .int .u64 j, .int .u64 k, .int .u64 l] 26)) wr) := hbw
    have HWW : Hid (Below w.heap.size w wr) := ((Below.refl _ _).alloc (Nat.le_refl _) _).trans (hbw.mono (Nat.le_succ _))
    clear hbk hbw
    by_cases hlt : q < 2
    · have hq' : (q : Int) < 2 := by omega
      go_wp2_with fail
      refine (lent_any o n cap zs wr (HB.out.below HWW.out)).mono ?_
      rintro r1 w1 ⟨rfl, hrow, hb1⟩
      have R1 : Hid (w1.heap[wr.heap.size]? = some (.cells (lentRow zs 4).toArray 5 (0, 0))) := hrow
      have B1 : Hid (Below wr.heap.size wr w1) := hb1
      clear hrow hb1
      go_wp2_with fail
      refine (parse_any _ n (n + 4) _ w1 (lent_bytes HL.out.1 HL.out.2.1 HL.out.2.2 R1.out).b48 r HR.out).mono ?_
      rintro r1 w2 ⟨rfl, hb2⟩
      have B2 : Hid (Below w1.heap.size w1 w2) := hb2
      clear hb2
      obtain ⟨⟨x1, x2, x3, x4, x5, x6, x7, x8, x9, x10, x11, x12, x13⟩, xe⟩ := r
      simp only [Pk.cells]
      go_wp2_with fail
      have zr : w.heap.size + 1 < wr.heap.size := HK.out.lt
      have z1 : wr.heap.size < w1.heap.size := (Array.getElem?_eq_some_iff.1 R1.out).1
      have z2 : w1.heap.size ≤ w2.heap.size := B2.out.size
      have A2 : Hid (Below wr.heap.size wr w2) := B1.out.trans (B2.out.mono (by omega))
      have ZZ : Hid (w.heap.size + 1 < wr.heap.size ∧ wr.heap.size < w1.heap.size ∧ w1.heap.size ≤ w2.heap.size) := ⟨zr, z1, z2⟩
      refine (refParse_any o n cap _ (w2.alloc (.cells #[.int .i64 x1, .int .i64 x2, .int .i64 x3, .int .i64 x4, .int .i64 x5, .int .i64 x6, .int .u32 x7, .int .u32 x8, .int .u32 x9, .int .u64 x10, .int .u64 x11, .int .u64 x12, .int .u64 x13] 26)) (HB.out.below (HWW.out.trans ((A2.out.mono (by omega)).trans ((Below.refl _ _).alloc (by omega) _)))).b48 _ HR.out).mono ?_
      rintro r1 w3 ⟨rfl, hb3⟩
      have B3 : Hid (Below (w2.heap.size + 1) (w2.alloc (.cells #[.int .i64 x1, .int .i64 x2, .int .i64 x3, .int .i64 x4, .int .i64 x5, .int .i64 x6, .int .u32 x7, .int .u32 x8, .int .u32 x9, .int .u64 x10, .int .u64 x11, .int .u64 x12, .int .u64 x13] 26)) w3) := by rw [World.size_alloc] at hb3; exact hb3
      have z3 : w2.heap.size + 1 ≤ w3.heap.size := by have := B3.out.size; rw [World.size_alloc] at this; exact this
      have A3 : Hid (Below wr.heap.size wr w3) := A2.out.trans (((Below.refl _ _).alloc (by omega) _).trans (B3.out.mono (by omega)))
      have cp3 : ∀ o, w3.cell? ⟨w.heap.size, o, none⟩ = (w.alloc (.cells #[.int .i64 a, .int .i64 v, .int .i64 m, .int .i64 c, .int .i64 d, .int .i64 e, .int .u32 f, .int .u32 gg, .int .u32 h, .int .u64 i, .int .u64 j, .int .u64 k, .int .u64 l] 26)).cell? ⟨w.heap.size, o, none⟩ := fun o => by
        rw [A3.out.cell (p := ⟨w.heap.size, o, none⟩) (by show w.heap.size < _; omega), HW.out.cell (p := ⟨w.heap.size, o, none⟩) (Nat.lt_succ_self _)]
      have lt3 : w.heap.size < w3.heap.size := by omega
      have ZZ3 : Hid (w2.heap.size + 1 ≤ w3.heap.size) := z3
      clear hb3 zr z1 z2 z3
      simp only [Pk.cells]
      go_wp2_with fail
      refine (form_any a v m c d e f gg h i j k l _ HF.out).mono ?_
      rintro r1 w4 ⟨s1, rfl, hf1, hb4⟩
      have B4 : Hid (Below (w3.heap.size + 1) (w3.alloc (.cells #[.int .i64 x1, .int .i64 x2, .int .i64 x3, .int .i64 x4, .int .i64 x5, .int .i64 x6, .int .u32 x7, .int .u32 x8, .int .u32 x9, .int .u64 x10, .int .u64 x11, .int .u64 x12, .int .u64 x13] 26)) w4) := by rw [World.size_alloc] at hb4; exact hb4
      have F1 : Hid (Formed (w3.alloc (.cells #[.int .i64 x1, .int .i64 x2, .int .i64 x3, .int .i64 x4, .int .i64 x5, .int .i64 x6, .int .u32 x7, .int .u32 x8, .int .u32 x9, .int .u64 x10, .int .u64 x11, .int .u64 x12, .int .u64 x13] 26)) w4 s1 (formErr a v m c d e) (formList (a * 64 + v * 8 + m) (c % 256) (d % 256) (e % 256) f gg h i j k l)) := hf1
      have z4 : w3.heap.size + 1 ≤ w4.heap.size := by have := B4.out.size; rw [World.size_alloc] at this; exact this
      have ZZ4 : Hid (w3.heap.size + 1 ≤ w4.heap.size) := z4
      have cp4 : ∀ o, w4.cell? ⟨w.heap.size, o, none⟩ = (w.alloc (.cells #[.int .i64 a, .int .i64 v, .int .i64 m, .int .i64 c, .int .i64 d, .int .i64 e, .int .u32 f, .int .u32 gg, .int .u32 h, .int .u64 i, .int .u64 j, .int .u64 k, .int .u64 l] 26)).cell? ⟨w.heap.size, o, none⟩ := fun o => by
        rw [B4.out.cell (p := ⟨w.heap.size, o, none⟩) (Nat.lt_succ_of_lt lt3), World.cell?_alloc_past _ _ _ lt3]; exact cp3 o
      clear hf1 hb4 z4 cp3 lt3
      go_wp2_with fail
      refine (refForm_any a v m c d e f gg h i j k l _ HF.out).mono ?_
      rintro r1 w5 ⟨s2, rfl, hf2, hb5⟩
      have B5 : Hid (Below w4.heap.size w4 w5) := hb5
      have F2 : Hid (RefFormed w4 w5 s2 (formErr a v m c d e) (formList (a * 64 + v * 8 + m) (c % 256) (d % 256) (e % 256) f gg h i j k l)) := hf2
      clear hf2 hb5 cp4
      go_wp2_with fail
      have hzz := ZZ.out
      have hz3 := ZZ3.out
      have hz4 := ZZ4.out
      have hz5 := B5.out.size
      obtain ⟨a1, a2, nn, c2, zz, rfl, rfl, by1, by2, hfull, hnn, hg1⟩ := formed_both (B := wr.heap.size) F1.out F2.out B5.out (by rw [World.size_alloc]; omega) (form_bd a v m c d e f gg h i j k l) (formList_len ..)
      have HG1 : Hid (∀ g, a1 = some ⟨g, 0, none⟩ → w3.heap.size + 1 ≤ g) := by intro g hg; have := hg1 g hg; rw [World.size_alloc] at this; exact this
      have FU5 : Hid (Full w5 wr.heap.size a1 nn) := hfull
      have Y5 : Hid (Below (w3.heap.size + 1) (w3.alloc (.cells #[.int .i64 x1, .int .i64 x2, .int .i64 x3, .int .i64 x4, .int .i64 x5, .int .i64 x6, .int .u32 x7, .int .u32 x8, .int .u32 x9, .int .u64 x10, .int .u64 x11, .int .u64 x12, .int .u64 x13] 26)) w5) := B4.out.trans (B5.out.mono (by omega))
      have X5 : Hid (Below (w2.heap.size + 1) (w2.alloc (.cells #[.int .i64 x1, .int .i64 x2, .int .i64 x3, .int .i64 x4, .int .i64 x5, .int .i64 x6, .int .u32 x7, .int .u32 x8, .int .u32 x9, .int .u64 x10, .int .u64 x11, .int .u64 x12, .int .u64 x13] 26)) w5) := B3.out.trans (((Below.refl _ _).alloc (by omega) _).trans (Y5.out.mono (by omega)))
      have T5 : Hid (Below w1.heap.size w1 w5) := B2.out.trans (((Below.refl _ _).alloc (by omega) _).trans (X5.out.mono (by omega)))
      have A5 : Hid (Below wr.heap.size wr w5) := B1.out.trans (T5.out.mono (by omega))
      clear B1 B2 B3 B4 A2 A3 F1 F2 hg1 hfull
      refine (same_true a1 a2 nn nn c2 zz w5 by1 by2).mono ?_
      rintro r1 w6 ⟨rfl, m6, hw6⟩
      have z6 : w6.heap.size = w5.heap.size := by rw [hw6]; rfl
      have B6 : Hid (Below w5.heap.size w5 w6) := by rw [hw6]; exact below_drewN (Below.refl _ _) _
      have ZA : Hid (wr.heap.size < w2.heap.size ∧ w2.heap.size < w3.heap.size ∧ w3.heap.size < w6.heap.size ∧ wr.heap.size < w1.heap.size ∧ w5.heap.size = w6.heap.size ∧ w.heap.size + 1 < wr.heap.size) := ⟨by omega, by omega, by omega, by omega, by omega, by omega⟩
      have ZB : Hid (w1.heap.size ≤ w5.heap.size) := T5.out.size
      clear hw6 z6 by1 by2 hzz hz3 hz4 hz5 ZZ ZZ3 ZZ4
      go_wp2_with fail
      refine (take_any (w.heap.size + 1) wr.heap.size q a1 nn w6 (HK.out.below (A5.out.trans (B6.out.mono (by have := ZA.out; omega)))) (FU5.out.below B6.out) hnn (by omega)).mono ?_
      rintro r1 w7 ⟨rfl, hk7, hst⟩
      have K7 : Hid (Booked w7 (w.heap.size + 1) w7.heap.size (q + 1)) := hk7
      have ST : Hid (Stay w6 w7 (w.heap.size + 1) wr.heap.size a1) := hst
      have W7 : Hid (Below (w.heap.size + 1) (w.alloc (.cells #[.int .i64 a, .int .i64 v, .int .i64 m, .int .i64 c, .int .i64 d, .int .i64 e, .int .u32 f, .int .u32 gg, .int .u32 h, .int .u64 i, .int .u64 j, .int .u64 k, .int .u64 l] 26)) w7) := HW.out.trans ((A5.out.mono (by have := ZA.out; omega)).trans ((B6.out.mono (by have := ZA.out; omega)).trans hst.1))
      have WW7 : Hid (Below w.heap.size w w7) := ((Below.refl _ _).alloc (Nat.le_refl _) _).trans (W7.out.mono (Nat.le_succ _))
      have S67 : ∀ b, wr.heap.size ≤ b → b < w3.heap.size + 1 → w7.heap[b]? = w5.heap[b]? := fun b h1 h2 => by
        have hz := ZA.out
        rw [hst.2 b h1 (by omega) (fun g hg => by have := HG1.out g hg; omega), B6.out.block b (by omega)]
      have R7 : Hid (w7.heap[wr.heap.size]? = some (.cells (lentRow zs 4).toArray 5 (0, 0))) := by
        have hz := ZA.out
        show _ = _
        rw [S67 _ (Nat.le_refl _) (by omega), T5.out.block _ (by omega)]; exact R1.out
      have CX : Hid (∀ o, w7.cell? ⟨w2.heap.size, o, none⟩ = (w2.alloc (.cells #[.int .i64 x1, .int .i64 x2, .int .i64 x3, .int .i64 x4, .int .i64 x5, .int .i64 x6, .int .u32 x7, .int .u32 x8, .int .u32 x9, .int .u64 x10, .int .u64 x11, .int .u64 x12, .int .u64 x13] 26)).cell? ⟨w2.heap.size, o, none⟩) := fun o => by
        have hz := ZA.out
        rw [World.cell?_of_block (w := w5) (a := ⟨w2.heap.size, o, none⟩) (S67 w2.heap.size (by omega) (by omega)), X5.out.cell (p := ⟨w2.heap.size, o, none⟩) (Nat.lt_succ_self _)]
      have CY : Hid (∀ o, w7.cell? ⟨w3.heap.size, o, none⟩ = (w3.alloc (.cells #[.int .i64 x1, .int .i64 x2, .int .i64 x3, .int .i64 x4, .int .i64 x5, .int .i64 x6, .int .u32 x7, .int .u32 x8, .int .u32 x9, .int .u64 x10, .int .u64 x11, .int .u64 x12, .int .u64 x13] 26)).cell? ⟨w3.heap.size, o, none⟩) := fun o => by
        have hz := ZA.out
        rw [World.cell?_of_block (w := w5) (a := ⟨w3.heap.size, o, none⟩) (S67 w3.heap.size (by omega) (by omega)), Y5.out.cell (p := ⟨w3.heap.size, o, none⟩) (Nat.lt_succ_self _)]
      clear hk7 hst S67 B5 B6 FU5 HK HW HWW R1 HG1 Y5 X5 T5 A5 ZA ZB
      go_wp2_with fail
      refine (stays_true wr.heap.size o n cap zs w7 R7.out (HB.out.below WW7.out)).mono ?_
      rintro r1 w8 ⟨rfl, m8, hw8⟩
      have hh8 : w8.heap = w7.heap := by rw [hw8]; rfl
      have B8 : Hid (Below w7.heap.size w7 w8) := by rw [hw8]; exact below_drewN (Below.refl _ _) _
      have K8 : Hid (Booked w8 (w.heap.size + 1) w8.heap.size (q + 1)) := by
        have := K7.out.below B8.out
        rw [← hh8] at this
        exact this
      have W8 : Hid (Below (w.heap.size + 1) (w.alloc (.cells #[.int .i64 a, .int .i64 v, .int .i64 m, .int .i64 c, .int .i64 d, .int .i64 e, .int .u32 f, .int .u32 gg, .int .u32 h, .int .u64 i, .int .u64 j, .int .u64 k, .int .u64 l] 26)) w8) := by rw [hw8]; exact below_drewN W7.out _
      have cx : ∀ o, w8.cell? ⟨w2.heap.size, o, none⟩ = (w2.alloc (.cells #[.int .i64 x1, .int .i64 x2, .int .i64 x3, .int .i64 x4, .int .i64 x5, .int .i64 x6, .int .u32 x7, .int .u32 x8, .int .u32 x9, .int .u64 x10, .int .u64 x11, .int .u64 x12, .int .u64 x13] 26)).cell? ⟨w2.heap.size, o, none⟩ := fun o => by
        rw [← CX.out o]; rw [hw8]; rfl
      have cy : ∀ o, w8.cell? ⟨w3.heap.size, o, none⟩ = (w3.alloc (.cells #[.int .i64 x1, .int .i64 x2, .int .i64 x3, .int .i64 x4, .int .i64 x5, .int .i64 x6, .int .u32 x7, .int .u32 x8, .int .u32 x9, .int .u64 x10, .int .u64 x11, .int .u64 x12, .int .u64 x13] 26)).cell? ⟨w3.heap.size, o, none⟩ := fun o => by
        rw [← CY.out o]; rw [hw8]; rfl
      clear hw8 hh8 B8 K7 W7 WW7 R7 CX CY ST
      go_wp2_with fail
      refine (kept_true (w.heap.size + 1) w8.heap.size (q + 1) w8 K8.out).mono ?_
      rintro r1 w9 ⟨rfl, rfl⟩
      go_wp2
      go_roundw
      case rel => exact ⟨q + 1, by omega, by go_num, K8.out, W8.out⟩
      case measure => simp [intOf]; omega
    · go_wp2
      go_ret
      exact ⟨rfl, HWW.out⟩
end Go.Proofs.Ytjdcnlggpfkopaa
