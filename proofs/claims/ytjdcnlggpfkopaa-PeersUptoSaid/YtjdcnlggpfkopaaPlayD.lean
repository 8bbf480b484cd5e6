/- A step of a script: a question. -/
import Derived.Test.YtjdcnlggpfkopaaPlayC
namespace Go.Proofs.Ytjdcnlggpfkopaa
open Go.ChangeShapes Go.WideShapes Go.ChangeAt Go.RowKit
set_option linter.unusedVariables false

theorem Booked.movedB {w w' : World} {bo B m : Nat} {S : Nat → Prop} (h : Booked w bo B m) (hm : Moved w w' S) (hs : ∀ k cs ty fr, S k → w.heap[k]? = some (.cells cs ty fr) → Odd ty) : Booked w' bo B m := by
  obtain ⟨bv, vs, h1, h2, h3, h4⟩ := h.row
  have key : ∀ (k : Nat) (cs : Array Value) (ty : TypeId) (fr : Nat × Nat), w.heap[k]? = some (.cells cs ty fr) → ¬ Odd ty → w'.heap[k]? = some (.cells cs ty fr) := fun k cs ty fr hk ho => by rw [hm.block k (Array.getElem?_eq_some_iff.1 hk).1 (fun hS => ho (hs k cs ty fr hS hk))]; exact hk
  refine ⟨h.hm, h.lt, Nat.le_trans h.le hm.size, bv, vs, key _ _ _ _ h1 (fun ho => ho.1 rfl), owns_moved h2 hm ?_, h3, fun i v hi => (h4 i v hi).keep (Nat.le_refl _) fun b cur hbB hc => key _ _ _ _ hc (fun ho => ho.2.2 rfl)⟩
  intro k hk hS
  rcases h2.2 with ⟨rfl, _⟩ | ⟨g, cap, cur, rfl, _, hr, _⟩
  · cases hk
  · simp [Value.ownBlock] at hk
    subst hk
    exact (hs g _ _ _ hS hr).2.1 rfl
theorem Twin.frame {w w' : World} {bp br N : Nat} {ow : Option Nat} {W0 : Nat} {S : Nat → Prop} (h : Twin w bp br N ow) (hf : Frame w w' W0 S) (h1 : ¬ S bp) (h2 : ¬ S br) (h3 : ∀ k, ow = some k → ¬ S k) : Twin w' bp br N ow := by
  obtain ⟨wt, t, sm, a, cc, base, ss, hp, hr, ho, hb, hl, hs, ht, how⟩ := h.ex
  refine ⟨wt, t, sm, a, cc, base, ss, ?_, ?_, ⟨ho.1, ?_⟩, Nat.le_trans hb hf.bel.size, hl, hs, ht, how⟩
  · unfold PeerAt; rw [hf.others bp _ _ _ hp ⟨by decide, by decide, by decide⟩ h1]; exact hp
  · unfold RefAt; rw [hf.others br _ _ _ hr ⟨by decide, by decide, by decide⟩ h2]; exact hr
  · rcases ho.2 with h | ⟨g, cap, cur, e1, e2, e3, e4⟩
    · exact Or.inl h
    · refine Or.inr ⟨g, cap, cur, e1, e2, ?_, e4⟩
      rw [hf.others g _ _ _ e3 ⟨by decide, by decide, by decide⟩ (h3 g (by rw [← how, e1]; simp [Value.ownBlock]))]; exact e3
set_option maxRecDepth 100000 in
set_option maxHeartbeats 4000000 in
theorem play_ask (bx bp br bo N m : Nat) (ow : Option Nat) (pe u : Int) (ob : Option Addr) (nb cb : Nat) (w : World) (hX : PairAt w bx bp br bo) (hT : Twin w bp br N ow) (hu : 0 ≤ u ∧ u ≤ 18446744073709551615) (hK : Booked w bo w.heap.size m) (hm : m < 100000000) :
    Calls Try.prog 24 #[.pointer (some ⟨bx, 0, none⟩), .agg #[.int .i64 1, .int .i64 pe, .int .u64 u, .slice ob nb cb]] w fun e w' => e = .returned (.bool true) ∧ Booked w' bo w'.heap.size (m + 1) ∧ Twin w' bp br N ow ∧ ∀ W0, W0 ≤ bo → W0 ≤ bp → W0 ≤ br → Frame w w' W0 (S3 bp br ow) := by
  have hbx : bx < w.heap.size := (Array.getElem?_eq_some_iff.1 hX).1
  have c0 : w.cell? ⟨bx, 0, none⟩ = some (.pointer (some ⟨bp, 0, none⟩)) := by rw [cell_of_row w bx 0 _ _ _ hX]; rfl
  have HX := hid_of hX
  have HT := hid_of hT
  have HK := hid_of hK
  clear hX hT hK
  go_enter Try.func24, Try.ntmps24
  go_wp2_with fail
  obtain ⟨wt, t, sm, a, cc, base, ss, hp, hr, hO, hbase, hl, hS, ht, hown⟩ := HT.out.ex
  have BA : Below w.heap.size w (w.alloc (.cells #[.int .i64 1, .int .i64 pe, .int .u64 u, .slice ob nb cb] 60)).drew := ((Below.refl _ _).alloc (Nat.le_refl _) _).drew
  have zA : (w.alloc (.cells #[.int .i64 1, .int .i64 pe, .int .u64 u, .slice ob nb cb] 60)).drew.heap.size = w.heap.size + 1 := by simp
  have r0 : (w.alloc (.cells #[.int .i64 1, .int .i64 pe, .int .u64 u, .slice ob nb cb] 60)).drew.heap[w.heap.size]? = some (.cells #[.int .i64 1, .int .i64 pe, .int .u64 u, .slice ob nb cb] 60 (0, 0)) := heap_alloc_new _ _
  have HPp := hid_of (hp.below BA)
  have HRr := hid_of hr
  have HO := hid_of hO
  have HBA := hid_of BA
  have HZA := hid_of zA
  have HR0 := hid_of r0
  have HH := hid_of (And.intro hbase (And.intro hl (And.intro hS hown)))
  have n2 : bx ≠ bp := fun e => by subst e; have h := HX.out; unfold PeerAt at hp; unfold PairAt at h; rw [h] at hp; cases hp
  have n3 : bx ≠ br := fun e => by subst e; have h := HX.out; unfold RefAt at hr; unfold PairAt at h; rw [h] at hr; cases hr
  have n1 : bp ≠ br := fun e => by subst e; unfold PeerAt at hp; unfold RefAt at hr; rw [hp] at hr; cases hr
  have hbp : bp < w.heap.size := (Array.getElem?_eq_some_iff.1 hp).1
  have hbr : br < w.heap.size := (Array.getElem?_eq_some_iff.1 hr).1
  clear hp hr hO hbase hl hS ht hown BA zA r0
  refine region_tailS 6 (by kernel_rfl) (by kernel_rfl) ?_
  simp only [List.take_succ_cons, List.take_zero, List.drop_succ_cons, List.drop_zero]
  repeat (apply StillS.step; intro K hK; constructor; go_simp; apply hK; clear hK K)
  apply StillS.nil
  go_wp2_with fail
  refine (ask_any bp wt t u sm _ _ HPp.out hu).mono ?_
  rintro e w1 ⟨s, rfl, hf1, hp1, ht1⟩
  have T1 := hid_of ht1
  have F1 := hid_of hf1
  have P1 := hid_of hp1
  have l1 : w.heap.size < w1.heap.size := by have := ht1.bel.size; rw [HZA.out] at this; omega
  have RX1 : Hid (w1.heap[w.heap.size]? = some (.cells #[.int .i64 1, .int .i64 pe, .int .u64 u, .slice ob nb cb] 60 (0, 0))) := by show _ = _; rw [ht1.block (by omega) (by rw [HZA.out]; omega)]; exact HR0.out
  have X1 : Hid (PairAt w1 bx bp br bo) := by show w1.heap[bx]? = _; rw [ht1.block n2 (by rw [HZA.out]; omega), HBA.out.block bx hbx]; exact HX.out
  have Q1 : Hid (RefAt w1 br wt t (.slice a N cc)) := by show w1.heap[br]? = _; rw [ht1.block n1.symm (by rw [HZA.out]; omega), HBA.out.block br hbr]; exact HRr.out
  have c1 : w1.cell? ⟨bx, 1, none⟩ = some (.pointer (some ⟨br, 0, none⟩)) := by rw [cell_of_row w1 bx 1 _ _ _ X1.out]; rfl
  have u1 : w1.cell? ⟨w.heap.size, 2, none⟩ = some (.int .u64 u) := by rw [cell_of_row w1 w.heap.size 2 _ _ _ RX1.out]; rfl
  have lx1 : bx < w1.heap.size := by omega
  clear hf1 hp1 ht1 c0 RX1 HR0 HPp HRr
  go_wp2_with fail
  refine region_tailS 6 (by kernel_rfl) (by kernel_rfl) ?_
  simp only [List.take_succ_cons, List.take_zero, List.drop_succ_cons, List.drop_zero]
  repeat (apply StillS.step; intro K hK; constructor; go_simp; apply hK; clear hK K)
  apply StillS.nil
  go_wp2_with fail
  refine (refAsk_any br wt t u _ _ (show RefAt w1.drew br wt t (.slice a N cc) from Q1.out) hu).mono ?_
  rintro e w2 ⟨s', rfl, hf2, hp2, ht2⟩
  have l2 : w1.heap.size ≤ w2.heap.size := ht2.bel.size
  have MA : Moved w w2 (fun k => k = bp ∨ k = br) := (Moved.of_below HBA.out).trans ((Moved.of_turned T1.out (Or.inl rfl)).trans (Moved.of_turned (show Turned w1 w2 br from ⟨(Below.drew (Below.refl _ _)).trans ht2.bel, ht2.rest⟩) (Or.inr rfl)))
  obtain ⟨a1, e1, by1, fu1, g1⟩ := F1.out.bytes (fun _ => form_bd 0 4 3 0 0 0 0 0 0 0 0 0 u (by decide)) (formList_len ..)
  obtain ⟨a2, c2, e2, by2, g2⟩ := hf2.bytes (fun _ => form_bd 0 4 3 0 0 0 0 0 0 0 0 0 u (by decide)) (formList_len ..)
  rw [HZA.out] at fu1 g1
  have e48 : outN 0 = 48 := rfl
  rw [e48] at e1 by1 fu1 e2 by2
  subst e1 e2
  have b1r : ∀ x, a1 = some x → w2.heap[x.block]? = w1.heap[x.block]? := fun x hx => by
    obtain ⟨b, off, h1, h2, _⟩ := by1.hat (by omega)
    rcases fu1 with ⟨h, _⟩ | ⟨g, cur, h, hg, hr, _⟩
    · rw [h] at hx; cases hx
    · rw [h] at hx; cases hx
      exact ht2.block (by simp only; omega) (Array.getElem?_eq_some_iff.1 hr).1
  have by1' := by1.keep (w' := w2) l2 b1r
  have FU2 : Hid (Full w2 w.heap.size a1 48) := by
    rcases fu1 with h | ⟨g, cur, h, hg, hr, hz⟩
    · exact Or.inl h
    · exact Or.inr ⟨g, cur, h, by omega, by have := b1r _ h; simp only at this; rw [this]; exact hr, hz⟩
  have K2 : Hid (Booked w2 bo w.heap.size m) := HK.out.movedB MA (fun k cs ty fr hS hk => HT.out.odd k cs ty fr (by rcases hS with h | h; exact Or.inl h; exact Or.inr (Or.inl h)) hk)
  have T2 : Hid (Twin w2 bp br N ow) := by
    refine ⟨true, u, sm, a, cc, base, ss, ?_, hp2, owns_moved HO.out MA ?_, by have := HH.out.1; omega, HH.out.2.1, HH.out.2.2.1, hu, HH.out.2.2.2⟩
    · unfold PeerAt; rw [ht2.block n1 (by show bp < w1.heap.size; omega)]; exact P1.out
    · intro k hk h
      rw [HH.out.2.2.2] at hk
      obtain ⟨wt', t', sm', a', cc', base', ss', hp', hr', _⟩ := HT.out.ex
      rcases h with h | h
      · exact HT.out.own.2.2.2 bp _ _ _ hp' (by decide) k hk h
      · exact HT.out.own.2.2.2 br _ _ _ hr' (by decide) k hk h
  have X2 : Hid (PairAt w2 bx bp br bo) := HX.out.moved MA (fun h => by rcases h with h | h; exact n2 h; exact n3 h)
  have MM := hid_of MA
  have ow2 : w2.cell? ⟨bx, 2, none⟩ = some (.pointer (some ⟨bo, 0, none⟩)) := by rw [cell_of_row w2 bx 2 _ _ _ X2.out]; rfl
  have lx2 : bx < w2.heap.size := by omega
  clear hf2 hp2 ht2 by1 fu1 b1r g1 g2 c1 u1 F1 P1 T1 Q1 X1 MA HO HH HBA HZA
  go_wp2_with fail
  refine (same_true a1 a2 48 48 c2 _ w2 by1' by2).mono ?_
  rintro e w3 ⟨rfl, m3, hw3⟩
  have B3 : Hid (Below w2.heap.size w2 w3) := by rw [hw3]; exact below_drewN (Below.refl _ _) _
  have ow3 : w3.cell? ⟨bx, 2, none⟩ = some (.pointer (some ⟨bo, 0, none⟩)) := by rw [hw3]; exact ow2
  have lx3 : bx < w3.heap.size := by rw [hw3]; exact lx2
  clear hw3 ow2 by1' by2
  go_wp2_with fail
  refine (takeW_any bo w.heap.size m a1 48 w3 (K2.out.movedB (Moved.of_below (S := fun _ => False) B3.out) (fun _ _ _ _ h => h.elim)) (FU2.out.below B3.out) (by decide) hm).mono ?_
  rintro e w4 ⟨rfl, hk4, hst4, hot4⟩
  have FR : Hid (∀ W0, W0 ≤ bo → Frame w3 w4 W0 (fun _ => False)) := fun W0 h => ⟨hst4.1.mono h, fun k cs ty fr hk ho _ => hot4 k cs ty fr hk ho.1 ho.2.1 ho.2.2⟩
  have K4 := hid_of hk4
  clear hk4 hst4 hot4
  go_wp2
  go_ret
  refine ⟨rfl, K4.out, ?_, fun W0 h1 h2 h3 => ?_⟩
  · exact ((T2.out.below B3.out).frame (FR.out 0 (Nat.zero_le _)) (fun h => h) (fun h => h) (fun _ _ h => h))
  · have F3 : Frame w w3 W0 (fun k => k = bp ∨ k = br) := Frame.of_moved (MM.out.trans (Moved.of_below B3.out)) (by omega) (fun k hk => by rcases hk with rfl | rfl; exact h2; exact h3)
    exact (F3.mono (fun k hk => by rcases hk with h | h; exact Or.inl h; exact Or.inr (Or.inl h))).trans ((FR.out W0 h1).mono (fun _ h => h.elim))
end Go.Proofs.Ytjdcnlggpfkopaa
