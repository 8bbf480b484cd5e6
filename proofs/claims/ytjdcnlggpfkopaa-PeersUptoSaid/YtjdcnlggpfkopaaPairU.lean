/- A pair of peers: an answer is handed to both (the walk). -/
import Derived.Test.YtjdcnlggpfkopaaPairT
namespace Go.Proofs.Ytjdcnlggpfkopaa
open Go.ChangeShapes Go.WideShapes Go.ChangeAt Go.RowKit
set_option linter.unusedVariables false

theorem Moved.restrict {w w' : World} {S : Nat → Prop} (h : Moved w w' (fun k => S k ∨ w.heap.size ≤ k)) : Moved w w' S :=
  ⟨h.os, h.tape, h.output, h.size, fun k h1 h2 => h.block k h1 (fun h3 => by rcases h3 with h3 | h3; exact h2 h3; omega)⟩
/-- Both answer alike, whether they keep the sample or not. -/
theorem takes (wt : Bool) (t : Int) (sm : Nat → Int) (ss : List (Int × Int)) (hS : Same8 sm ss) (n : Nat) (z : Nat → Int) (u : Int) :
    ∃ (x y te : Int) (wt' : Bool) (sm' : Nat → Int) (l : List (Int × Int)), l.length ≤ 1 ∧ Same8 sm' (ss ++ l) ∧
      (∀ (bp : Nat) (o : Option Addr) (cap : Nat) (w : World), PeerAt w bp wt t sm ((min ss.length 8 : Nat) : Int) → Bytes48 w o n cap z → Calls Try.prog 66 #[.pointer (some ⟨bp, 0, none⟩), .slice o n cap, .int .u64 u] w fun q w' => q = .returned (.tuple #[.agg #[.int .i64 x, .int .i64 y], .int .i64 te]) ∧ PeerAt w' bp wt' t sm' ((min (ss ++ l).length 8 : Nat) : Int) ∧ Turned w w' bp) ∧
      (∀ (br : Nat) (o : Option Addr) (cap : Nat) (w : World) (a : Option Addr) (c base : Nat), RefAt w br wt t (.slice a ss.length c) → w.ownsRow base 44 2 (.slice a ss.length c) ss.length (smCells ss) → ss.length ≤ 10000000 → base ≤ w.heap.size → Bytes48 w o n cap z → Calls Try.prog 67 #[.pointer (some ⟨br, 0, none⟩), .slice o n cap, .int .u64 u] w fun q w' => q = .returned (.tuple #[.agg #[.int .i64 x, .int .i64 y], .int .i64 te]) ∧ (∃ a' c', RefAt w' br wt' t (.slice a' (ss ++ l).length c') ∧ w'.ownsRow base 44 2 (.slice a' (ss ++ l).length c') (ss ++ l).length (smCells (ss ++ l)) ∧ ∀ k, (Value.slice a' (ss ++ l).length c').ownBlock = some k → (Value.slice a ss.length c).ownBlock = some k ∨ w.heap.size ≤ k) ∧ Moved w w' (fun k => k = br ∨ (Value.slice a ss.length c).ownBlock = some k)) := by
  obtain ⟨r, hr⟩ : ∃ r, r = parseOf n z := ⟨_, rfl⟩
  by_cases he : takeErr r wt t = 0
  · refine ⟨takeX r u, takeY r u, 0, false, keepS sm (min ss.length 8) (takeX r u) (takeY r u), [(takeX r u, takeY r u)], Nat.le_refl _, same_keep sm ss _ _ hS, ?_, ?_⟩
    · intro bp o cap w hP hB
      have := take_ok bp wt t sm (min ss.length 8) o n cap z u w hP hB r hr (by omega) he
      rw [keepN_min ss (takeX r u, takeY r u)] at this
      exact this
    · intro br o cap w a c base hP hO hN hb hB
      have := refTake_ok br wt t a ss.length c ss base o n cap z u w hP hO hN hb hB r hr he
      rw [show (ss ++ [(takeX r u, takeY r u)]).length = ss.length + 1 by simp]
      exact this
  · refine ⟨0, 0, takeErr r wt t, wt, sm, [], by simp, by rw [List.append_nil]; exact hS, ?_, ?_⟩
    · intro bp o cap w hP hB
      refine (take_bad bp wt t sm (min ss.length 8) o n cap z u w hP hB r hr he).mono ?_
      rintro q w' ⟨rfl, hb⟩
      rw [List.append_nil]
      exact ⟨rfl, by unfold PeerAt; rw [hb.block bp (Array.getElem?_eq_some_iff.1 hP).1]; exact hP, Turned.of_below hb (Nat.le_of_lt (Array.getElem?_eq_some_iff.1 hP).1)⟩
    · intro br o cap w a c base hP hO hN hbs hB
      refine (refTake_bad br wt t _ o n cap z u w hP hB r hr he).mono ?_
      rintro q w' ⟨rfl, hb⟩
      rw [List.append_nil]
      exact ⟨rfl, ⟨a, c, hP.below hb, owns_moved hO (Moved.of_below (S := fun _ => False) hb) (fun _ _ h => h), fun k hk => Or.inl hk⟩, Moved.of_below hb⟩
theorem heapSize_drewN (w : World) (m : Nat) : (w.drewN m).heap = w.heap := rfl
set_option maxRecDepth 100000 in
set_option maxHeartbeats 4000000 in
theorem pairTake_any (bx bp br bo N : Nat) (ow : Option Nat) (o : Option Addr) (n cap : Nat) (zs : List Int) (u : Int) (w : World) (hX : PairAt w bx bp br bo) (hT : Twin w bp br N ow) (hN : N < 10000000) (hB : Bytes w o n cap zs) (hrow : ∀ k, ow = some k → 0 < n → ∀ x, o = some x → x.block ≠ k) (how : ∀ k, ow = some k → k < w.heap.size ∧ k ≠ bx) :
    Calls Try.prog 46 #[.pointer (some ⟨bx, 0, none⟩), .slice o n cap, .int .u64 u] w fun e w' => e = .returned (.bool true) ∧ (∃ N' ow', N' ≤ N + 1 ∧ Twin w' bp br N' ow' ∧ ∀ k, ow' = some k → ow = some k ∨ w.heap.size ≤ k) ∧ Moved w w' (S3 bp br ow) := by
  have hfar := bytes_apart hB hT hrow
  obtain ⟨wt, t, sm, a, cc, base, ss, hp, hr, hO, hbase, hl, hS, ht, hown⟩ := hT.ex
  subst hl
  obtain ⟨x, y, te, wt', sm', l, hl1, hS', hpT, hrT⟩ := takes wt t sm ss hS n (fun j => zs.getD j 0) u
  have hbp : bp < w.heap.size := (Array.getElem?_eq_some_iff.1 hp).1
  have hbr : br < w.heap.size := (Array.getElem?_eq_some_iff.1 hr).1
  have hbx : bx < w.heap.size := (Array.getElem?_eq_some_iff.1 hX).1
  have n1 : bp ≠ br := fun e => by subst e; unfold PeerAt at hp; unfold RefAt at hr; rw [hp] at hr; cases hr
  have n2 : bx ≠ bp := fun e => by subst e; unfold PeerAt at hp; unfold PairAt at hX; rw [hX] at hp; cases hp
  have n3 : bx ≠ br := fun e => by subst e; unfold RefAt at hr; unfold PairAt at hX; rw [hX] at hr; cases hr
  have hwp : ∀ k, ow = some k → k ≠ bp := fun k hk => by rw [← hown] at hk; exact owns_ne hO hp (by decide) k hk
  have HX := hid_of hX
  have HPp := hid_of hp
  have HRr := hid_of hr
  have HO := hid_of hO
  have HB := hid_of hB
  have HFAR := hid_of hfar
  have HOW := hid_of how
  have HS := hid_of hS'
  have HBA := hid_of hbase
  have HPT := hid_of hpT
  have HRT := hid_of hrT
  have HL1 := hid_of hl1
  have HTT := hid_of ht
  have HOWN := hid_of hown
  have HWP := hid_of hwp
  have HNN : Hid (ss.length ≤ 10000000) := by show _ ≤ _; omega
  have HL : Hid (zs.length = n ∧ n ≤ 140737488351232 ∧ ∀ x ∈ zs, 0 ≤ x ∧ x ≤ 255) := ⟨hB.hlen, hB.hle, hB.hbd⟩
  have hnle : n ≤ 140737488351232 := hB.hle
  clear hX hT hp hr hO hB hfar how hS hbase hrow hS' hpT hrT hl1 ht hown hwp hN
  go_enter Try.func46, Try.ntmps46
  go_wp2_with fail
  refine (lent_any o n cap zs w HB.out).mono ?_
  rintro e w1 ⟨rfl, hrow1, hb1⟩
  have R1 := hid_of hrow1
  have B1 := hid_of hb1
  have l1 : w.heap.size < w1.heap.size := (Array.getElem?_eq_some_iff.1 hrow1).1
  have X1 : Hid (PairAt w1 bx bp br bo) := by show w1.heap[bx]? = _; rw [hb1.block bx hbx]; exact HX.out
  have c0 : w1.cell? ⟨bx, 0, none⟩ = some (.pointer (some ⟨bp, 0, none⟩)) := by rw [cell_of_row w1 bx 0 _ _ _ X1.out]; rfl
  have lx1 : bx < w1.heap.size := by omega
  clear hrow1 hb1
  go_wp2_with fail
  refine (HPT.out bp _ (n + 4) w1 (by unfold PeerAt; rw [B1.out.block bp hbp]; exact HPp.out) (lent_bytes HL.out.1 HL.out.2.1 HL.out.2.2 R1.out).b48).mono ?_
  rintro e w2 ⟨rfl, hp2, hb2⟩
  have P2 := hid_of hp2
  have M2 : Hid (Moved w w2 (S3 bp br ow)) := (Moved.of_below B1.out).trans (Moved.of_turned hb2 (Or.inl rfl))
  have R2 : Hid (w2.heap[w.heap.size]? = some (.cells (lentRow zs 4).toArray 5 (0, 0))) := by show _ = _; rw [hb2.block (by omega) l1]; exact R1.out
  have Q2 : Hid (RefAt w2 br wt t (.slice a ss.length cc)) := by show w2.heap[br]? = _; rw [hb2.block n1.symm (by omega), B1.out.block br hbr]; exact HRr.out
  have O2 : Hid (w2.ownsRow base 44 2 (.slice a ss.length cc) ss.length (smCells ss)) := owns_moved HO.out ((Moved.of_below B1.out).trans (Moved.of_turned (S := fun k => k = bp) hb2 rfl)) (fun k hk => HWP.out k (by rw [← HOWN.out]; exact hk))
  have l2 : w1.heap.size ≤ w2.heap.size := hb2.bel.size
  have c1 : w2.cell? ⟨bx, 1, none⟩ = some (.pointer (some ⟨br, 0, none⟩)) := by rw [World.cell?_of_block (w := w1) (a := ⟨bx, 1, none⟩) (show w2.heap[bx]? = w1.heap[bx]? from hb2.block n2 lx1), cell_of_row w1 bx 1 _ _ _ X1.out]; rfl
  have lx2 : bx < w2.heap.size := by omega
  clear hb2 hp2 c0 R1 B1 X1 HPp HRr HO HPT
  go_wp2_with fail
  have BN : Below w2.heap.size w2 (w2.alloc (.cells #[.int .i64 x, .int .i64 y] 44)) := (Below.refl _ _).alloc (Nat.le_refl _) _
  have hb3' : Bytes48 (w2.alloc (.cells #[.int .i64 x, .int .i64 y] 44)) o n cap (fun j => zs.getD j 0) := ((HB.out.moved M2.out HFAR.out).below BN).b48
  refine (HRT.out br o cap _ a cc base (Q2.out.below BN) (owns_moved O2.out (Moved.of_below (S := fun _ => False) BN) (fun _ _ h => h)) HNN.out (by rw [World.size_alloc]; have := HBA.out; omega) hb3').mono ?_
  rintro e w3 ⟨rfl, ⟨a', c', hq3, ho3, hk3⟩, hb3⟩
  have e1 := hb3.size
  rw [World.size_alloc] at e1 hk3
  have low : ∀ k, w.heap.size ≤ k → ¬ (k = br ∨ (Value.slice a ss.length cc).ownBlock = some k) := fun k hk h => by
    rcases h with h | h
    · omega
    · have := (HOW.out k (by rw [← HOWN.out]; exact h)).1; omega
  have s3 : w3.heap[w2.heap.size]? = some (.cells #[.int .i64 x, .int .i64 y] 44 (0, 0)) := by rw [hb3.block _ (by rw [World.size_alloc]; omega) (low _ (by omega))]; exact heap_alloc_new _ _
  have M3 : Hid (Moved w w3 (S3 bp br ow)) := M2.out.trans ((Moved.of_below BN).trans (hb3.mono (fun k hk => by rcases hk with hk | hk; exact Or.inr (Or.inl hk); exact Or.inr (Or.inr (by rw [← HOWN.out]; exact hk)))))
  have R3 : Hid (w3.heap[w.heap.size]? = some (.cells (lentRow zs 4).toArray 5 (0, 0))) := by show _ = _; rw [hb3.block _ (by rw [World.size_alloc]; omega) (low _ (by omega)), BN.block _ (by omega)]; exact R2.out
  have P3 : Hid (PeerAt w3 bp wt' t sm' ((min (ss ++ l).length 8 : Nat) : Int)) := by
    show w3.heap[bp]? = _
    rw [hb3.block bp (by rw [World.size_alloc]; omega) (fun h => by rcases h with h | h; exact n1 h; exact HWP.out bp (by rw [← HOWN.out]; exact h) rfl), BN.block _ (by omega)]; exact P2.out
  have Q3 := hid_of hq3
  have O3 := hid_of ho3
  have K3 : Hid (∀ k, (Value.slice a' (ss ++ l).length c').ownBlock = some k → ow = some k ∨ w.heap.size < k) := fun k hk => by
    rcases hk3 k hk with h | h
    · left; rw [← HOWN.out]; exact h
    · right; omega
  have S3' := hid_of s3
  clear hb3 s3 hb3' c1 R2 M2 BN hq3 ho3 hk3 low P2 Q2 O2 HRT
  go_wp2_with fail
  have BM : Below w3.heap.size w3 (w3.alloc (.cells #[.int .i64 x, .int .i64 y] 44)) := (Below.refl _ _).alloc (Nat.le_refl _) _
  refine (stays_true w.heap.size o n cap zs _ (by rw [BM.block _ (by omega)]; exact R3.out) ((HB.out.moved M3.out HFAR.out).below BM)).mono ?_
  rintro e w4 ⟨rfl, m4, hw4⟩
  have M34 : Hid (Below w3.heap.size w3 w4) := by rw [hw4]; exact below_drewN BM _
  have s4 : w4.heap[w3.heap.size]? = some (.cells #[.int .i64 x, .int .i64 y] 44 (0, 0)) := by rw [hw4]; exact heap_alloc_new _ _
  have z4 : w4.heap.size = w3.heap.size + 1 := by rw [hw4]; show (w3.alloc _).heap.size = _; rw [World.size_alloc]
  have S4 := hid_of s4
  clear hw4 BM s4
  go_wp2_with fail
  go_loopw [13] (fun i wr => ∃ k : Nat, k ≤ n ∧ i = .int .i64 k ∧ (∃ cur, wr.heap[w.heap.size]? = some (.cells cur 5 (0, 0)) ∧ cur.size = n + 4) ∧ Moved w4 wr (fun j => j = w.heap.size)) (fun i _ => n - (intOf i).toNat)
  case atStart =>
    refine ⟨0, by omega, rfl, ⟨_, by rw [M34.out.block _ (by omega)]; exact R3.out, ?_⟩, Moved.refl _ _⟩
    have := lentRow_len zs 4 (by omega)
    rw [HL.out.1] at this
    simpa using this
  case round =>
    obtain ⟨k, hk, rfl, ⟨cur, hg, hcs⟩, hmv⟩ := hrel
    have HG := hid_of hg
    by_cases hlt : k < n
    · have hfr := frozen_of_row wr w.heap.size k _ _ hg
      obtain ⟨old, hold⟩ : ∃ v, wr.cell? ⟨w.heap.size, k, none⟩ = some v := ⟨_, by rw [cell_of_row wr w.heap.size k _ _ _ hg]; exact Array.getElem?_eq_getElem (by omega)⟩
      have hlt' : (k : Int) < (n : Int) := by omega
      clear hg
      go_wp2
      go_roundw
      case rel => exact ⟨k + 1, by omega, by go_num, ⟨_, heap_setCell_same wr w.heap.size k _ _ _ HG.out, by simpa using hcs⟩, hmv.setIn _ _ _ rfl⟩
      case measure => simp [intOf]; omega
    · have hk4 : k = n := by omega
      subst hk4
      have lr : w4.heap.size ≤ wr.heap.size := hmv.size
      have qx : wr.heap[w2.heap.size]? = some (.cells #[.int .i64 x, .int .i64 y] 44 (0, 0)) := by rw [hmv.block _ (by omega) (by omega), M34.out.block _ (by omega)]; exact S3'.out
      have qy : wr.heap[w3.heap.size]? = some (.cells #[.int .i64 x, .int .i64 y] 44 (0, 0)) := by rw [hmv.block _ (by omega) (by omega)]; exact S4.out
      have x0 : wr.cell? ⟨w2.heap.size, 0, none⟩ = some (.int .i64 x) := by rw [cell_of_row _ _ 0 _ _ _ qx]; rfl
      have x1 : wr.cell? ⟨w2.heap.size, 1, none⟩ = some (.int .i64 y) := by rw [cell_of_row _ _ 1 _ _ _ qx]; rfl
      have y0 : wr.cell? ⟨w3.heap.size, 0, none⟩ = some (.int .i64 x) := by rw [cell_of_row _ _ 0 _ _ _ qy]; rfl
      have y1 : wr.cell? ⟨w3.heap.size, 1, none⟩ = some (.int .i64 y) := by rw [cell_of_row _ _ 1 _ _ _ qy]; rfl
      have MV := hid_of hmv
      clear hg qx qy hmv
      go_wp2
      go_ret
      have M3r : Moved w3 wr (fun j => j = w.heap.size) := (Moved.of_below M34.out).trans MV.out
      refine ⟨rfl, ⟨(ss ++ l).length, _, ?_, ⟨wt', t, sm', a', c', base, ss ++ l, ?_, ?_, owns_moved O3.out M3r ?_, ?_, rfl, HS.out, HTT.out, rfl⟩, fun j hj => (K3.out j hj).imp_right Nat.le_of_lt⟩, ?_⟩
      · rw [List.length_append]; have := HL1.out; omega
      · unfold PeerAt; rw [M3r.block bp (by omega) (by omega)]; exact P3.out
      · unfold RefAt; rw [M3r.block br (by omega) (by omega)]; exact Q3.out
      · intro j hj e
        rcases K3.out j hj with h | h
        · have := (HOW.out j h).1; omega
        · omega
      · have := HBA.out; omega
      · refine Moved.restrict ((M3.out.mono (fun j hj => Or.inl hj)).trans (M3r.mono (fun j hj => Or.inr (by omega))))
end Go.Proofs.Ytjdcnlggpfkopaa
