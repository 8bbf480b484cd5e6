/- The law Peers: the walk. -/
import Derived.Test.YtjdcnlggpfkopaaPlayE
namespace Go.Proofs.Ytjdcnlggpfkopaa
open Go.ChangeShapes Go.WideShapes Go.ChangeAt Go.RowKit
set_option linter.unusedVariables false

/-- A step of a script, in its four cells. -/
structure OpAt (w : World) (b o : Nat) (kd pe u : Int) (ob : Option Addr) (nb cb : Nat) (zb : List Int) : Prop where
  c0 : w.cell? ⟨b, o, none⟩ = some (.int .i64 kd)
  c1 : w.cell? ⟨b, o + 1, none⟩ = some (.int .i64 pe)
  c2 : w.cell? ⟨b, o + 2, none⟩ = some (.int .u64 u)
  c3 : w.cell? ⟨b, o + 3, none⟩ = some (.slice ob nb cb)
  hu : 0 ≤ u ∧ u ≤ 18446744073709551615
  hB : Bytes w ob nb cb zb
/-- The script. -/
structure Script (w : World) (sa : Option Addr) (n c : Nat) : Prop where
  hc : n ≤ c
  hn : n ≤ 5000000
  hat : 0 < n → ∃ b off, sa = some ⟨b, off, none⟩ ∧ b < w.heap.size ∧ ∀ i, i < n → ∃ kd pe u ob nb cb zb, OpAt w b (off + i * 4) kd pe u ob nb cb zb
abbrev start (w : World) : World := ((((((w.alloc (.cells #[.slice none 0 0, .slice none 0 0, .slice none 0 0] 32)).alloc (.cells (pcells false 0 (fun _ => 0) 0) 96)).alloc (.cells #[.bool false, .int .u64 0, .slice none 0 0] 56)).alloc
  (.cells #[.pointer (some ⟨w.heap.size + 1, 0, none⟩), .pointer (some ⟨w.heap.size + 1 + 1, 0, none⟩), .pointer (some ⟨w.heap.size, 0, none⟩)] 58)).alloc (.cells (pcells false 0 (fun _ => 0) 0) 96)).alloc (.cells #[.bool false, .int .u64 0, .slice none 0 0] 56)).alloc
  (.cells #[.pointer (some ⟨w.heap.size + 1 + 1 + 1 + 1, 0, none⟩), .pointer (some ⟨w.heap.size + 1 + 1 + 1 + 1 + 1, 0, none⟩), .pointer (some ⟨w.heap.size, 0, none⟩)] 58)
theorem new_at {w : World} {o : Obj} {k : Nat} (h : k = w.heap.size) : (w.alloc o).heap[k]? = some o := by subst h; exact heap_alloc_new _ _
theorem old_at {w : World} {o x : Obj} {k : Nat} (h : w.heap[k]? = some x) : (w.alloc o).heap[k]? = some x := by rw [Below.heap_alloc _ _ _ (Array.getElem?_eq_some_iff.1 h).1]; exact h
theorem twin_new {w : World} {bp br : Nat} (h1 : PeerAt w bp false 0 (fun _ => 0) 0) (h2 : RefAt w br false 0 (.slice none 0 0)) : Twin w bp br 0 none :=
  ⟨false, 0, fun _ => 0, none, 0, 0, [], h1, h2, World.ownsRow_nil _ _ _ _, Nat.zero_le _, rfl, same_nil _, ⟨by decide, by decide⟩, rfl⟩
theorem scene_start (w : World) : Scene (start w) w.heap.size w.heap.size (w.heap.size + 1 + 1 + 1) (w.heap.size + 1 + 1 + 1 + 1 + 1 + 1) 0 := by
  have hsz : (start w).heap.size = w.heap.size + 7 := by simp [start]
  have a0 : (start w).heap[w.heap.size]? = some (.cells #[.slice none 0 0, .slice none 0 0, .slice none 0 0] 32 (0, 0)) := old_at (old_at (old_at (old_at (old_at (old_at (new_at rfl))))))
  refine ⟨w.heap.size + 1, w.heap.size + 1 + 1, w.heap.size + 1 + 1 + 1 + 1, w.heap.size + 1 + 1 + 1 + 1 + 1, 0, 0, 0, none, none, ?_, ?_, twin_new ?_ ?_, twin_new ?_ ?_, ⟨by decide, by omega, Nat.le_refl _, .slice none 0 0, [], a0, World.ownsRow_nil _ _ _ _, (fun k h => by cases h), (fun i v h => by simp at h)⟩, Nat.le_refl _, Nat.le_refl _, Nat.le_refl _, Nat.le_refl _, by omega, by omega, by omega, by omega, (fun k h => by cases h), (fun k h => by cases h), by omega, by omega, (fun k h => by cases h)⟩
  · unfold PairAt; exact old_at (old_at (old_at (new_at (by simp))))
  · unfold PairAt; exact new_at (by simp)
  · unfold PeerAt; exact old_at (old_at (old_at (old_at (old_at (new_at (by simp))))))
  · unfold RefAt; exact old_at (old_at (old_at (old_at (new_at (by simp)))))
  · unfold PeerAt; exact old_at (old_at (new_at (by simp)))
  · unfold RefAt; exact old_at (new_at (by simp))
set_option maxRecDepth 100000 in
set_option maxHeartbeats 4000000 in
theorem peers_walk (sa : Option Addr) (n c : Nat) (w : World) (hS : Script w sa n c) :
    Calls Try.prog 6 #[.slice sa n c] w fun r w' => r = .returned (.bool true) ∧ Below w.heap.size w w' := by
  have HS := hid_of hS
  have hn := hS.hn
  clear hS
  go_enter Try.func6, Try.ntmps6
  go_wp2_with fail
  refine (newPeer_any _).mono ?_
  rintro e w1 ⟨rfl, rfl⟩
  go_wp2_with fail
  refine (newPeer_any _).mono ?_
  rintro e w2 ⟨rfl, rfl⟩
  go_wp2_with fail
  have SC := hid_of (scene_start w)
  have BS : Hid (Below w.heap.size w (start w)) := by
    exact (((((((Below.refl _ _).alloc (Nat.le_refl _) _).alloc (by simp <;> omega) _).alloc (by simp <;> omega) _).alloc (by simp <;> omega) _).alloc (by simp <;> omega) _).alloc (by simp <;> omega) _).alloc (by simp <;> omega) _
  go_loopw [6] (fun i wr => ∃ q : Nat, q ≤ n ∧ i = .int .i64 q ∧ Scene wr w.heap.size w.heap.size (w.heap.size + 1 + 1 + 1) (w.heap.size + 1 + 1 + 1 + 1 + 1 + 1) q ∧ Below w.heap.size w wr) (fun i _ => n - (intOf i).toNat)
  case atStart => exact ⟨0, Nat.zero_le _, rfl, SC.out, BS.out⟩
  case round =>
    clear SC BS
    obtain ⟨q, hq, rfl, hsc, hbw⟩ := hrel
    have SC := hid_of hsc
    have BW := hid_of hbw
    clear hsc hbw
    by_cases hlt : q < n
    · obtain ⟨b, off, rfl, hbs, hop⟩ := HS.out.hat (by omega)
      obtain ⟨kd, pe, u, ob, nb, cb, zb, hO⟩ := hop q hlt
      have HO := hid_of hO
      have d0 : wr.cell? ⟨b, off + q * 4, none⟩ = some (.int .i64 kd) := (BW.out.cell (p := ⟨b, _, none⟩) hbs).trans hO.c0
      have d1 : wr.cell? ⟨b, off + q * 4 + 1, none⟩ = some (.int .i64 pe) := (BW.out.cell (p := ⟨b, _, none⟩) hbs).trans hO.c1
      have d2 : wr.cell? ⟨b, off + q * 4 + 2, none⟩ = some (.int .u64 u) := (BW.out.cell (p := ⟨b, _, none⟩) hbs).trans hO.c2
      have d3 : wr.cell? ⟨b, off + q * 4 + 3, none⟩ = some (.slice ob nb cb) := (BW.out.cell (p := ⟨b, _, none⟩) hbs).trans hO.c3
      have hlt' : (q : Int) < (n : Int) := by omega
      clear hop hO
      have hby := HO.out.hB.below BW.out
      have hobl : 0 < nb → ∀ x, ob = some x → x.block < w.heap.size := fun h x hx => by
        obtain ⟨b', off', h1, h2, _⟩ := HO.out.hB.hat h
        rw [h1] at hx; cases hx; exact h2
      have BY := hid_of hby
      have OBL := hid_of hobl
      clear hby hobl
      by_cases hpe : pe.tmod 2 = 0
      · go_wp2_with fail
        refine (play_scene w.heap.size w.heap.size _ _ q kd pe u ob nb cb zb wr SC.out (by omega) HO.out.hu BY.out OBL.out).mono ?_
        rintro e w2 ⟨rfl, hs2, hb2⟩
        have SC2 := hid_of hs2
        have BW2 := hid_of (BW.out.trans hb2)
        clear hs2 hb2 d0 d1 d2 d3
        go_wp2_with fail
        obtain ⟨bp, br, bq, bs, N1, N2, m, ow1, ow2, _, _, _, _, hbk, _⟩ := SC2.out.ex
        refine (kept_true w.heap.size w2.heap.size m w2 hbk).mono ?_
        rintro e w3 ⟨rfl, rfl⟩
        clear hbk
        go_wp2
        go_roundw
        case rel => exact ⟨q + 1, by omega, by go_num, SC2.out, BW2.out⟩
        case measure => simp [intOf]; omega
      · have hpe' : (pe.tmod 2 == 0) = false := by simp [hpe]
        go_wp2_with fail
        refine (play_scene w.heap.size w.heap.size _ _ q kd pe u ob nb cb zb wr SC.out.swap (by omega) HO.out.hu BY.out OBL.out).mono ?_
        rintro e w2 ⟨rfl, hs2, hb2⟩
        have SC2 := hid_of hs2.swap
        have BW2 := hid_of (BW.out.trans hb2)
        clear hs2 hb2 d0 d1 d2 d3
        go_wp2_with fail
        obtain ⟨bp, br, bq, bs, N1, N2, m, ow1, ow2, _, _, _, _, hbk, _⟩ := SC2.out.ex
        refine (kept_true w.heap.size w2.heap.size m w2 hbk).mono ?_
        rintro e w3 ⟨rfl, rfl⟩
        clear hbk
        go_wp2
        go_roundw
        case rel => exact ⟨q + 1, by omega, by go_num, SC2.out, BW2.out⟩
        case measure => simp [intOf]; omega
    · have hlt' : decide (q < n) = false := by simp; omega
      have hlt2 : ¬ (q : Int) < (n : Int) := by omega
      go_wp2_with fail
      refine (play_scene w.heap.size w.heap.size _ _ q 4 0 0 none 0 0 [] wr SC.out (by omega) ⟨by decide, by decide⟩ (nil_bytes _) (fun h => by omega)).mono ?_
      rintro e w2 ⟨rfl, hs2, hb2⟩
      have SC2 := hid_of hs2.swap
      have BW2 := hid_of (BW.out.trans hb2)
      clear hs2 hb2
      go_wp2_with fail
      refine (play_scene w.heap.size w.heap.size _ _ (q + 1) 4 0 0 none 0 0 [] w2 SC2.out (by omega) ⟨by decide, by decide⟩ (nil_bytes _) (fun h => by omega)).mono ?_
      rintro e w3 ⟨rfl, hs3, hb3⟩
      have BW3 := hid_of (BW2.out.trans hb3)
      clear hs3 hb3
      go_wp2
      go_ret
      exact ⟨rfl, BW3.out⟩
end Go.Proofs.Ytjdcnlggpfkopaa
