/- The figure with which a text begins, beside ASCII: the document's own. -/
import Derived.Test.YtjdcnlggpfkopaaDoorRefFig
namespace Go.Proofs.YtjdcnlggpfkopaaDoor
open Go.ChangeShapes Go.WideShapes Go.ChangeAt Go.RowKit
set_option linter.unusedVariables false

theorem hideIt {P : Prop} (h : P) : Hid P := h
theorem pre0 : ((⟨#[217, 160]⟩ : ByteArray).extract 0 1).toList = [217] := by decide +kernel
theorem pre1 : ((⟨#[219, 176]⟩ : ByteArray).extract 0 1).toList = [219] := by decide +kernel
theorem pre2 : ((⟨#[239, 188, 144]⟩ : ByteArray).extract 0 2).toList = [239, 188] := by decide +kernel
theorem wr1 : IntKind.i64.wrap 1 = 1 := by decide
theorem wr2 : IntKind.i64.wrap 2 = 2 := by decide
theorem wrap_sub (u : UInt8) (l : Int) (h0 : 0 ≤ l) (h1 : l ≤ 255) : IntKind.i64.wrap (IntKind.i64.wrap (u.toNat : Int) - IntKind.i64.wrap l) = (u.toNat : Int) - l := by
  have := u.toNat_lt
  rw [IntWalk.i64_in l ⟨by omega, by omega⟩, IntWalk.i64_in (u.toNat : Int) ⟨by omega, by omega⟩, IntWalk.i64_in _ ⟨by omega, by omega⟩]
abbrev rowCells : Array Value := #[.string ⟨#[217, 160]⟩, .string ⟨#[219, 176]⟩, .string ⟨#[239, 188, 144]⟩]
set_option maxRecDepth 100000 in
set_option maxHeartbeats 4000000 in
theorem refFigure_other (x : ByteArray) (w : World) (hx : 0 < x.size) (hs : x.size ≤ 9223372036854775807) (h : ¬ (48 ≤ ((x[0]'hx).toNat : Int) ∧ ((x[0]'hx).toNat : Int) ≤ 57)) :
    Calls Tryd.prog 24 #[.string x] w fun e w' => e = .returned (.tuple #[.int .i64 (figFrom x 0).1, .int .i64 (figFrom x 0).2]) ∧ Below w.heap.size w w' := by
  have hx' : (0 : Int) < (x.size : Int) := by omega
  obtain ⟨f1, hf1⟩ : ∃ f, f = (figFrom x 0).1 := ⟨_, rfl⟩
  obtain ⟨f2, hf2⟩ : ∃ f, f = (figFrom x 0).2 := ⟨_, rfl⟩
  have HF : Hid (figFrom x 0 = (f1, f2)) := by show _ = _; rw [hf1, hf2]
  rw [← hf1, ← hf2]
  clear hf1 hf2
  go_enter Tryd.func24, Tryd.ntmps24
  go_wp2
  all_goals
    go_loopw [5] (fun i wr => ∃ k : Nat, k ≤ 3 ∧ i = .int .i64 k ∧ figFrom x k = (f1, f2) ∧ Hid (∀ o, wr.cell? ⟨w.heap.size, o, none⟩ = (w.alloc (.cells rowCells 9)).cell? ⟨w.heap.size, o, none⟩) ∧ Hid (w.heap.size < wr.heap.size) ∧ Below w.heap.size w wr) (fun i _ => 3 - (intOf i).toNat)
    case atStart => exact ⟨0, by decide, rfl, HF.out, fun o => rfl, by show _ < _; simp, (Below.refl _ _).alloc (Nat.le_refl _) _⟩
    case round =>
      obtain ⟨k, hk, rfl, hfk, HC, HL, hb⟩ := hrel
      have HK := hideIt hfk
      have HB := hideIt hb
      have hl := HL.out
      have hw1 := wr1
      have hw2 := wr2
      clear hfk hb h
      match k, hk with
      | 0, _ =>
        have ck : wr.cell? ⟨w.heap.size, 0, none⟩ = some (.string ⟨#[217, 160]⟩) := by rw [HC.out]; simp [go_sem]
        by_cases h1 : (x.size : Int) < 2
        · go_wp2
          refine region_stillS (by kernel_rfl) (by kernel_rfl) ?_
          repeat (apply StillS.step; intro K hK; constructor; go_simp; apply hK; clear hK K)
          apply StillS.nil
          go_wp2
          go_roundw
          case rel => exact ⟨1, by decide, by go_num, by rw [from0 x (rowD_short x 1 [217] 160 (by omega))]; exact HK.out, fun o => HC.out o, HL.out, HB.out.drew⟩
          case measure => simp [intOf]
        · have hn : 1 < x.size := by omega
          have hn' : (1 : Int) < (x.size : Int) := by omega
          have hle : (1 : Int) ≤ (x.size : Int) := by omega
          by_cases h2 : (x.extract 0 1).toList = [217]
          · have h2' : ((x.extract 0 1).toList == ((⟨#[217, 160]⟩ : ByteArray).extract 0 1).toList) = true := by rw [h2, pre0]; decide
            have HQ := hideIt h2
            obtain ⟨D, hD⟩ : ∃ D, D = ((x[1]'hn).toNat : Int) - 160 := ⟨_, rfl⟩
            have HDD : Hid (IntKind.i64.wrap (IntKind.i64.wrap ((x[1]'hn).toNat : Int) - IntKind.i64.wrap (((⟨#[217, 160]⟩ : ByteArray)[1]'(by decide)).toNat : Int)) = D) := by show _ = _; rw [hD]; exact wrap_sub _ 160 (by decide) (by decide)
            have HD := hideIt hD
            clear h2 hD
            go_wp2
            refine region_stillS (by kernel_rfl) (by kernel_rfl) ?_
            repeat (apply StillS.step; intro K hK; constructor; go_simp; apply hK; clear hK K)
            apply StillS.nil
            go_wp2
            refine region_stillS (by kernel_rfl) (by kernel_rfl) ?_
            repeat (apply StillS.step; intro K hK; constructor; go_simp; apply hK; clear hK K)
            apply StillS.nil
            rw [HDD.out]
            clear HDD
            by_cases h3 : 0 ≤ D
            · by_cases h4 : D ≤ 9
              · go_wp2
                go_ret2
                have hfd := found0 x _ (rowD_in x 1 [217] 160 hn HQ.out (by rw [← HD.out]; omega) (by rw [← HD.out]; omega))
                rw [HK.out, ← HD.out] at hfd
                cases hfd
                exact ⟨rfl, HB.out.drew.drew⟩
              · go_wp2
                go_roundw
                case rel => exact ⟨1, by decide, by go_num, by rw [from0 x (rowD_out x 1 [217] 160 hn (by rw [← HD.out]; omega))]; exact HK.out, fun o => HC.out o, HL.out, HB.out.drew.drew⟩
                case measure => simp [intOf]
            · go_wp2
              go_roundw
              case rel => exact ⟨1, by decide, by go_num, by rw [from0 x (rowD_out x 1 [217] 160 hn (by rw [← HD.out]; omega))]; exact HK.out, fun o => HC.out o, HL.out, HB.out.drew.drew⟩
              case measure => simp [intOf]
          · have h2' : ((x.extract 0 1).toList == ((⟨#[217, 160]⟩ : ByteArray).extract 0 1).toList) = false := by rw [beq_eq_false_iff_ne, pre0]; exact h2
            have HQ := hideIt h2
            clear h2
            go_wp2
            refine region_stillS (by kernel_rfl) (by kernel_rfl) ?_
            repeat (apply StillS.step; intro K hK; constructor; go_simp; apply hK; clear hK K)
            apply StillS.nil
            go_wp2
            go_roundw
            case rel => exact ⟨1, by decide, by go_num, by rw [from0 x (rowD_other x 1 [217] 160 HQ.out)]; exact HK.out, fun o => HC.out o, HL.out, HB.out.drew⟩
            case measure => simp [intOf]
      | 1, _ =>
        have ck : wr.cell? ⟨w.heap.size, 1, none⟩ = some (.string ⟨#[219, 176]⟩) := by rw [HC.out]; simp [go_sem]
        by_cases h1 : (x.size : Int) < 2
        · go_wp2
          refine region_stillS (by kernel_rfl) (by kernel_rfl) ?_
          repeat (apply StillS.step; intro K hK; constructor; go_simp; apply hK; clear hK K)
          apply StillS.nil
          go_wp2
          go_roundw
          case rel => exact ⟨2, by decide, by go_num, by rw [from1 x (rowD_short x 1 [219] 176 (by omega))]; exact HK.out, fun o => HC.out o, HL.out, HB.out.drew⟩
          case measure => simp [intOf]
        · have hn : 1 < x.size := by omega
          have hn' : (1 : Int) < (x.size : Int) := by omega
          have hle : (1 : Int) ≤ (x.size : Int) := by omega
          by_cases h2 : (x.extract 0 1).toList = [219]
          · have h2' : ((x.extract 0 1).toList == ((⟨#[219, 176]⟩ : ByteArray).extract 0 1).toList) = true := by rw [h2, pre1]; decide
            have HQ := hideIt h2
            obtain ⟨D, hD⟩ : ∃ D, D = ((x[1]'hn).toNat : Int) - 176 := ⟨_, rfl⟩
            have HDD : Hid (IntKind.i64.wrap (IntKind.i64.wrap ((x[1]'hn).toNat : Int) - IntKind.i64.wrap (((⟨#[219, 176]⟩ : ByteArray)[1]'(by decide)).toNat : Int)) = D) := by show _ = _; rw [hD]; exact wrap_sub _ 176 (by decide) (by decide)
            have HD := hideIt hD
            clear h2 hD
            go_wp2
            refine region_stillS (by kernel_rfl) (by kernel_rfl) ?_
            repeat (apply StillS.step; intro K hK; constructor; go_simp; apply hK; clear hK K)
            apply StillS.nil
            go_wp2
            refine region_stillS (by kernel_rfl) (by kernel_rfl) ?_
            repeat (apply StillS.step; intro K hK; constructor; go_simp; apply hK; clear hK K)
            apply StillS.nil
            rw [HDD.out]
            clear HDD
            by_cases h3 : 0 ≤ D
            · by_cases h4 : D ≤ 9
              · go_wp2
                go_ret2
                have hfd := found1 x _ (rowD_in x 1 [219] 176 hn HQ.out (by rw [← HD.out]; omega) (by rw [← HD.out]; omega))
                rw [HK.out, ← HD.out] at hfd
                cases hfd
                exact ⟨rfl, HB.out.drew.drew⟩
              · go_wp2
                go_roundw
                case rel => exact ⟨2, by decide, by go_num, by rw [from1 x (rowD_out x 1 [219] 176 hn (by rw [← HD.out]; omega))]; exact HK.out, fun o => HC.out o, HL.out, HB.out.drew.drew⟩
                case measure => simp [intOf]
            · go_wp2
              go_roundw
              case rel => exact ⟨2, by decide, by go_num, by rw [from1 x (rowD_out x 1 [219] 176 hn (by rw [← HD.out]; omega))]; exact HK.out, fun o => HC.out o, HL.out, HB.out.drew.drew⟩
              case measure => simp [intOf]
          · have h2' : ((x.extract 0 1).toList == ((⟨#[219, 176]⟩ : ByteArray).extract 0 1).toList) = false := by rw [beq_eq_false_iff_ne, pre1]; exact h2
            have HQ := hideIt h2
            clear h2
            go_wp2
            refine region_stillS (by kernel_rfl) (by kernel_rfl) ?_
            repeat (apply StillS.step; intro K hK; constructor; go_simp; apply hK; clear hK K)
            apply StillS.nil
            go_wp2
            go_roundw
            case rel => exact ⟨2, by decide, by go_num, by rw [from1 x (rowD_other x 1 [219] 176 HQ.out)]; exact HK.out, fun o => HC.out o, HL.out, HB.out.drew⟩
            case measure => simp [intOf]
      | 2, _ =>
        have ck : wr.cell? ⟨w.heap.size, 2, none⟩ = some (.string ⟨#[239, 188, 144]⟩) := by rw [HC.out]; simp [go_sem]
        by_cases h1 : (x.size : Int) < 3
        · go_wp2
          refine region_stillS (by kernel_rfl) (by kernel_rfl) ?_
          repeat (apply StillS.step; intro K hK; constructor; go_simp; apply hK; clear hK K)
          apply StillS.nil
          go_wp2
          go_roundw
          case rel => exact ⟨3, by decide, by go_num, by rw [from2 x (rowD_short x 2 [239, 188] 144 (by omega))]; exact HK.out, fun o => HC.out o, HL.out, HB.out.drew⟩
          case measure => simp [intOf]
        · have hn : 2 < x.size := by omega
          have hn' : (2 : Int) < (x.size : Int) := by omega
          have hle : (2 : Int) ≤ (x.size : Int) := by omega
          by_cases h2 : (x.extract 0 2).toList = [239, 188]
          · have h2' : ((x.extract 0 2).toList == ((⟨#[239, 188, 144]⟩ : ByteArray).extract 0 2).toList) = true := by rw [h2, pre2]; decide
            have HQ := hideIt h2
            obtain ⟨D, hD⟩ : ∃ D, D = ((x[2]'hn).toNat : Int) - 144 := ⟨_, rfl⟩
            have HDD : Hid (IntKind.i64.wrap (IntKind.i64.wrap ((x[2]'hn).toNat : Int) - IntKind.i64.wrap (((⟨#[239, 188, 144]⟩ : ByteArray)[2]'(by decide)).toNat : Int)) = D) := by show _ = _; rw [hD]; exact wrap_sub _ 144 (by decide) (by decide)
            have HD := hideIt hD
            clear h2 hD
            go_wp2
            refine region_stillS (by kernel_rfl) (by kernel_rfl) ?_
            repeat (apply StillS.step; intro K hK; constructor; go_simp; apply hK; clear hK K)
            apply StillS.nil
            go_wp2
            refine region_stillS (by kernel_rfl) (by kernel_rfl) ?_
            repeat (apply StillS.step; intro K hK; constructor; go_simp; apply hK; clear hK K)
            apply StillS.nil
            rw [HDD.out]
            clear HDD
            by_cases h3 : 0 ≤ D
            · by_cases h4 : D ≤ 9
              · go_wp2
                go_ret2
                have hfd := found2 x _ (rowD_in x 2 [239, 188] 144 hn HQ.out (by rw [← HD.out]; omega) (by rw [← HD.out]; omega))
                rw [HK.out, ← HD.out] at hfd
                cases hfd
                exact ⟨rfl, HB.out.drew.drew⟩
              · go_wp2
                go_roundw
                case rel => exact ⟨3, by decide, by go_num, by rw [from2 x (rowD_out x 2 [239, 188] 144 hn (by rw [← HD.out]; omega))]; exact HK.out, fun o => HC.out o, HL.out, HB.out.drew.drew⟩
                case measure => simp [intOf]
            · go_wp2
              go_roundw
              case rel => exact ⟨3, by decide, by go_num, by rw [from2 x (rowD_out x 2 [239, 188] 144 hn (by rw [← HD.out]; omega))]; exact HK.out, fun o => HC.out o, HL.out, HB.out.drew.drew⟩
              case measure => simp [intOf]
          · have h2' : ((x.extract 0 2).toList == ((⟨#[239, 188, 144]⟩ : ByteArray).extract 0 2).toList) = false := by rw [beq_eq_false_iff_ne, pre2]; exact h2
            have HQ := hideIt h2
            clear h2
            go_wp2
            refine region_stillS (by kernel_rfl) (by kernel_rfl) ?_
            repeat (apply StillS.step; intro K hK; constructor; go_simp; apply hK; clear hK K)
            apply StillS.nil
            go_wp2
            go_roundw
            case rel => exact ⟨3, by decide, by go_num, by rw [from2 x (rowD_other x 2 [239, 188] 144 HQ.out)]; exact HK.out, fun o => HC.out o, HL.out, HB.out.drew⟩
            case measure => simp [intOf]
      | 3, _ =>
        go_wp2
        go_ret2
        have hfd := HK.out
        unfold figFrom at hfd
        cases hfd
        exact ⟨rfl, HB.out⟩
      | k + 4, h => omega
end Go.Proofs.YtjdcnlggpfkopaaDoor
