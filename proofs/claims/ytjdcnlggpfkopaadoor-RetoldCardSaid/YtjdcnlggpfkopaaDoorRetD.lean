/- Told texts: their runes in another row, as a string. -/
import Derived.Test.YtjdcnlggpfkopaaDoorRetC
import Derived.Laws.Cover4
namespace Go.Proofs.YtjdcnlggpfkopaaDoor
open Go.ChangeShapes Go.WideShapes Go.ChangeAt Go.RowKit
set_option linter.unusedVariables false

theorem enc_all : ∀ k, k < 4 → ∀ d, d < 10 → Utf8.encode (firstOf k + (d : Nat)) = bytesOf (figBytes k (d : Nat)) := by decide +kernel
theorem enc_fig (k : Nat) (d : Int) (hk : k < 4) (h0 : 0 ≤ d) (h1 : d ≤ 9) : Utf8.encode (firstOf k + d) = bytesOf (figBytes k d) := by
  have := enc_all k hk d.toNat (by omega)
  rwa [show ((d.toNat : Nat) : Int) = d by omega] at this
theorem enc_point : Utf8.encode 46 = bytesOf [46] := by decide +kernel
/-- A sign of a told text, in another row. -/
def turn (f c : Int) : Int := if c = 46 then 46 else c - 48 + f
theorem fold_figs (k : Nat) (hk : k < 4) (A : List Int) (hA : Digs (dv A)) : ∀ acc : List Int, (A.map (turn (firstOf k))).foldl (fun r n => r ++ Utf8.encode n) (bytesOf acc) = bytesOf (acc ++ figs k (dv A)) := by
  induction A with
  | nil => intro acc; simp [figs, dv]
  | cons c A ih =>
    intro acc
    have hc := hA (c - 48) (by simp [dv])
    have hA' : Digs (dv A) := fun d hd => hA d (by simp [dv] at hd ⊢; right; exact hd)
    have ht : turn (firstOf k) c = firstOf k + (c - 48) := by unfold turn; rw [if_neg (by omega)]; omega
    simp only [List.map_cons, List.foldl_cons]
    rw [ht, enc_fig k (c - 48) hk hc.1 hc.2, bytesOf_app, ih hA']
    simp [figs, dv]
theorem runes_text (k : Nat) (hk : k < 4) (A B : List Int) (hA : Digs (dv A)) (hB : Digs (dv B)) : runesBytes ((A ++ 46 :: B).map (turn (firstOf k))) = bytesOf (figs k (dv A) ++ 46 :: figs k (dv B)) := by
  unfold runesBytes
  rw [List.map_append, List.map_cons, List.foldl_append, List.foldl_cons]
  have h0 := fold_figs k hk A hA []
  rw [show bytesOf [] = ByteArray.empty from rfl] at h0
  rw [h0, show turn (firstOf k) 46 = 46 by simp [turn], enc_point, bytesOf_app, fold_figs k hk B hB]
  simp
theorem figs_zero (A : List Int) : figs 0 (dv A) = A := by
  induction A with
  | nil => rfl
  | cons c A ih =>
    show figBytes 0 (c - 48) ++ figs 0 (dv A) = c :: A
    rw [ih]
    show (48 + (c - 48)) :: A = c :: A
    congr 1; omega
/-- What Read answers to a told text, in any row. -/
theorem read_told (k : Nat) (t : Int) (h0 : 0 ≤ t) (h1 : t ≤ 18446744073709551615) :
    readOf (bytesOf (figs k (dv (decOf (t / 4294967296).toNat)) ++ 46 :: figs k (dv (fracDigs 10 (t % 4294967296))))) = (t / 4294967296 * 4294967296 + (partsOf (t % 4294967296 * 10 ^ 10 / 4294967296).toNat 10 : Nat), 0, 0) := by
  have hl := dec_len (t / 4294967296).toNat 9 (by
    have : (t / 4294967296).toNat < 10000000000 := by omega
    exact this)
  have h := read_text k (dv (decOf (t / 4294967296).toNat)) (dv (fracDigs 10 (t % 4294967296))) (dec_digs _) (frac_digs _ _ (by omega) (by omega)) (by rw [dv_len]; exact dec_pos _) (by rw [dv_len]; exact hl) (by rw [dv_len, fracDigs_len]; decide) (by rw [dv_len, fracDigs_len]; decide) (by rw [dec_val]; omega)
  rw [h, dec_val, frac_val _ _ (by omega) (by omega), dv_len, fracDigs_len, show (((t / 4294967296).toNat : Nat) : Int) = t / 4294967296 by omega]
/-- The signs of a told text. -/
theorem tell_signs (t : Int) (h0 : 0 ≤ t) : ∀ x ∈ tellOf (decOf (t / 4294967296).toNat) t, x = 46 ∨ 48 ≤ x ∧ x ≤ 57 := by
  intro x hx
  unfold tellOf at hx
  rcases List.mem_append.1 hx with h | h
  · have := dec_digs (t / 4294967296).toNat (x - 48) (by simp [dv]; exact h)
    omega
  · rcases List.mem_cons.1 h with h | h
    · exact Or.inl h
    · have := frac_digs 10 (t % 4294967296) (by omega) (by omega) (x - 48) (by simp [dv]; exact h)
      omega
theorem tell_len (t : Int) (h0 : 0 ≤ t) (h1 : t ≤ 18446744073709551615) : 11 ≤ (tellOf (decOf (t / 4294967296).toNat) t).length ∧ (tellOf (decOf (t / 4294967296).toNat) t).length ≤ 21 := by
  have hl := dec_len (t / 4294967296).toNat 9 (by
    have : (t / 4294967296).toNat < 10000000000 := by omega
    exact this)
  unfold tellOf
  simp [fracDigs_len]; omega
end Go.Proofs.YtjdcnlggpfkopaaDoor
