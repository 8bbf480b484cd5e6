/- There and back: packets and bytes, plain. -/
import Derived.Test.YtjdcnlggpfkopaaDoorPkE
import Derived.Laws.BytesString
namespace Go.Proofs.YtjdcnlggpfkopaaDoor
open Go.RowKit
set_option linter.unusedVariables false

def listZ (zs : List Int) : Nat → Int := fun j => zs.getD j 0
theorem i8_wrap (x : Int) : IntKind.i8.wrap x = (x + 128) % 256 - 128 := by
  simp only [IntKind.wrap, IntKind.bits, IntKind.signed]; simp; split <;> omega
theorem be_bytes4 (f : Int) (h0 : 0 ≤ f) (h1 : f ≤ 4294967295) : (((0 * 256 + f / 256 / 256 / 256 % 256) * 256 + f / 256 / 256 % 256) * 256 + f / 256 % 256) * 256 + f % 256 = f := by omega
theorem be_bytes8 (f : Int) (h0 : 0 ≤ f) (h1 : f ≤ 18446744073709551615) :
    (((((((0 * 256 + f / 256 / 256 / 256 / 256 / 256 / 256 / 256 % 256) * 256 + f / 256 / 256 / 256 / 256 / 256 / 256 % 256) * 256 + f / 256 / 256 / 256 / 256 / 256 % 256) * 256 + f / 256 / 256 / 256 / 256 % 256) * 256 + f / 256 / 256 / 256 % 256) * 256 + f / 256 / 256 % 256) * 256 + f / 256 % 256) * 256 + f % 256 = f := by omega

/-- Unpacking what was packed. -/
theorem unpack_form (a v m c d e f gg h i j k l : Int) (ha : 0 ≤ a ∧ a ≤ 3) (hv : 0 ≤ v ∧ v ≤ 7) (hm : 0 ≤ m ∧ m ≤ 7) (hc : 0 ≤ c ∧ c ≤ 255) (hd : -128 ≤ d ∧ d ≤ 127) (he : -128 ≤ e ∧ e ≤ 127) (hF : Fits a v m c d e f gg h i j k l) :
    unpackOf (listZ (formList (a * 64 + v * 8 + m) (c % 256) (d % 256) (e % 256) f gg h i j k l)) = ⟨a, v, m, c, d, e, f, gg, h, i, j, k, l⟩ := by
  have e1 : (a * 64 + v * 8 + m) / 64 = a := by omega
  have e2 : (a * 64 + v * 8 + m) / 8 % 8 = v := by omega
  have e3 : (a * 64 + v * 8 + m) % 8 = m := by omega
  have e4 : c % 256 = c := by omega
  have e5 : IntKind.i8.wrap (d % 256) = d := by rw [i8_wrap]; omega
  have e6 : IntKind.i8.wrap (e % 256) = e := by rw [i8_wrap]; omega
  show Pk.mk ((a * 64 + v * 8 + m) / 64) ((a * 64 + v * 8 + m) / 8 % 8) ((a * 64 + v * 8 + m) % 8) (c % 256) (IntKind.i8.wrap (d % 256)) (IntKind.i8.wrap (e % 256))
    ((((0 * 256 + f / 256 / 256 / 256 % 256) * 256 + f / 256 / 256 % 256) * 256 + f / 256 % 256) * 256 + f % 256)
    ((((0 * 256 + gg / 256 / 256 / 256 % 256) * 256 + gg / 256 / 256 % 256) * 256 + gg / 256 % 256) * 256 + gg % 256)
    ((((0 * 256 + h / 256 / 256 / 256 % 256) * 256 + h / 256 / 256 % 256) * 256 + h / 256 % 256) * 256 + h % 256)
    ((((((((0 * 256 + i / 256 / 256 / 256 / 256 / 256 / 256 / 256 % 256) * 256 + i / 256 / 256 / 256 / 256 / 256 / 256 % 256) * 256 + i / 256 / 256 / 256 / 256 / 256 % 256) * 256 + i / 256 / 256 / 256 / 256 % 256) * 256 + i / 256 / 256 / 256 % 256) * 256 + i / 256 / 256 % 256) * 256 + i / 256 % 256) * 256 + i % 256)
    ((((((((0 * 256 + j / 256 / 256 / 256 / 256 / 256 / 256 / 256 % 256) * 256 + j / 256 / 256 / 256 / 256 / 256 / 256 % 256) * 256 + j / 256 / 256 / 256 / 256 / 256 % 256) * 256 + j / 256 / 256 / 256 / 256 % 256) * 256 + j / 256 / 256 / 256 % 256) * 256 + j / 256 / 256 % 256) * 256 + j / 256 % 256) * 256 + j % 256)
    ((((((((0 * 256 + k / 256 / 256 / 256 / 256 / 256 / 256 / 256 % 256) * 256 + k / 256 / 256 / 256 / 256 / 256 / 256 % 256) * 256 + k / 256 / 256 / 256 / 256 / 256 % 256) * 256 + k / 256 / 256 / 256 / 256 % 256) * 256 + k / 256 / 256 / 256 % 256) * 256 + k / 256 / 256 % 256) * 256 + k / 256 % 256) * 256 + k % 256)
    ((((((((0 * 256 + l / 256 / 256 / 256 / 256 / 256 / 256 / 256 % 256) * 256 + l / 256 / 256 / 256 / 256 / 256 / 256 % 256) * 256 + l / 256 / 256 / 256 / 256 / 256 % 256) * 256 + l / 256 / 256 / 256 / 256 % 256) * 256 + l / 256 / 256 / 256 % 256) * 256 + l / 256 / 256 % 256) * 256 + l / 256 % 256) * 256 + l % 256) = _
  rw [e1, e2, e3, e4, e5, e6, be_bytes4 f hF.bf.1 hF.bf.2, be_bytes4 gg hF.bg.1 hF.bg.2, be_bytes4 h hF.bh.1 hF.bh.2, be_bytes8 i hF.bi.1 hF.bi.2, be_bytes8 j hF.bj.1 hF.bj.2, be_bytes8 k hF.bk.1 hF.bk.2, be_bytes8 l hF.bl.1 hF.bl.2]

theorem bytes4_be (p q r s : Int) (hp : 0 ≤ p ∧ p ≤ 255) (hq : 0 ≤ q ∧ q ≤ 255) (hr : 0 ≤ r ∧ r ≤ 255) (hs : 0 ≤ s ∧ s ≤ 255) :
    bytes4 ((((0 * 256 + p) * 256 + q) * 256 + r) * 256 + s) = [p, q, r, s] := by
  unfold bytes4
  have e1 : ((((0 * 256 + p) * 256 + q) * 256 + r) * 256 + s) / 256 / 256 / 256 % 256 = p := by omega
  have e2 : ((((0 * 256 + p) * 256 + q) * 256 + r) * 256 + s) / 256 / 256 % 256 = q := by omega
  have e3 : ((((0 * 256 + p) * 256 + q) * 256 + r) * 256 + s) / 256 % 256 = r := by omega
  have e4 : ((((0 * 256 + p) * 256 + q) * 256 + r) * 256 + s) % 256 = s := by omega
  rw [e1, e2, e3, e4]
theorem bytes8_be (p q r s t u x y : Int) (hp : 0 ≤ p ∧ p ≤ 255) (hq : 0 ≤ q ∧ q ≤ 255) (hr : 0 ≤ r ∧ r ≤ 255) (hs : 0 ≤ s ∧ s ≤ 255) (ht : 0 ≤ t ∧ t ≤ 255) (hu : 0 ≤ u ∧ u ≤ 255) (hx : 0 ≤ x ∧ x ≤ 255) (hy : 0 ≤ y ∧ y ≤ 255) :
    bytes8 ((((((((0 * 256 + p) * 256 + q) * 256 + r) * 256 + s) * 256 + t) * 256 + u) * 256 + x) * 256 + y) = [p, q, r, s, t, u, x, y] := by
  unfold bytes8
  generalize hN : ((((((((0 * 256 + p) * 256 + q) * 256 + r) * 256 + s) * 256 + t) * 256 + u) * 256 + x) * 256 + y) = N
  have d1 : N / 256 = (((((((0 * 256 + p) * 256 + q) * 256 + r) * 256 + s) * 256 + t) * 256 + u) * 256 + x) := by omega
  have m1 : N % 256 = y := by omega
  have d2 : N / 256 / 256 = ((((((0 * 256 + p) * 256 + q) * 256 + r) * 256 + s) * 256 + t) * 256 + u) := by omega
  have m2 : N / 256 % 256 = x := by omega
  have d3 : N / 256 / 256 / 256 = (((((0 * 256 + p) * 256 + q) * 256 + r) * 256 + s) * 256 + t) := by omega
  have m3 : N / 256 / 256 % 256 = u := by omega
  have m4 : N / 256 / 256 / 256 % 256 = t := by omega
  have d4 : N / 256 / 256 / 256 / 256 = ((((0 * 256 + p) * 256 + q) * 256 + r) * 256 + s) := by omega
  have m5 : N / 256 / 256 / 256 / 256 % 256 = s := by omega
  have d5 : N / 256 / 256 / 256 / 256 / 256 = (((0 * 256 + p) * 256 + q) * 256 + r) := by omega
  have m6 : N / 256 / 256 / 256 / 256 / 256 % 256 = r := by omega
  have d6 : N / 256 / 256 / 256 / 256 / 256 / 256 = ((0 * 256 + p) * 256 + q) := by omega
  have m7 : N / 256 / 256 / 256 / 256 / 256 / 256 % 256 = q := by omega
  have m8 : N / 256 / 256 / 256 / 256 / 256 / 256 / 256 % 256 = p := by omega
  rw [m1, m2, m3, m4, m5, m6, m7, m8]

def list48 (z : Nat → Int) : List Int := [z 0, z 1, z 2, z 3, z 4, z 5, z 6, z 7, z 8, z 9, z 10, z 11, z 12, z 13, z 14, z 15, z 16, z 17, z 18, z 19, z 20, z 21, z 22, z 23, z 24, z 25, z 26, z 27, z 28, z 29, z 30, z 31, z 32, z 33, z 34, z 35, z 36, z 37, z 38, z 39, z 40, z 41, z 42, z 43, z 44, z 45, z 46, z 47]

/-- Packing what was unpacked. -/
theorem form_unpack (z : Nat → Int) (hz : ∀ j, 0 ≤ z j ∧ z j ≤ 255) :
    formList ((unpackOf z).leap * 64 + (unpackOf z).version * 8 + (unpackOf z).mode) ((unpackOf z).stratum % 256) ((unpackOf z).poll % 256) ((unpackOf z).precision % 256) (unpackOf z).delay (unpackOf z).dispersion (unpackOf z).id (unpackOf z).reference (unpackOf z).origin (unpackOf z).receive (unpackOf z).transmit = list48 z := by
  have e0 : z 0 / 64 * 64 + z 0 / 8 % 8 * 8 + z 0 % 8 = z 0 := by have := hz 0; omega
  have e1 : z 1 % 256 = z 1 := by have := hz 1; omega
  have e2 : IntKind.i8.wrap (z 2) % 256 = z 2 := by rw [i8_wrap]; have := hz 2; omega
  have e3 : IntKind.i8.wrap (z 3) % 256 = z 3 := by rw [i8_wrap]; have := hz 3; omega
  show [z 0 / 64 * 64 + z 0 / 8 % 8 * 8 + z 0 % 8, z 1 % 256, IntKind.i8.wrap (z 2) % 256, IntKind.i8.wrap (z 3) % 256] ++
    bytes4 ((((0 * 256 + z 4) * 256 + z 5) * 256 + z 6) * 256 + z 7) ++ bytes4 ((((0 * 256 + z 8) * 256 + z 9) * 256 + z 10) * 256 + z 11) ++ bytes4 ((((0 * 256 + z 12) * 256 + z 13) * 256 + z 14) * 256 + z 15) ++
    bytes8 ((((((((0 * 256 + z 16) * 256 + z 17) * 256 + z 18) * 256 + z 19) * 256 + z 20) * 256 + z 21) * 256 + z 22) * 256 + z 23) ++
    bytes8 ((((((((0 * 256 + z 24) * 256 + z 25) * 256 + z 26) * 256 + z 27) * 256 + z 28) * 256 + z 29) * 256 + z 30) * 256 + z 31) ++
    bytes8 ((((((((0 * 256 + z 32) * 256 + z 33) * 256 + z 34) * 256 + z 35) * 256 + z 36) * 256 + z 37) * 256 + z 38) * 256 + z 39) ++
    bytes8 ((((((((0 * 256 + z 40) * 256 + z 41) * 256 + z 42) * 256 + z 43) * 256 + z 44) * 256 + z 45) * 256 + z 46) * 256 + z 47) = _
  rw [e0, e1, e2, e3, bytes4_be _ _ _ _ (hz 4) (hz 5) (hz 6) (hz 7), bytes4_be _ _ _ _ (hz 8) (hz 9) (hz 10) (hz 11), bytes4_be _ _ _ _ (hz 12) (hz 13) (hz 14) (hz 15),
    bytes8_be _ _ _ _ _ _ _ _ (hz 16) (hz 17) (hz 18) (hz 19) (hz 20) (hz 21) (hz 22) (hz 23), bytes8_be _ _ _ _ _ _ _ _ (hz 24) (hz 25) (hz 26) (hz 27) (hz 28) (hz 29) (hz 30) (hz 31),
    bytes8_be _ _ _ _ _ _ _ _ (hz 32) (hz 33) (hz 34) (hz 35) (hz 36) (hz 37) (hz 38) (hz 39), bytes8_be _ _ _ _ _ _ _ _ (hz 40) (hz 41) (hz 42) (hz 43) (hz 44) (hz 45) (hz 46) (hz 47)]
  rfl

theorem be_bd4 (z : Nat → Int) (hz : ∀ j, 0 ≤ z j ∧ z j ≤ 255) (o : Nat) : 0 ≤ beNum (shift z o) 4 ∧ beNum (shift z o) 4 ≤ 4294967295 := by
  have := beNum_bd (shift z o) (fun j => hz _) 4
  have e : (256 : Int) ^ 4 = 4294967296 := by decide
  omega
theorem be_bd8 (z : Nat → Int) (hz : ∀ j, 0 ≤ z j ∧ z j ≤ 255) (o : Nat) : 0 ≤ beNum (shift z o) 8 ∧ beNum (shift z o) 8 ≤ 18446744073709551615 := by
  have := beNum_bd (shift z o) (fun j => hz _) 8
  have e : (256 : Int) ^ 8 = 18446744073709551616 := by decide
  omega
theorem unpack_fits (z : Nat → Int) (hz : ∀ j, 0 ≤ z j ∧ z j ≤ 255) : fitsB (unpackOf z).leap (unpackOf z).stratum (unpackOf z).poll (unpackOf z).precision = true ∧
    Fits (unpackOf z).leap (unpackOf z).version (unpackOf z).mode (unpackOf z).stratum (unpackOf z).poll (unpackOf z).precision (unpackOf z).delay (unpackOf z).dispersion (unpackOf z).id (unpackOf z).reference (unpackOf z).origin (unpackOf z).receive (unpackOf z).transmit := by
  refine ⟨?_, ⟨be_bd4 z hz 4, be_bd4 z hz 8, be_bd4 z hz 12, be_bd8 z hz 16, be_bd8 z hz 24, be_bd8 z hz 32, be_bd8 z hz 40⟩⟩
  unfold fitsB
  simp only [Bool.and_eq_true, decide_eq_true_eq]
  have h0 := hz 0
  have h1 := hz 1
  show (((0 ≤ z 0 / 64 ∧ z 0 / 64 ≤ 3) ∧ (0 ≤ z 1 ∧ z 1 ≤ 255)) ∧ (-128 ≤ IntKind.i8.wrap (z 2) ∧ IntKind.i8.wrap (z 2) ≤ 127)) ∧ (-128 ≤ IntKind.i8.wrap (z 3) ∧ IntKind.i8.wrap (z 3) ≤ 127)
  rw [i8_wrap, i8_wrap]
  omega
theorem parse_err (n : Nat) (z : Nat → Int) : ((parseOf n z).2 ≠ 0 ∧ (parseOf n z).1 = Pk.zero) ∨ (n = 48 ∧ parseOf n z = (unpackOf z, 0) ∧ kindOf (unpackOf z).version (unpackOf z).mode = 0) := by
  unfold parseOf
  split
  · exact Or.inl ⟨by decide, rfl⟩
  · split
    · exact Or.inl ⟨by decide, rfl⟩
    · split
      · rename_i h; exact Or.inl ⟨h, rfl⟩
      · rename_i h1 h2 h3; exact Or.inr ⟨by omega, rfl, by simpa using h3⟩
def strOf (ns : List Int) : ByteArray := ns.foldl (fun r n => r.push (UInt8.ofNat n.toNat)) ByteArray.empty
theorem conv_cells {w : World} {a : Addr} {n cap : Nat} (ns : List Int) (hl : ns.length = n) (h : ∀ j u, (ns.map (Value.int .u8))[j]? = some u → w.cell? (a.add j) = some u) :
    (convert 31 9 (.slice (some a) n cap)).run Tryd.prog w = .ok (.string (strOf ns)) w := by
  rw [run_convert_bytes_string w 31 9 5 _ _ _ Tryd.underlying31 Tryd.underlying5 Tryd.underlying9]
  have := run_loadCells_list (P := Tryd.prog) w a (ns.map (Value.int .u8)) h
  rw [List.length_map, hl] at this
  exact run_bytesToString w _ _ _ ns this
theorem list48_len (z : Nat → Int) : (list48 z).length = 48 := rfl
theorem list48_at (z : Nat → Int) : ∀ j, j < 48 → (list48 z)[j]? = some (z j) := by
  intro j hj
  have : ∀ j : Nat, j < 48 → (list48 (fun i => (i : Int)))[j]? = some (j : Int) := by decide
  have h := this j hj
  have e : list48 z = (list48 (fun i => (i : Int))).map (fun i => z i.toNat) := rfl
  rw [e, List.getElem?_map, h]
  simp
theorem cells48 {w : World} {b off : Nat} {z : Nat → Int} (h : ∀ j, j < 48 → w.cell? ⟨b, off + j, none⟩ = some (.int .u8 (z j))) :
    ∀ j u, ((list48 z).map (Value.int .u8))[j]? = some u → w.cell? ((⟨b, off, none⟩ : Addr).add j) = some u := by
  intro j u hu
  have hj : j < 48 := by
    rcases Nat.lt_or_ge j 48 with h' | h'
    · exact h'
    · rw [List.getElem?_eq_none (by simpa [list48_len] using h')] at hu; cases hu
  rw [List.getElem?_map, list48_at z j hj] at hu
  simp at hu
  subst hu
  have hadd : (⟨b, off, none⟩ : Addr).add j = ⟨b, off + j, none⟩ := by unfold Addr.add; split <;> simp_all
  rw [hadd]; exact h j hj
theorem mem_bd (n : Int) : ∀ x, x ∈ bytes4 n ++ bytes8 n → 0 ≤ x ∧ x ≤ 255 := by
  intro x hx
  simp only [bytes4, bytes8, List.mem_append, List.mem_cons, List.not_mem_nil, or_false] at hx
  omega
theorem formList_bd (b0 b1 b2 b3 f gg h i j k l : Int) (h0 : 0 ≤ b0 ∧ b0 ≤ 255) (h1 : 0 ≤ b1 ∧ b1 ≤ 255) (h2 : 0 ≤ b2 ∧ b2 ≤ 255) (h3 : 0 ≤ b3 ∧ b3 ≤ 255) (n : Nat) :
    0 ≤ listZ (formList b0 b1 b2 b3 f gg h i j k l) n ∧ listZ (formList b0 b1 b2 b3 f gg h i j k l) n ≤ 255 := by
  unfold listZ
  rw [List.getD_eq_getElem?_getD]
  cases hx : (formList b0 b1 b2 b3 f gg h i j k l)[n]? with
  | none => simp
  | some x =>
    have hm := List.mem_of_getElem? hx
    simp only [formList, List.mem_append, List.mem_cons, List.not_mem_nil, or_false] at hm
    show 0 ≤ x ∧ x ≤ 255
    have k4 : ∀ n, x ∈ bytes4 n → 0 ≤ x ∧ x ≤ 255 := fun n hn => mem_bd n x (List.mem_append_left _ hn)
    have k8 : ∀ n, x ∈ bytes8 n → 0 ≤ x ∧ x ≤ 255 := fun n hn => mem_bd n x (List.mem_append_right _ hn)
    rcases hm with ((((((hm | hm) | hm) | hm) | hm) | hm) | hm) | hm
    · omega
    · exact k4 _ hm
    · exact k4 _ hm
    · exact k4 _ hm
    · exact k8 _ hm
    · exact k8 _ hm
    · exact k8 _ hm
    · exact k8 _ hm
theorem row_bytes {w : World} {g : Nat} {zs : List Int} (h : w.heap[g]? = some (.cells (zs.map (Value.int .u8)).toArray 5 (0, 0))) (hl : zs.length = 48) (hb : ∀ n, 0 ≤ listZ zs n ∧ listZ zs n ≤ 255) :
    Bytes48 w (some ⟨g, 0, none⟩) 48 48 (listZ zs) := by
  refine ⟨by decide, hb, fun _ => ⟨g, 0, rfl, Nat.le_refl _, fun j hj => ?_⟩⟩
  rw [Nat.zero_add, cell_of_row w g j _ _ _ h]
  simp [listZ, hl, hj]
theorem parse_form (a v m c d e f gg h i j k l : Int) (ha : 0 ≤ a ∧ a ≤ 3) (hv : v = 3 ∨ v = 4) (hm : m = 3 ∨ m = 4) (hc : 0 ≤ c ∧ c ≤ 255) (hd : -128 ≤ d ∧ d ≤ 127) (he : -128 ≤ e ∧ e ≤ 127) (hF : Fits a v m c d e f gg h i j k l) :
    parseOf 48 (listZ (formList (a * 64 + v * 8 + m) (c % 256) (d % 256) (e % 256) f gg h i j k l)) = (⟨a, v, m, c, d, e, f, gg, h, i, j, k, l⟩, 0) := by
  unfold parseOf
  rw [if_neg (by decide), if_neg (by decide), unpack_form a v m c d e f gg h i j k l ha (by omega) (by omega) hc hd he hF]
  have : kindOf v m = 0 := by unfold kindOf; rw [if_neg (by omega), if_neg (by omega)]
  rw [if_neg (by simp only [this]; simp)]
end Go.Proofs.YtjdcnlggpfkopaaDoor
