/-
  Plain facts on blocks' bytes: trimmed, mixed by sectors; nothing of any program.
-/
import Derived.Test.YtcdcnonkoffbhaaPlainD
namespace Go.Proofs.Ytcdcnonkoffbhaa.Plain
open Go.RowKit

theorem byteAt_lt {s : ByteArray} {j : Nat} (h : byteAt s j ≠ 0) : j < s.size := by
  refine Nat.lt_of_not_le fun hn => h ?_
  unfold byteAt
  rw [List.getElem?_eq_none hn]; rfl

theorem byteAt_out {s : ByteArray} {j : Nat} (h : s.size ≤ j) : byteAt s j = 0 := by
  unfold byteAt
  rw [List.getElem?_eq_none h]; rfl

theorem byteAt_trim (s : ByteArray) (j : Nat) : byteAt (trimS s) j = byteAt s j := by
  by_cases h : j < trimN s s.size
  · unfold byteAt
    rw [trimS_data, List.getElem?_take_of_lt h]
  · rw [byteAt_out (s := trimS s) (by rw [trimS_size]; omega)]
    by_cases h2 : j < s.size
    · exact (trimN_tail s s.size j (by omega) h2).symm
    · exact (byteAt_out (by omega)).symm

/-- No zero stands at the end. -/
def Even (s : ByteArray) : Prop := 0 < s.size → byteAt s (s.size - 1) ≠ 0

theorem even_trim (s : ByteArray) : Even (trimS s) := by
  intro h
  rw [trimS_size] at h ⊢
  rw [byteAt_trim]
  exact trimN_last s s.size h

theorem even_size {a b : ByteArray} (hb : Even b) (h : ∀ j, byteAt a j = byteAt b j) : b.size ≤ a.size := by
  refine Nat.le_of_not_lt fun hlt => ?_
  have h1 := hb (by omega)
  rw [← h, byteAt_out (by omega)] at h1
  exact h1 rfl

theorem byteAt_ext {a b : ByteArray} (hs : a.size = b.size) (h : ∀ j, j < a.size → byteAt a j = byteAt b j) : a = b := by
  apply bytes_ext
  apply List.ext_getElem?
  intro j
  by_cases hj : j < a.size
  · have := h j hj
    unfold byteAt at this
    have ha : j < a.data.toList.length := hj
    have hb : j < b.data.toList.length := by show j < b.size; omega
    rw [List.getElem?_eq_getElem ha, List.getElem?_eq_getElem hb] at this ⊢
    simp only [Option.getD_some] at this
    rw [this]
  · rw [List.getElem?_eq_none (by show a.size ≤ j; omega), List.getElem?_eq_none (by show b.size ≤ j; omega)]

theorem even_ext {a b : ByteArray} (ha : Even a) (hb : Even b) (h : ∀ j, byteAt a j = byteAt b j) : a = b :=
  byteAt_ext (Nat.le_antisymm (even_size ha fun j => (h j).symm) (even_size hb h)) fun j _ => h j

theorem trim_even {s : ByteArray} (h : Even s) : trimS s = s := even_ext (even_trim s) h (byteAt_trim s)

theorem trimS_le (s : ByteArray) : (trimS s).size ≤ s.size := by rw [trimS_size]; exact trimN_le s s.size

theorem even_iff (s : ByteArray) : Even s ↔ trimS s = s := ⟨trim_even, fun h => by rw [← h]; exact even_trim s⟩

theorem byteAt_mk (l : List UInt8) (j : Nat) : byteAt ⟨l.toArray⟩ j = l[j]?.getD 0 := rfl

/-- Whether a bit of a mask is 1. -/
def bitOn (m : Int) (k : Nat) : Bool := m / 2 ^ k % 2 != 0

/-- One byte of two blocks' mixed. -/
def mixB (o n : ByteArray) (m : Int) (i : Nat) : UInt8 := if bitOn m (i / 512) = true then byteAt n i else byteAt o i
def mixL (o n : ByteArray) (m : Int) (k : Nat) : List UInt8 := (List.range k).map (mixB o n m)
def mixS (o n : ByteArray) (m : Int) : ByteArray := trimS ⟨(mixL o n m 4096).toArray⟩

theorem mixL_length (o n : ByteArray) (m : Int) (k : Nat) : (mixL o n m k).length = k := by simp [mixL]

theorem byteAt_mix (o n : ByteArray) (m : Int) (i : Nat) : byteAt (mixS o n m) i = if i < 4096 then mixB o n m i else 0 := by
  unfold mixS
  rw [byteAt_trim, byteAt_mk]
  split
  · rename_i h
    simp [mixL, h]
  · rename_i h
    rw [List.getElem?_eq_none (by rw [mixL_length]; omega)]; rfl

theorem even_mix (o n : ByteArray) (m : Int) : Even (mixS o n m) := even_trim _

theorem trim_mk_size (l : List UInt8) : (trimS ⟨l.toArray⟩).size ≤ l.length := trimS_le ⟨l.toArray⟩

theorem mix_size (o n : ByteArray) (m : Int) : (mixS o n m).size ≤ 4096 := by
  unfold mixS
  exact Nat.le_trans (trim_mk_size _) (Nat.le_of_eq (mixL_length o n m 4096))

theorem mix_eq {o n o' n' : ByteArray} {m m' : Int} (h : ∀ i, i < 4096 → mixB o n m i = mixB o' n' m' i) : mixS o n m = mixS o' n' m' := by
  refine even_ext (even_mix _ _ _) (even_mix _ _ _) fun j => ?_
  rw [byteAt_mix, byteAt_mix]
  split
  · exact h j (by assumption)
  · rfl

theorem mix_again (o n : ByteArray) (m : Int) : mixS (mixS o n m) n m = mixS o n m := by
  refine mix_eq fun i hi => ?_
  unfold mixB
  rw [byteAt_mix, if_pos hi]
  unfold mixB
  split <;> rfl

theorem mix_onto (o n : ByteArray) (m : Int) : mixS o (mixS o n m) m = mixS o n m := by
  refine mix_eq fun i hi => ?_
  unfold mixB
  rw [byteAt_mix, if_pos hi]
  unfold mixB
  split <;> rfl

theorem bitOn_flip (m : Int) (k : Nat) : bitOn (-1 - m) k = !bitOn m k := by
  unfold bitOn
  have hp : (0 : Int) < 2 ^ k := Int.pow_pos (by decide)
  have e : (-1 - m) / 2 ^ k = -1 - m / 2 ^ k := by
    have h1 := Int.emod_add_mul_ediv m (2 ^ k)
    have h2 := Int.emod_nonneg m (show (2 : Int) ^ k ≠ 0 by omega)
    have h3 := Int.emod_lt_of_pos m hp
    refine ((Int.ediv_emod_unique (r := 2 ^ k - 1 - m % 2 ^ k) hp).2 ⟨?_, by omega, by omega⟩).1
    rw [Int.mul_sub]
    omega
  rw [e]
  generalize m / 2 ^ k = q
  by_cases h : q % 2 = 0
  · have : (-1 - q) % 2 = 1 := by omega
    rw [h, this]; rfl
  · have h1 : q % 2 = 1 := by omega
    have : (-1 - q) % 2 = 0 := by omega
    rw [h1, this]; rfl

theorem mix_flip (o n : ByteArray) (m : Int) : mixS n o (-1 - m) = mixS o n m := by
  refine mix_eq fun i _ => ?_
  unfold mixB
  rw [bitOn_flip]
  cases bitOn m (i / 512) <;> rfl

/-- A sector's bytes. -/
def secL (s : ByteArray) (i k : Nat) : List UInt8 := (List.range k).map fun j => byteAt s (512 * i + j)
def sectorS (s : ByteArray) (i : Int) : ByteArray := if 0 ≤ i ∧ i ≤ 7 then trimS ⟨(secL s i.toNat 512).toArray⟩ else ⟨#[]⟩

theorem secL_length (s : ByteArray) (i k : Nat) : (secL s i k).length = k := by simp [secL]

theorem byteAt_sec (s : ByteArray) (i k : Nat) (j : Nat) : byteAt ⟨(secL s i k).toArray⟩ j = if j < k then byteAt s (512 * i + j) else 0 := by
  rw [byteAt_mk]
  split
  · rename_i h
    simp [secL, h]
  · rename_i h
    rw [List.getElem?_eq_none (by rw [secL_length]; omega)]; rfl

theorem sector_mix (o n : ByteArray) (m : Int) (i : Nat) (h : i < 8) : sectorS (mixS o n m) i = if bitOn m i = true then sectorS n i else sectorS o i := by
  have hi : (0 : Int) ≤ (i : Int) ∧ (i : Int) ≤ 7 := by omega
  have key : ∀ x : ByteArray, (∀ j, j < 512 → byteAt (mixS o n m) (512 * i + j) = byteAt x (512 * i + j)) → sectorS (mixS o n m) i = sectorS x i := by
    intro x hx
    unfold sectorS
    rw [if_pos hi, if_pos hi]
    refine even_ext (even_trim _) (even_trim _) fun j => ?_
    rw [byteAt_trim, byteAt_trim, byteAt_sec, byteAt_sec]
    split
    · exact hx j (by assumption)
    · rfl
  have hd : ∀ j, j < 512 → (512 * i + j) / 512 = i := by intro j hj; omega
  split
  · rename_i hb
    refine key n fun j hj => ?_
    rw [byteAt_mix, if_pos (by omega)]
    unfold mixB
    rw [hd j hj, if_pos hb]
  · rename_i hb
    refine key o fun j hj => ?_
    rw [byteAt_mix, if_pos (by omega)]
    unfold mixB
    rw [hd j hj, if_neg hb]

theorem bitOn_zero (k : Nat) : bitOn 0 k = false := by
  unfold bitOn
  rw [Int.zero_ediv]; rfl

theorem bitOn_full (k : Nat) (h : k < 8) : bitOn 255 k = true := by
  match k, h with
  | 0, _ => rfl
  | 1, _ => rfl
  | 2, _ => rfl
  | 3, _ => rfl
  | 4, _ => rfl
  | 5, _ => rfl
  | 6, _ => rfl
  | 7, _ => rfl

theorem mix_none (o n x : ByteArray) : mixS (mixS o n 0) x 0 = mixS o n 0 := by
  refine mix_eq fun i hi => ?_
  unfold mixB
  rw [byteAt_mix, if_pos hi, bitOn_zero]
  unfold mixB
  rw [bitOn_zero]
  rfl

theorem mix_full (o n x : ByteArray) : mixS x n 255 = mixS o n 255 := by
  refine mix_eq fun i hi => ?_
  unfold mixB
  rw [bitOn_full _ (by omega)]
  rfl

/-- All sectors of a text of at most a block: the text, trimmed. -/
theorem mix_all (o n : ByteArray) (h : n.size ≤ 4096) : mixS o n 255 = trimS n := by
  refine even_ext (even_mix _ _ _) (even_trim _) fun j => ?_
  rw [byteAt_mix, byteAt_trim]
  split
  · unfold mixB
    rw [bitOn_full _ (by omega)]; rfl
  · exact (byteAt_out (by omega)).symm

theorem mix_keep (o n : ByteArray) (h : o.size ≤ 4096) : mixS o n 0 = trimS o := by
  refine even_ext (even_mix _ _ _) (even_trim _) fun j => ?_
  rw [byteAt_mix, byteAt_trim]
  split
  · unfold mixB
    rw [bitOn_zero]; rfl
  · exact (byteAt_out (by omega)).symm

/-- Texts within one sector: mixed they are one or the other. -/
theorem mix_small {o n : ByteArray} (m : Int) (ho : o.size ≤ 512) (hn : n.size ≤ 512) (eo : Even o) (en : Even n) : mixS o n m = o ∨ mixS o n m = n := by
  cases hb : bitOn m 0 with
  | true =>
    right
    refine even_ext (even_mix _ _ _) en fun j => ?_
    rw [byteAt_mix]
    split
    · unfold mixB
      by_cases h5 : j < 512
      · rw [show j / 512 = 0 by omega, hb]; rfl
      · rw [byteAt_out (s := n) (by omega), byteAt_out (s := o) (by omega)]; split <;> rfl
    · exact (byteAt_out (by omega)).symm
  | false =>
    left
    refine even_ext (even_mix _ _ _) eo fun j => ?_
    rw [byteAt_mix]
    split
    · unfold mixB
      by_cases h5 : j < 512
      · rw [show j / 512 = 0 by omega, hb]; rfl
      · rw [byteAt_out (s := n) (by omega), byteAt_out (s := o) (by omega)]; split <;> rfl
    · exact (byteAt_out (by omega)).symm

end Go.Proofs.Ytcdcnonkoffbhaa.Plain
