/-
  Plain facts: a text cut in two; what is got of bytes, put, is the bytes. Nothing of any program.
-/
import Derived.Test.YtnipikdlfmcheaaPlainC
namespace Go.Proofs.Ytnipikdlfmcheaa.Plain
open Go.RowKit

/-! A text cut in two -/

theorem extract_data' (s : ByteArray) (i j : Nat) : (s.extract i j).data.toList = (s.data.toList.drop i).take (j - i) := Lib.extract_data s i j

theorem extract_size' (s : ByteArray) (i j : Nat) (h : i ≤ j) (hj : j ≤ s.size) : (s.extract i j).size = j - i := by
  rw [ByteArray.size_extract]; omega

theorem extract_join (s : ByteArray) (i j k : Nat) (h1 : i ≤ j) (h2 : j ≤ k) : s.extract i j ++ s.extract j k = s.extract i k := by
  apply bytes_ext
  rw [data_append, extract_data', extract_data', extract_data']
  have e : k - i = (j - i) + (k - j) := by omega
  rw [e, List.take_add, List.drop_drop]
  congr 2
  congr 1
  omega

theorem extract_all (s : ByteArray) : s.extract 0 s.size = s := ByteArray.extract_zero_size

theorem extract_left (a b : ByteArray) (n : Nat) (h : a.size = n) : (a ++ b).extract 0 n = a := by
  apply bytes_ext
  rw [extract_data', data_append, List.drop_zero, Nat.sub_zero, List.take_left' (by rw [size_list]; exact h)]

theorem extract_right (a b : ByteArray) (n m : Nat) (h : a.size = n) (hm : n + b.size = m) : (a ++ b).extract n m = b := by
  apply bytes_ext
  rw [extract_data', data_append, List.drop_left' (by rw [size_list]; exact h), List.take_of_length_le (by rw [size_list]; omega)]

theorem extract_mid (a b c : ByteArray) (n m : Nat) (h : a.size = n) (hm : n + b.size = m) : (a ++ b ++ c).extract n m = b := by
  apply bytes_ext
  rw [extract_data', data_append, data_append, List.append_assoc, List.drop_left' (by rw [size_list]; exact h), List.take_left' (by rw [size_list]; omega)]

/-! A number's bytes -/

theorem byteOf_low (x : Int) (b : UInt8) : byteOf (x * 256 + (b.toNat : Int)) 0 = b := by
  have hb : b.toNat < 256 := UInt8.toNat_lt b
  apply UInt8.toNat_inj.1
  have h := byteOf_nat (x * 256 + (b.toNat : Int)) 0
  simp at h
  omega

theorem byteOf_up (x : Int) (b : UInt8) (i : Nat) : byteOf (x * 256 + (b.toNat : Int)) (i + 1) = byteOf x i := by
  have hb : b.toNat < 256 := UInt8.toNat_lt b
  apply UInt8.toNat_inj.1
  have h := byteOf_nat (x * 256 + (b.toNat : Int)) (i + 1)
  have h' := byteOf_nat x i
  have e : (x * 256 + (b.toNat : Int)) / 2 ^ (8 * (i + 1)) = x / 2 ^ (8 * i) := by
    have e1 : (2 : Int) ^ (8 * i) * 256 = 256 * 2 ^ (8 * i) := Int.mul_comm _ _
    have e2 : (x * 256 + (b.toNat : Int)) / 256 = x := by omega
    rw [pow_succ8, e1, ← Int.ediv_ediv_of_nonneg (by decide), e2]
  rw [e, ← h'] at h
  omega

theorem putL_up (x : Int) (b : UInt8) (k : Nat) : putL (x * 256 + (b.toNat : Int)) (k + 1) = putL x k ++ [b] := by
  induction k with
  | zero => rw [putL, putL, byteOf_low]; rfl
  | succ k ih =>
    rw [putL, ih, byteOf_up]
    rfl

/-- What is read at a place, put, is the bytes that stand there. -/
theorem putL_getV (s : ByteArray) (p k : Nat) (h : p + k ≤ s.size) : putL (getV s p k) k = (s.data.toList.drop p).take k := by
  induction k with
  | zero => rfl
  | succ k ih =>
    rw [getV, putL_up, ih (by omega), List.take_add_one]
    congr 1
    have hlt : p + k < s.data.toList.length := by rw [size_list]; omega
    rw [List.getElem?_drop, List.getElem?_eq_getElem hlt]
    rfl

theorem getV_congr (s t : ByteArray) (p q k : Nat) (h : ∀ i, i < k → s.data.toList[p + i]? = t.data.toList[q + i]?) : getV s p k = getV t q k := by
  induction k with
  | zero => rfl
  | succ k ih => rw [getV, getV, ih (fun i hi => h i (by omega)), h k (by omega)]

theorem getV_front (s : ByteArray) (n p k : Nat) (h : p + k ≤ n) : getV (s.extract 0 n) p k = getV s p k := by
  apply getV_congr
  intro i hi
  rw [extract_data', List.drop_zero, Nat.sub_zero, List.getElem?_take_of_lt (by omega)]

theorem none_append (s : ByteArray) : (⟨#[]⟩ : ByteArray) ++ s = s := by
  apply bytes_ext
  rw [data_append]; rfl

/-- What is got, put, is the bytes. -/
theorem got_put {s : ByteArray} {p k : Nat} (h1 : 1 ≤ k) (h6 : k ≤ 6) (h : p + k ≤ s.size) : putOk (getV s p k) k = true ∧ putS (getV s p k) k = s.extract p (p + k) := by
  have hb := getV_bd s p k
  have hok : putOk (getV s p k) k = true := (putOk_iff _ _).2 ⟨by omega, by omega, hb.1, hb.2⟩
  refine ⟨hok, ?_⟩
  rw [putS_ok hok]
  apply bytes_ext
  rw [data_mk, Int.toNat_natCast, putL_getV s p k h, extract_data', Nat.add_sub_cancel_left]

/-- A text that is cut, with its length ahead, is the bytes. -/
theorem cut_text {s : ByteArray} {p : Nat} (h : cutE s p = 0) : ∃ q : Nat, cutT s p = q ∧ p + 2 ≤ q ∧ q ≤ s.size ∧ (cutS s p).size = q - (p + 2) ∧ (cutS s p).size ≤ 65535 ∧ textS (cutS s p) = s.extract p q := by
  have hg : getE s p 2 = 0 := by
    unfold cutE at h
    split at h
    · assumption
    · exact h
  obtain ⟨_, _, _, h2⟩ := getE_ok hg
  have hb := getV_bd s p 2
  have hv : getV s p 2 < 65536 := hb.2
  obtain ⟨n, hn⟩ : ∃ n : Nat, getV s p 2 = n := ⟨(getV s p 2).toNat, by omega⟩
  have hle : p + 2 + n ≤ s.size := by
    unfold cutE at h
    rw [if_pos hg] at h
    simp only [Int.toNat_natCast, hn] at h
    split at h
    · cases h
    · omega
  have eT : cutT s p = ((p + 2 + n : Nat) : Int) := by
    unfold cutT
    rw [if_pos h]
    simp only [Int.toNat_natCast]
    rw [hn]; omega
  have eS : cutS s p = s.extract (p + 2) (p + 2 + n) := by
    unfold cutS
    rw [if_pos h]
    simp only [Int.toNat_natCast]
    rw [hn]
    congr 1
  have hz : (cutS s p).size = n := by rw [eS, extract_size' _ _ _ (by omega) hle]; omega
  refine ⟨p + 2 + n, eT, by omega, hle, by omega, by omega, ?_⟩
  rw [textS_ok (by omega), cat_two, hz, eS]
  have := (got_put (s := s) (p := p) (k := 2) (by omega) (by omega) (by omega)).2
  rw [hn] at this
  have hok : putOk (n : Int) ((2 : Nat) : Int) = true := by
    have := (got_put (s := s) (p := p) (k := 2) (by omega) (by omega) (by omega)).1
    rw [hn] at this; exact this
  rw [putS_ok hok] at this
  rw [show (⟨(putL (n : Int) 2).toArray⟩ : ByteArray) = s.extract p (p + 2) from this]
  exact extract_join s p (p + 2) (p + 2 + n) (by omega) (by omega)

end Go.Proofs.Ytnipikdlfmcheaa.Plain
