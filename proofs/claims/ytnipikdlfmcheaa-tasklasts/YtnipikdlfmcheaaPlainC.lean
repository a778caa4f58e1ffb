/-
  Plain facts: what is put is got; what is torn is short. Nothing of any program.
-/
import Derived.Test.YtnipikdlfmcheaaPlainB
import Derived.Lib.Strings
namespace Go.Proofs.Ytnipikdlfmcheaa.Plain
open Go.RowKit

theorem mod_low8 (m : Int) (i : Nat) : m % 2 ^ (8 * (i + 1)) = (m / 256 % 2 ^ (8 * i)) * 256 + m % 256 := by
  rw [pow_succ8]
  have hp := pow_pos8 i
  generalize (2 : Int) ^ (8 * i) = p at hp
  have e1 := Int.mul_ediv_add_emod m 256
  have e2 := Int.mul_ediv_add_emod (m / 256) p
  have e3 := Int.mul_ediv_add_emod m (p * 256)
  have e4 : m / (p * 256) = m / 256 / p := by rw [Int.mul_comm]; exact (Int.ediv_ediv_of_nonneg (by decide)).symm
  rw [e4] at e3
  generalize m / 256 / p = q at e2 e3
  generalize m / 256 % p = b at e2
  generalize m / 256 = d at e1 e2
  subst e2
  have e5 : p * 256 * q = 256 * (p * q) := by rw [Int.mul_comm p 256, Int.mul_assoc]
  rw [e5] at e3
  generalize p * q = z at e1 e3
  omega

theorem div_step8 (n : Int) (j : Nat) : n / 2 ^ (8 * (j + 1)) = n / 2 ^ (8 * j) / 256 := by
  rw [pow_succ8]
  exact (Int.ediv_ediv_of_nonneg (by have := pow_pos8 j; omega)).symm

/-- What stands at a place as a number's bytes is read as the number. -/
theorem getV_bytes (s : ByteArray) (p k : Nat) (n : Int) (h : ∀ i, i < k → s.data.toList[p + i]? = some (byteOf n (k - 1 - i))) : getV s p k = n % 2 ^ (8 * k) := by
  have H : ∀ i, i ≤ k → getV s p i = n / 2 ^ (8 * (k - i)) % 2 ^ (8 * i) := by
    intro i
    induction i with
    | zero => intro _; simp [getV, Int.emod_one]
    | succ i ih =>
      intro hi
      rw [getV, ih (by omega), h i (by omega), mod_low8]
      have e1 : k - i = (k - (i + 1)) + 1 := by omega
      have e2 : k - 1 - i = k - (i + 1) := by omega
      rw [e1, div_step8, e2, Option.getD_some, byteOf_nat]
  have := H k (Nat.le_refl _)
  rw [this, Nat.sub_self]
  simp

theorem putL_at (n : Int) (k i : Nat) (h : i < k) : (putL n k)[i]? = some (byteOf n (k - 1 - i)) := by
  have := putL_get n k (k - 1 - i) (by omega)
  have e : k - 1 - (k - 1 - i) = i := by omega
  rwa [e] at this

theorem cat_data (ls : List ByteArray) : (cat ls).data.toList = (ls.map (·.data.toList)).flatten := rfl

/-- A number put between two texts is got. -/
theorem getV_mid (a c : ByteArray) (k : Nat) (n : Int) : getV (cat [a, ⟨(putL n k).toArray⟩, c]) a.size k = n % 2 ^ (8 * k) := by
  apply getV_bytes
  intro i hi
  rw [cat_data]
  simp only [List.map_cons, List.map_nil, List.flatten_cons, List.flatten_nil, List.append_nil]
  rw [List.getElem?_append_right (by rw [size_list]; omega), size_list, Nat.add_sub_cancel_left, List.getElem?_append_left (by rw [putL_length]; exact hi)]
  exact putL_at n k i hi

theorem textS_ok {s : ByteArray} (h : s.size ≤ 65535) : textS s = cat [⟨(putL s.size 2).toArray⟩, s] := by rw [textS, if_pos h]
theorem textS_size {s : ByteArray} (h : s.size ≤ 65535) : (textS s).size = 2 + s.size := by
  rw [textS_ok h, cat_size]
  simp [size_mk, putL_length]
theorem textS_data {s : ByteArray} (h : s.size ≤ 65535) : (textS s).data.toList = putL s.size 2 ++ s.data.toList := by
  rw [textS_ok h, cat_data]
  simp

/-- Of a text with its length ahead of it no beginning is read as a text. -/
theorem torn (s : ByteArray) (h : s.size ≤ 65535) (t : Nat) (ht : t < 2 + s.size) : cutE ((textS s).extract 0 t) 0 = 3 := by
  have hsz : ((textS s).extract 0 t).size = t := by
    rw [ByteArray.size_extract, textS_size h]; omega
  have hdt : ((textS s).extract 0 t).data.toList = (putL s.size 2 ++ s.data.toList).take t := by
    rw [Lib.extract_data, textS_data h]; simp
  by_cases h2 : t < 2
  · have e : getE ((textS s).extract 0 t) 0 2 = 3 := by
      unfold getE
      rw [hsz, if_pos ⟨by omega, by omega, by omega, by omega⟩, if_pos (by omega)]
    rw [cutE, e]; rfl
  · have e : getE ((textS s).extract 0 t) 0 2 = 0 := getE_zero ⟨by omega, by omega, by omega, by rw [hsz]; omega⟩
    have ev : getV ((textS s).extract 0 t) 0 2 = s.size := by
      rw [getV_bytes _ 0 2 s.size]
      · exact mod_self8 _ _ (by omega) (by show (s.size : Int) < 65536; omega)
      · intro i hi
        rw [hdt, Nat.zero_add, List.getElem?_take_of_lt (by omega), List.getElem?_append_left (by rw [putL_length]; exact hi)]
        exact putL_at _ 2 i hi
    rw [cutE, e, if_pos rfl]
    show (if _ < getV _ 0 2 then (3 : Int) else 0) = 3
    rw [ev, hsz, if_pos (by omega)]

theorem putS_size {n k : Int} (h : putOk n k = true) : ((putS n k).size : Int) = k := by
  obtain ⟨h1, _⟩ := (putOk_iff n k).1 h
  rw [putS_ok h, size_mk, putL_length]; omega

/-- What is put between two texts is got. -/
theorem mid_get (a c : ByteArray) (n k : Int) (h : putOk n k = true) :
    getE (cat [a, putS n k, c]) a.size k = 0 ∧ getR (cat [a, putS n k, c]) a.size k = n ∧ getT (cat [a, putS n k, c]) a.size k = a.size + k := by
  obtain ⟨h1, h6, h0, hn⟩ := (putOk_iff n k).1 h
  have hsz := putS_size h
  have e : getE (cat [a, putS n k, c]) a.size k = 0 := by
    apply getE_zero
    refine ⟨h1, h6, by omega, ?_⟩
    rw [cat_size]
    simp
    omega
  refine ⟨e, ?_, by rw [getT, if_pos e]⟩
  rw [getR, if_pos e, putS_ok h]
  show getV _ a.size k.toNat = n
  rw [getV_mid, mod_self8 _ _ h0 hn]

/-- A text with its length ahead, between two texts, is cut. -/
theorem mid_cut (a s c : ByteArray) (h : s.size ≤ 65535) :
    cutE (cat [a, textS s, c]) a.size = 0 ∧ cutS (cat [a, textS s, c]) a.size = s ∧ cutT (cat [a, textS s, c]) a.size = a.size + 2 + s.size := by
  have hsz : (cat [a, textS s, c]).size = a.size + (2 + s.size) + c.size := by
    rw [cat_size]
    simp [textS_size h]
    omega
  have hd : (cat [a, textS s, c]).data.toList = a.data.toList ++ ((putL s.size 2 ++ s.data.toList) ++ c.data.toList) := by
    rw [cat_data]
    simp [textS_data h]
  have e : getE (cat [a, textS s, c]) a.size 2 = 0 := getE_zero ⟨by omega, by omega, by omega, by rw [hsz]; omega⟩
  have ev : getV (cat [a, textS s, c]) a.size 2 = s.size := by
    rw [getV_bytes _ a.size 2 s.size]
    · exact mod_self8 _ _ (by omega) (by show (s.size : Int) < 65536; omega)
    · intro i hi
      rw [hd, List.getElem?_append_right (by rw [size_list]; omega), size_list, Nat.add_sub_cancel_left, List.append_assoc, List.getElem?_append_left (by rw [putL_length]; exact hi)]
      exact putL_at _ 2 i hi
  have e2 : cutE (cat [a, textS s, c]) a.size = 0 := by
    rw [cutE, if_pos e]
    show (if _ < getV _ a.size 2 then (3 : Int) else 0) = 0
    rw [ev, hsz, if_neg (by omega)]
  refine ⟨e2, ?_, ?_⟩
  · rw [cutS, if_pos e2]
    show ByteArray.extract _ ((a.size : Int) + 2).toNat ((a.size : Int) + 2 + getV _ a.size 2).toNat = s
    rw [ev]
    have t1 : ((a.size : Int) + 2).toNat = a.size + 2 := by omega
    have t2 : ((a.size : Int) + 2 + (s.size : Int)).toNat = a.size + 2 + s.size := by omega
    rw [t1, t2]
    apply bytes_ext
    rw [Lib.extract_data, hd, Nat.add_sub_cancel_left]
    have l1 : (a.data.toList ++ putL s.size 2).length = a.size + 2 := by rw [List.length_append, putL_length, size_list]
    rw [List.append_assoc, ← List.append_assoc, ← l1, List.drop_left, List.take_left' (size_list s)]
  · rw [cutT, if_pos e2]
    show (a.size : Int) + 2 + getV _ a.size 2 = _
    rw [ev]

end Go.Proofs.Ytnipikdlfmcheaa.Plain
