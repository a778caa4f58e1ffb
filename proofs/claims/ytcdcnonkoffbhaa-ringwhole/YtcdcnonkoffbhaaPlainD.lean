/-
  Plain facts: trimmed and padded. Nothing of any program.
-/
import Derived.Test.YtcdcnonkoffbhaaPlainB
import Derived.Lib.Strings
namespace Go.Proofs.Ytcdcnonkoffbhaa.Plain
open Go.RowKit

def byteAt (s : ByteArray) (j : Nat) : UInt8 := s.data.toList[j]?.getD 0

theorem trimN_tail (s : ByteArray) (k : Nat) : ∀ j, trimN s k ≤ j → j < k → byteAt s j = 0 := by
  induction k with
  | zero => intro j _ h; omega
  | succ k ih =>
    intro j h1 h2
    rw [trimN] at h1
    by_cases hz : s.data.toList[k]?.getD 0 = 0
    · rw [if_pos hz] at h1
      by_cases e : j = k
      · subst e; exact hz
      · exact ih j h1 (by omega)
    · rw [if_neg hz] at h1; omega

theorem trimN_last (s : ByteArray) (k : Nat) (h : 0 < trimN s k) : byteAt s (trimN s k - 1) ≠ 0 := by
  induction k with
  | zero => simp [trimN] at h
  | succ k ih =>
    rw [trimN] at h ⊢
    by_cases hz : s.data.toList[k]?.getD 0 = 0
    · rw [if_pos hz] at h ⊢; exact ih h
    · rw [if_neg hz]; exact hz

theorem trimN_uniq (s : ByteArray) (k m : Nat) (hm : m ≤ k) (h0 : ∀ j, m ≤ j → j < k → byteAt s j = 0) (h1 : 0 < m → byteAt s (m - 1) ≠ 0) : trimN s k = m := by
  have a := trimN_le s k
  rcases Nat.lt_trichotomy (trimN s k) m with h | h | h
  · exact absurd (trimN_tail s k (m - 1) (by omega) (by omega)) (h1 (by omega))
  · exact h
  · exact absurd (h0 (trimN s k - 1) (by omega) (by omega)) (trimN_last s k (by omega))

theorem trimS_size (s : ByteArray) : (trimS s).size = trimN s s.size := by
  have := trimN_le s s.size
  rw [trimS, ByteArray.size_extract]; omega
theorem trimS_data (s : ByteArray) : (trimS s).data.toList = s.data.toList.take (trimN s s.size) := by
  rw [trimS, Lib.extract_data]; simp

theorem get_byteAt (s : ByteArray) (j : Nat) (h : j < s.size) : s[j] = byteAt s j := (byte_get s j h).symm

/-- What is trimmed has no zero at its end. -/
theorem trimS_last (s : ByteArray) (m : Nat) (h : (trimS s).size = m + 1) (hm : m < (trimS s).size) : (((trimS s)[m].toNat : Int) == 0) = false := by
  rw [get_byteAt]
  have e : trimN s s.size = m + 1 := by rw [← trimS_size]; exact h
  have hl := trimN_last s s.size (by omega)
  rw [e, Nat.add_sub_cancel] at hl
  have eb : byteAt (trimS s) m = byteAt s m := by
    unfold byteAt
    rw [trimS_data, List.getElem?_take_of_lt (by omega)]
  rw [eb]
  have : (byteAt s m).toNat ≠ 0 := fun h => hl (UInt8.toNat_inj.1 h)
  simpa using this

/-- Trimmed and padded to its length it is as it was. -/
theorem trim_pad (s : ByteArray) : trimS s ++ zeros (s.size - trimN s s.size) = s := by
  apply bytes_ext
  rw [data_append, trimS_data]
  have hle := trimN_le s s.size
  conv => rhs; rw [← List.take_append_drop (trimN s s.size) s.data.toList]
  congr 1
  apply List.ext_getElem?
  intro j
  show (List.replicate _ (0 : UInt8))[j]? = _
  rw [List.getElem?_drop, List.getElem?_replicate]
  by_cases hj : j < s.size - trimN s s.size
  · rw [if_pos hj]
    have h := trimN_tail s s.size (trimN s s.size + j) (by omega) (by omega)
    unfold byteAt at h
    have hlt : trimN s s.size + j < s.data.toList.length := by rw [size_list]; omega
    rw [List.getElem?_eq_getElem hlt] at h ⊢
    simp at h
    rw [Option.some_inj]
    simpa using h.symm
  · rw [if_neg hj, List.getElem?_eq_none (by rw [size_list]; omega)]

theorem padS_trim (s : ByteArray) (h : s.size ≤ 4096) : padS (trimS s) s.size = s ∧ padE (trimS s) s.size = 0 := by
  have hle := trimN_le s s.size
  have e : padE (trimS s) s.size = 0 := by
    unfold padE
    rw [trimS_size, if_pos ⟨by omega, by omega⟩, if_pos (by omega)]
  refine ⟨?_, e⟩
  rw [padS, if_pos e, trimS_size]
  exact trim_pad s

/-- Padded further and trimmed it is what was trimmed. -/
theorem trim_more (s : ByteArray) (d : Nat) : trimS (s ++ zeros d) = trimS s := by
  have hsz : (s ++ zeros d).size = s.size + d := by rw [ByteArray.size_append, zeros_size]
  have hb : ∀ j, byteAt (s ++ zeros d) j = byteAt s j := by
    intro j
    unfold byteAt
    rw [data_append]
    by_cases hj : j < s.size
    · rw [List.getElem?_append_left (by rw [size_list]; exact hj)]
    · rw [List.getElem?_append_right (by rw [size_list]; omega)]
      show ((List.replicate d (0 : UInt8))[_]?).getD 0 = _
      rw [List.getElem?_replicate, List.getElem?_eq_none (l := s.data.toList) (by rw [size_list]; omega)]
      split <;> rfl
  have hle := trimN_le s s.size
  have e : trimN (s ++ zeros d) (s ++ zeros d).size = trimN s s.size := by
    apply trimN_uniq
    · omega
    · intro j h1 h2
      rw [hb]
      by_cases hj : j < s.size
      · exact trimN_tail s s.size j h1 hj
      · unfold byteAt
        rw [List.getElem?_eq_none (by rw [size_list]; omega)]
        rfl
    · intro h
      rw [hb]
      exact trimN_last s s.size h
  apply bytes_ext
  rw [trimS_data, trimS_data, e, data_append, List.take_append_of_le_length (by rw [size_list]; exact hle)]

theorem padS_more (s : ByteArray) (m : Nat) (h : s.size + m ≤ 4096) : padS s (s.size + m : Nat) = s ++ zeros m ∧ padE s (s.size + m : Nat) = 0 := by
  have e : padE s (s.size + m : Nat) = 0 := by
    unfold padE
    rw [if_pos ⟨by omega, by omega⟩, if_pos (by omega)]
  refine ⟨?_, e⟩
  rw [padS, if_pos e]
  show s ++ zeros (s.size + m - s.size) = _
  rw [Nat.add_sub_cancel_left]

end Go.Proofs.Ytcdcnonkoffbhaa.Plain
