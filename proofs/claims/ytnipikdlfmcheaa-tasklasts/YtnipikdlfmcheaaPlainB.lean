/-
  Plain facts on texts: joined, with their length ahead, padded, trimmed; nothing of any program.
-/
import Derived.Test.YtnipikdlfmcheaaPlain
import Derived.Lib.Join
import Derived.Lib.Repeat
namespace Go.Proofs.Ytnipikdlfmcheaa.Plain
open Go.RowKit

/-- The texts of a list, one behind the other. -/
def cat (ls : List ByteArray) : ByteArray := ⟨(ls.map (·.data.toList)).flatten.toArray⟩

theorem join_flat (ls : List (List UInt8)) : Lib.join ls [] = ls.flatten := by
  cases ls with
  | nil => rfl
  | cons x r =>
    rw [Lib.join_cons, Lib.joinTail]
    simp

theorem repeat_flat (c : Nat) : Lib.repeatL [0] c = List.replicate c 0 := by
  induction c with
  | zero => rfl
  | succ c ih => rw [Lib.repeatL, ih, List.replicate_succ]; rfl

theorem bytes_ext {a b : ByteArray} (h : a.data.toList = b.data.toList) : a = b := by
  cases a; cases b
  simp at h
  simp [h]

theorem data_mk (l : List UInt8) : (⟨l.toArray⟩ : ByteArray).data.toList = l := rfl
theorem size_mk (l : List UInt8) : (⟨l.toArray⟩ : ByteArray).size = l.length := rfl
theorem size_list (a : ByteArray) : a.data.toList.length = a.size := rfl

theorem data_append (a b : ByteArray) : (a ++ b).data.toList = a.data.toList ++ b.data.toList := by
  simp [ByteArray.data_append]

theorem cat_two (a b : ByteArray) : cat [a, b] = a ++ b := by
  apply bytes_ext
  rw [data_append]
  simp [cat]

theorem cat_size (ls : List ByteArray) : (cat ls).size = (ls.map (·.size)).sum := by
  unfold cat
  rw [size_mk, List.length_flatten, List.map_map]
  rfl

theorem cat_append (xs ys : List ByteArray) : cat (xs ++ ys) = cat xs ++ cat ys := by
  apply bytes_ext
  rw [data_append]
  simp [cat]

theorem cat_one (x : ByteArray) : cat [x] = x := by
  apply bytes_ext
  simp [cat]

theorem cat_take (zs : List ByteArray) (j : Nat) (h : j < zs.length) : cat (zs.take (j + 1)) = cat (zs.take j) ++ zs.getD j ByteArray.empty := by
  rw [List.take_add_one, cat_append]
  congr 1
  rw [List.getElem?_eq_getElem h, List.getD_eq_getElem?_getD, List.getElem?_eq_getElem h]
  exact cat_one _

/-! Texts with their length ahead -/

def textE (s : ByteArray) : Int := if s.size ≤ 65535 then 0 else 2
def textS (s : ByteArray) : ByteArray := if s.size ≤ 65535 then cat [⟨(putL s.size 2).toArray⟩, s] else ⟨#[]⟩

/-! Padded -/

def zeros (k : Nat) : ByteArray := ⟨(List.replicate k 0).toArray⟩
theorem zeros_size (k : Nat) : (zeros k).size = k := by
  show (List.replicate k (0 : UInt8)).length = k
  simp
def padE (s : ByteArray) (k : Int) : Int := if 0 ≤ k ∧ k ≤ 4096 then (if (s.size : Int) ≤ k then 0 else 2) else 1
def padS (s : ByteArray) (k : Int) : ByteArray := if padE s k = 0 then s ++ zeros (k.toNat - s.size) else ⟨#[]⟩

theorem padE_ok {s : ByteArray} {k : Int} (h : padE s k = 0) : 0 ≤ k ∧ k ≤ 4096 ∧ (s.size : Int) ≤ k := by
  unfold padE at h
  by_cases h1 : 0 ≤ k ∧ k ≤ 4096
  · rw [if_pos h1] at h
    by_cases h2 : (s.size : Int) ≤ k
    · exact ⟨h1.1, h1.2, h2⟩
    · rw [if_neg h2] at h; omega
  · rw [if_neg h1] at h; omega

/-! Trimmed: how many of the first k bytes are left when zeros at their end are left out -/

def trimN (s : ByteArray) : Nat → Nat
  | 0 => 0
  | k + 1 => if s.data.toList[k]?.getD 0 = 0 then trimN s k else k + 1
def trimS (s : ByteArray) : ByteArray := s.extract 0 (trimN s s.size)

theorem trimN_le (s : ByteArray) (k : Nat) : trimN s k ≤ k := by
  induction k with
  | zero => exact Nat.le_refl _
  | succ k ih => rw [trimN]; split <;> omega

theorem trimN_down (s : ByteArray) (k : Nat) (h : k < s.size) (hz : s[k] = 0) : trimN s (k + 1) = trimN s k := by
  rw [trimN, byte_get s k h, if_pos hz]
theorem trimN_stay (s : ByteArray) (k : Nat) (h : k < s.size) (hz : ¬ s[k] = 0) : trimN s (k + 1) = k + 1 := by
  rw [trimN, byte_get s k h, if_neg hz]

theorem trimS_none (s : ByteArray) (h : trimN s s.size = trimN s 0) : trimS s = ByteArray.empty := by
  rw [trimS, h, trimN]
  apply bytes_ext
  simp

/-- Two bytes of a length. -/
theorem put_two (n : Nat) (h : n ≤ 65535) : ((putL n 2).map cellOf).toArray = #[.int .u8 ((n : Int) / 256), .int .u8 ((n : Int) % 256)] := by
  have e1 := byteOf_nat n 1
  have e0 := byteOf_nat n 0
  have p1 : (2 : Int) ^ (8 * 1) = 256 := by decide
  have p0 : (2 : Int) ^ (8 * 0) = 1 := by decide
  rw [p1] at e1
  rw [p0, Int.ediv_one] at e0
  have e1' : ((byteOf n 1).toNat : Int) = (n : Int) / 256 := by omega
  simp only [putL, List.map_cons, List.map_nil, cellOf, e1', e0]

theorem zeros_cells (d : Nat) : ((List.replicate d (0 : UInt8)).map cellOf).toArray = madeCells #[.int .u8 0] d := by
  apply Array.toList_inj.1
  rw [toList_madeCells_one]
  simp [cellOf]

end Go.Proofs.Ytnipikdlfmcheaa.Plain
