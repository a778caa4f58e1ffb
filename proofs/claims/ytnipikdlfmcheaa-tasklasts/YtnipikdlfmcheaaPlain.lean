/-
  Plain facts on numbers as bytes, the highest first; nothing of any program.
-/
import Derived.WalkKit
import Derived.Laws.BitsLemmas
namespace Go.Proofs.Ytnipikdlfmcheaa.Plain
open Go.RowKit

/-- Byte number i of a number, counted from the lowest. -/
def byteOf (n : Int) (i : Nat) : UInt8 := UInt8.ofNat (n / 2 ^ (8 * i) % 256).toNat

theorem byteOf_nat (n : Int) (i : Nat) : ((byteOf n i).toNat : Int) = n / 2 ^ (8 * i) % 256 := by
  unfold byteOf
  have h1 := Int.emod_nonneg (n / 2 ^ (8 * i)) (by decide : (256 : Int) ≠ 0)
  have h2 := Int.emod_lt_of_pos (n / 2 ^ (8 * i)) (by decide : (0 : Int) < 256)
  rw [UInt8.toNat_ofNat']
  omega

/-- The lowest so many bytes, the highest of them first. -/
def putL (n : Int) : Nat → List UInt8
  | 0 => []
  | i + 1 => byteOf n i :: putL n i

theorem putL_length (n : Int) (k : Nat) : (putL n k).length = k := by
  induction k with
  | zero => rfl
  | succ k ih => simp [putL, ih]

def cellOf (b : UInt8) : Value := .int .u8 (b.toNat : Int)

/-- A row of bytes of which the last i are written. -/
def putC (n : Int) (size i : Nat) : Array Value := ((List.replicate (size - i) 0 ++ putL n i).map cellOf).toArray

theorem putC_zero (n : Int) (size : Nat) : putC n size 0 = madeCells #[.int .u8 0] size := by
  apply Array.toList_inj.1
  rw [toList_madeCells_one]
  simp [putC, putL, cellOf]

theorem putC_full (n : Int) (size : Nat) : putC n size size = ((putL n size).map cellOf).toArray := by
  simp [putC]

theorem putC_size (n : Int) (size i : Nat) (h : i ≤ size) : (putC n size i).size = size := by
  simp [putC, putL_length]; omega

theorem putC_succ (n : Int) (size i : Nat) (h : i < size) : (putC n size i).setIfInBounds (size - 1 - i) (.int .u8 (n / 2 ^ (8 * i) % 256)) = putC n size (i + 1) := by
  apply Array.toList_inj.1
  rw [Array.toList_setIfInBounds]
  simp only [putC]
  have e : size - i = (size - 1 - i) + 1 := by omega
  have e' : size - (i + 1) = size - 1 - i := by omega
  rw [e, e', List.replicate_succ']
  simp only [List.append_assoc, List.map_append, List.cons_append, List.nil_append, List.map_cons, putL]
  rw [List.set_append_right _ _ (by simp)]
  simp [cellOf, byteOf_nat]

theorem putC_get (n : Int) (size i j : Nat) (h : i ≤ size) (hj : j < size) : ∃ x : Int, (putC n size i)[j]? = some (.int .u8 x) := by
  have hs := putC_size n size i h
  refine ⟨((List.replicate (size - i) 0 ++ putL n i)[j]'(by simp [putL_length]; omega)).toNat, ?_⟩
  have : j < (putC n size i).size := by omega
  simp only [putC, List.getElem?_toArray, List.getElem?_map]
  rw [List.getElem?_eq_getElem (by simp [putL_length]; omega)]
  rfl

theorem pow_succ8 (k : Nat) : (2 : Int) ^ (8 * (k + 1)) = 2 ^ (8 * k) * 256 := by
  rw [Nat.mul_add, Int.pow_add]; rfl

theorem pow_pos8 (k : Nat) : (0 : Int) < 2 ^ (8 * k) := Int.pow_pos (by decide)

/-- A number's lowest bytes: the highest of them, and the others. -/
theorem mod_succ8 (n : Int) (k : Nat) : n % 2 ^ (8 * (k + 1)) = 2 ^ (8 * k) * (n / 2 ^ (8 * k) % 256) + n % 2 ^ (8 * k) := by
  rw [pow_succ8]
  have hp := pow_pos8 k
  generalize (2 : Int) ^ (8 * k) = p at hp
  have e1 := Int.mul_ediv_add_emod n p
  have e2 := Int.mul_ediv_add_emod (n / p) 256
  have e3 := Int.mul_ediv_add_emod n (p * 256)
  have e4 : n / (p * 256) = n / p / 256 := (Int.ediv_ediv_of_nonneg (by omega)).symm
  rw [e4] at e3
  generalize hq : n / p / 256 = q at e2 e3
  generalize n / p % 256 = b at e2
  generalize n / p = d at e1 e2
  subst e2
  rw [Int.mul_add, ← Int.mul_assoc] at e1
  omega

theorem mod_lt8 (n : Int) (k : Nat) : 0 ≤ n % 2 ^ (8 * k) ∧ n % 2 ^ (8 * k) < 2 ^ (8 * k) :=
  ⟨Int.emod_nonneg _ (by have := pow_pos8 k; omega), Int.emod_lt_of_pos _ (pow_pos8 k)⟩

/-- Two numbers of a high and a low part are in the order of their high parts first. -/
theorem parts_lt (p a b x y : Int) (hx : 0 ≤ x ∧ x < p) (hy : 0 ≤ y ∧ y < p) : (p * a + x < p * b + y) ↔ (a < b ∨ (a = b ∧ x < y)) := by
  constructor
  · intro h
    rcases Int.lt_trichotomy a b with hab | hab | hab
    · exact .inl hab
    · subst hab; exact .inr ⟨rfl, by omega⟩
    · have : p * (b + 1) ≤ p * a := Int.mul_le_mul_of_nonneg_left (by omega) (by omega)
      rw [Int.mul_add, Int.mul_one] at this
      omega
  · rintro (h | ⟨rfl, h⟩)
    · have : p * (a + 1) ≤ p * b := Int.mul_le_mul_of_nonneg_left (by omega) (by omega)
      rw [Int.mul_add, Int.mul_one] at this
      omega
    · omega

theorem putL_less (m n : Int) (k : Nat) : Op.bytesLess (putL m k) (putL n k) = decide (m % 2 ^ (8 * k) < n % 2 ^ (8 * k)) := by
  induction k with
  | zero => simp [putL, Op.bytesLess, Int.emod_one]
  | succ k ih =>
    have hm := byteOf_nat m k
    have hn := byteOf_nat n k
    have h1 : (byteOf m k < byteOf n k) ↔ (m / 2 ^ (8 * k) % 256 < n / 2 ^ (8 * k) % 256) := by
      rw [UInt8.lt_iff_toNat_lt]; omega
    have h2 : (byteOf m k = byteOf n k) ↔ (m / 2 ^ (8 * k) % 256 = n / 2 ^ (8 * k) % 256) := by
      rw [← UInt8.toNat_inj]; omega
    rw [putL, putL, Op.bytesLess, ih, mod_succ8 m, mod_succ8 n, Bool.eq_iff_iff]
    simp only [Bool.or_eq_true, Bool.and_eq_true, decide_eq_true_eq, beq_iff_eq]
    rw [h1, h2, parts_lt _ _ _ _ _ (mod_lt8 m k) (mod_lt8 n k)]

theorem putL_inj (m n : Int) (k : Nat) : putL m k = putL n k ↔ m % 2 ^ (8 * k) = n % 2 ^ (8 * k) := by
  constructor
  · intro h
    have a := putL_less m n k
    have b := putL_less n m k
    have c := putL_less m m k
    rw [← h] at a b
    rw [c] at a b
    simp at a b
    omega
  · induction k with
    | zero => intro _; rfl
    | succ k ih =>
      intro h
      rw [mod_succ8 m, mod_succ8 n] at h
      have hm := mod_lt8 m k
      have hn := mod_lt8 n k
      have e1 : ¬ (2 ^ (8 * k) * (m / 2 ^ (8 * k) % 256) + m % 2 ^ (8 * k) < 2 ^ (8 * k) * (n / 2 ^ (8 * k) % 256) + n % 2 ^ (8 * k)) := by omega
      have e2 : ¬ (2 ^ (8 * k) * (n / 2 ^ (8 * k) % 256) + n % 2 ^ (8 * k) < 2 ^ (8 * k) * (m / 2 ^ (8 * k) % 256) + m % 2 ^ (8 * k)) := by omega
      rw [parts_lt _ _ _ _ _ hm hn] at e1
      rw [parts_lt _ _ _ _ _ hn hm] at e2
      have ea : m / 2 ^ (8 * k) % 256 = n / 2 ^ (8 * k) % 256 := by omega
      rw [putL, putL, ih (by omega)]
      congr 1
      rw [← UInt8.toNat_inj]
      have := byteOf_nat m k
      have := byteOf_nat n k
      omega

theorem mod_self8 (n : Int) (k : Nat) (h0 : 0 ≤ n) (h : n < 2 ^ (8 * k)) : n % 2 ^ (8 * k) = n := Int.emod_eq_of_lt h0 h

/-- The order of two numbers is that of their bytes. -/
theorem putL_lt (m n : Int) (k : Nat) (m0 : 0 ≤ m) (m1 : m < 2 ^ (8 * k)) (n0 : 0 ≤ n) (n1 : n < 2 ^ (8 * k)) : Op.bytesLess (putL m k) (putL n k) = decide (m < n) := by
  rw [putL_less, mod_self8 m k m0 m1, mod_self8 n k n0 n1]

theorem putL_beq (m n : Int) (k : Nat) (m0 : 0 ≤ m) (m1 : m < 2 ^ (8 * k)) (n0 : 0 ≤ n) (n1 : n < 2 ^ (8 * k)) : (putL m k == putL n k) = (m == n) := by
  rw [Bool.eq_iff_iff, beq_iff_eq, beq_iff_eq, putL_inj, mod_self8 m k m0 m1, mod_self8 n k n0 n1]

/-- Whether a number can be put in so many bytes. -/
def putOk (n k : Int) : Bool := decide (1 ≤ k ∧ k ≤ 6 ∧ 0 ≤ n ∧ n < 2 ^ (8 * k.toNat))
/-- What Put hands back: the bytes, and the error's number. -/
def putS (n k : Int) : ByteArray := ⟨(if putOk n k then putL n k.toNat else []).toArray⟩
def putE (n k : Int) : Int := if putOk n k then 0 else 1

theorem putOk_iff (n k : Int) : putOk n k = true ↔ (1 ≤ k ∧ k ≤ 6 ∧ 0 ≤ n ∧ n < 2 ^ (8 * k.toNat)) := by
  unfold putOk; exact decide_eq_true_iff
theorem putS_ok {n k : Int} (h : putOk n k = true) : putS n k = ⟨(putL n k.toNat).toArray⟩ := by simp [putS, h]
theorem putS_bad {n k : Int} (h : putOk n k = false) : putS n k = ⟨#[]⟩ := by simp [putS, h]
theorem putE_ok {n k : Int} (h : putOk n k = true) : putE n k = 0 := by simp [putE, h]
theorem putE_bad {n k : Int} (h : putOk n k = false) : putE n k = 1 := by simp [putE, h]

/-- 256 to a power, by name. -/
def pw (i : Nat) : Int := 2 ^ (8 * i)
theorem pw_zero : pw 0 = 1 := rfl
theorem pw_succ (i : Nat) : pw (i + 1) = pw i * 256 := pow_succ8 i
theorem pw_pos (i : Nat) : 0 < pw i := pow_pos8 i
theorem pw_le (i : Nat) (h : i ≤ 6) : pw i ≤ 281474976710656 := by
  match i, h with
  | 0, _ => decide
  | 1, _ => decide
  | 2, _ => decide
  | 3, _ => decide
  | 4, _ => decide
  | 5, _ => decide
  | 6, _ => decide
theorem byteOf_pw (n : Int) (i : Nat) : ((byteOf n i).toNat : Int) = n / pw i % 256 := byteOf_nat n i

/-- Written from the highest byte on: the first so many, and one more. -/
theorem putL_get (n : Int) (k j : Nat) (h : j < k) : (putL n k)[k - 1 - j]? = some (byteOf n j) := by
  induction k with
  | zero => omega
  | succ k ih =>
    by_cases hj : j = k
    · subst hj
      simp [putL]
    · have e : k + 1 - 1 - j = (k - 1 - j) + 1 := by omega
      rw [e, putL, List.getElem?_cons_succ]
      exact ih (by omega)

theorem putL_take (n : Int) (k j : Nat) (h : j < k) : (putL n k).take (k - j) = (putL n k).take (k - (j + 1)) ++ [byteOf n j] := by
  have e : k - j = (k - (j + 1)) + 1 := by omega
  have e' : k - (j + 1) = k - 1 - j := by omega
  rw [e, List.take_add_one, e', putL_get n k j h]
  rfl

/-- The number that stands in so many bytes from a place on. -/
def getV (s : ByteArray) (p : Nat) : Nat → Int
  | 0 => 0
  | i + 1 => getV s p i * 256 + ((s.data.toList[p + i]?.getD 0).toNat : Int)

theorem getV_bd (s : ByteArray) (p i : Nat) : 0 ≤ getV s p i ∧ getV s p i < pw i := by
  induction i with
  | zero => exact ⟨Int.le_refl _, by show (0 : Int) < 1; decide⟩
  | succ i ih =>
    have hb : (s.data.toList[p + i]?.getD 0).toNat < 256 := UInt8.toNat_lt _
    rw [getV, pw_succ]
    omega

theorem byte_get (s : ByteArray) (j : Nat) (h : j < s.size) : s.data.toList[j]?.getD 0 = s[j] := by
  rw [List.getElem?_eq_getElem (by simpa using h)]
  rfl

theorem getV_succ (s : ByteArray) (p i : Nat) (h : p + i < s.size) : getV s p (i + 1) = getV s p i * 256 + (s[p + i].toNat : Int) := by
  rw [getV, byte_get s _ h]

theorem i64_in (n : Int) (h0 : 0 ≤ n) (h1 : n < 2 ^ 63) : IntKind.i64.wrap n = n := by
  rw [IntKind.wrap_i64]; omega

/-- 'x<<8 | b' is a sum. -/
theorem or_byte (x : Int) (b : UInt8) (h0 : 0 ≤ x) (h1 : x ≤ 281474976710656) : bits .or .i64 (x * 256) (wrap64 (b.toNat : Int)) = x * 256 + (b.toNat : Int) := by
  have hb : b.toNat < 256 := UInt8.toNat_lt b
  have e : wrap64 (b.toNat : Int) = (b.toNat : Int) := by unfold wrap64; omega
  rw [e]
  exact bits_join .i64 63 (by decide) i64_in 8 (x * 256) (b.toNat : Int) (by omega) (by omega) (by omega) (by omega) (by omega) (by omega)

/-- What Get hands back: the number, the place behind it, the error's number. -/
def getE (s : ByteArray) (p k : Int) : Int := if 1 ≤ k ∧ k ≤ 6 ∧ 0 ≤ p ∧ p ≤ s.size then (if (s.size : Int) - p < k then 3 else 0) else 1
def getR (s : ByteArray) (p k : Int) : Int := if getE s p k = 0 then getV s p.toNat k.toNat else 0
def getT (s : ByteArray) (p k : Int) : Int := if getE s p k = 0 then p + k else 0

theorem getE_ok {s : ByteArray} {p k : Int} (h : getE s p k = 0) : 1 ≤ k ∧ k ≤ 6 ∧ 0 ≤ p ∧ p + k ≤ s.size := by
  unfold getE at h
  by_cases h1 : 1 ≤ k ∧ k ≤ 6 ∧ 0 ≤ p ∧ p ≤ s.size
  · rw [if_pos h1] at h
    by_cases h2 : (s.size : Int) - p < k
    · rw [if_pos h2] at h; omega
    · omega
  · rw [if_neg h1] at h; omega
theorem getE_zero {s : ByteArray} {p k : Int} (h : 1 ≤ k ∧ k ≤ 6 ∧ 0 ≤ p ∧ p + k ≤ s.size) : getE s p k = 0 := by
  unfold getE
  rw [if_pos ⟨h.1, h.2.1, h.2.2.1, by omega⟩, if_neg (by omega)]

/-- What Cut hands back: the text, the place behind it, the error's number. -/
def cutE (s : ByteArray) (p : Int) : Int := if getE s p 2 = 0 then (if (s.size : Int) - (p + 2) < getV s p.toNat 2 then 3 else 0) else getE s p 2
def cutS (s : ByteArray) (p : Int) : ByteArray := if cutE s p = 0 then s.extract (p + 2).toNat (p + 2 + getV s p.toNat 2).toNat else ⟨#[]⟩
def cutT (s : ByteArray) (p : Int) : Int := if cutE s p = 0 then p + 2 + getV s p.toNat 2 else 0

end Go.Proofs.Ytnipikdlfmcheaa.Plain
