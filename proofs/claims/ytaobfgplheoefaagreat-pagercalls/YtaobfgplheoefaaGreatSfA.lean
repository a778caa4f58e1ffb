/-
  Texts laid together: Plain PlainB PlainC PlainE PlainD Core SumPlain Put Shelf Text SumOf SumRef SumSeal SumRefSeal PagePlain SuperPlain NodePlain NodeMem Mem SuperMem RefPut RefText Pad PagePut SuperOwn Get PageGet PageWant SuperGet RefGet PageRefGet Anylast Anychain SuperRef.
-/
import Derived.WalkKit
import Derived.Laws.BitsLemmas
import Derived.Lib.Join
import Derived.Lib.Repeat
import Derived.Lib.Strings
import Derived.Test.YtaobfgplheoefaaGreatRows
import Derived.WalkSpells
import Derived.WalkLawsBesides
import Derived.Handy
import Derived.Deep.OwnRows
import Derived.Deep.AppendLies
import Derived.Lib.SmallJoins
import Derived.Lib.SliceRun
import Derived.Laws.BitsAllLaws
import Derived.Shelf.Strings.Builder1
import Derived.Shelf.Strings.Builder2
import Derived.Shelf.Strings.OnBuilder
import Derived.Shelf.Strings.BuilderF
import Derived.Shelf.Strings.Prefix
import Derived.Shelf.Bits.Mul64
import Derived.Shelf.Strings.Repeat
import Derived.Test.YtaobfgplheoefaaGreatProg
import Derived.Deep.RegionHeld3
import Derived.Orders
import Derived.Below
namespace Go.Proofs.YtaobfgplheoefaaGreat.Plain
open Go.RowKit
def byteOf (n : Int) (i : Nat) : UInt8 := UInt8.ofNat (n / 2 ^ (8 * i) % 256).toNat
theorem byteOf_nat (n : Int) (i : Nat) : ((byteOf n i).toNat : Int) = n / 2 ^ (8 * i) % 256 := by
 unfold byteOf
 have h1 := Int.emod_nonneg (n / 2 ^ (8 * i)) (by decide : (256 : Int) ≠ 0)
 have h2 := Int.emod_lt_of_pos (n / 2 ^ (8 * i)) (by decide : (0 : Int) < 256)
 rw [UInt8.toNat_ofNat']
 omega
def putL (n : Int) : Nat → List UInt8
 | 0 => []
 | i + 1 => byteOf n i :: putL n i
theorem putL_length (n : Int) (k : Nat) : (putL n k).length = k := by
 induction k with
 | zero => rfl
 | succ k ih => simp [putL, ih]
def cellOf (b : UInt8) : Value := .int .u8 (b.toNat : Int)
def putC (n : Int) (size i : Nat) : Array Value := ((List.replicate (size - i) 0 ++ putL n i).map cellOf).toArray
theorem putC_zero (n : Int) (size : Nat) : putC n size 0 = madeCells #[.int .u8 0] size := by
 apply Array.toList_inj.1
 rw [toList_madeCells_one]
 simp [putC, putL, cellOf]
theorem putC_full (n : Int) (size : Nat) : putC n size size = ((putL n size).map cellOf).toArray := by
 simp [putC]
theorem putC_size (n : Int) (size i : Nat) (h : i ≤ size) : (putC n size i).size = size := by
 simp [putC, putL_length]; omega
theorem putC_succ (n : Int) (size i : Nat) (h : i < size) : (putC n size i).setIfInBounds (size - 1 - i) (.int .u8 (n / 2 ^ (8 * i) % 256)) = putC n size (i + 1) := by
 apply Array.toList_inj.1
 rw [Array.toList_setIfInBounds]
 simp only [putC]
 have e : size - i = (size - 1 - i) + 1 := by omega
 have e' : size - (i + 1) = size - 1 - i := by omega
 rw [e, e', List.replicate_succ']
 simp only [List.append_assoc, List.map_append, List.cons_append, List.nil_append, List.map_cons, putL]
 rw [List.set_append_right _ _ (by simp)]
 simp [cellOf, byteOf_nat]
theorem putC_get (n : Int) (size i j : Nat) (h : i ≤ size) (hj : j < size) : ∃ x : Int, (putC n size i)[j]? = some (.int .u8 x) := by
 have hs := putC_size n size i h
 refine ⟨((List.replicate (size - i) 0 ++ putL n i)[j]'(by simp [putL_length]; omega)).toNat, ?_⟩
 have : j < (putC n size i).size := by omega
 simp only [putC, List.getElem?_toArray, List.getElem?_map]
 rw [List.getElem?_eq_getElem (by simp [putL_length]; omega)]
 rfl
theorem pow_succ8 (k : Nat) : (2 : Int) ^ (8 * (k + 1)) = 2 ^ (8 * k) * 256 := by
 rw [Nat.mul_add, Int.pow_add]; rfl
theorem pow_pos8 (k : Nat) : (0 : Int) < 2 ^ (8 * k) := Int.pow_pos (by decide)
theorem mod_self8 (n : Int) (k : Nat) (h0 : 0 ≤ n) (h : n < 2 ^ (8 * k)) : n % 2 ^ (8 * k) = n := Int.emod_eq_of_lt h0 h
def putOk (n k : Int) : Bool := decide (1 ≤ k ∧ k ≤ 6 ∧ 0 ≤ n ∧ n < 2 ^ (8 * k.toNat))
def putS (n k : Int) : ByteArray := ⟨(if putOk n k then putL n k.toNat else []).toArray⟩
def putE (n k : Int) : Int := if putOk n k then 0 else 1
theorem putOk_iff (n k : Int) : putOk n k = true ↔ (1 ≤ k ∧ k ≤ 6 ∧ 0 ≤ n ∧ n < 2 ^ (8 * k.toNat)) := by
 unfold putOk; exact decide_eq_true_iff
theorem putS_ok {n k : Int} (h : putOk n k = true) : putS n k = ⟨(putL n k.toNat).toArray⟩ := by simp [putS, h]
theorem putS_bad {n k : Int} (h : putOk n k = false) : putS n k = ⟨#[]⟩ := by simp [putS, h]
theorem putE_ok {n k : Int} (h : putOk n k = true) : putE n k = 0 := by simp [putE, h]
theorem putE_bad {n k : Int} (h : putOk n k = false) : putE n k = 1 := by simp [putE, h]
def pw (i : Nat) : Int := 2 ^ (8 * i)
theorem pw_zero : pw 0 = 1 := rfl
theorem pw_succ (i : Nat) : pw (i + 1) = pw i * 256 := pow_succ8 i
theorem pw_pos (i : Nat) : 0 < pw i := pow_pos8 i
theorem pw_le (i : Nat) (h : i ≤ 6) : pw i ≤ 281474976710656 := by
 match i, h with
 | 0, _ => decide
 | 1, _ => decide
 | 2, _ => decide
 | 3, _ => decide
 | 4, _ => decide
 | 5, _ => decide
 | 6, _ => decide
theorem byteOf_pw (n : Int) (i : Nat) : ((byteOf n i).toNat : Int) = n / pw i % 256 := byteOf_nat n i
theorem putL_get (n : Int) (k j : Nat) (h : j < k) : (putL n k)[k - 1 - j]? = some (byteOf n j) := by
 induction k with
 | zero => omega
 | succ k ih =>
  by_cases hj : j = k
  ·
   subst hj
   simp [putL]
  ·
   have e : k + 1 - 1 - j = (k - 1 - j) + 1 := by omega
   rw [e, putL, List.getElem?_cons_succ]
   exact ih (by omega)
theorem putL_take (n : Int) (k j : Nat) (h : j < k) : (putL n k).take (k - j) = (putL n k).take (k - (j + 1)) ++ [byteOf n j] := by
 have e : k - j = (k - (j + 1)) + 1 := by omega
 have e' : k - (j + 1) = k - 1 - j := by omega
 rw [e, List.take_add_one, e', putL_get n k j h]
 rfl
def getV (s : ByteArray) (p : Nat) : Nat → Int
 | 0 => 0
 | i + 1 => getV s p i * 256 + ((s.data.toList[p + i]?.getD 0).toNat : Int)
theorem getV_bd (s : ByteArray) (p i : Nat) : 0 ≤ getV s p i ∧ getV s p i < pw i := by
 induction i with
 | zero => exact ⟨Int.le_refl _, by show (0 : Int) < 1; decide⟩
 | succ i ih =>
  have hb : (s.data.toList[p + i]?.getD 0).toNat < 256 := UInt8.toNat_lt _
  rw [getV, pw_succ]
  omega
theorem byte_get (s : ByteArray) (j : Nat) (h : j < s.size) : s.data.toList[j]?.getD 0 = s[j] := by
 rw [List.getElem?_eq_getElem (by simpa using h)]
 rfl
theorem getV_succ (s : ByteArray) (p i : Nat) (h : p + i < s.size) : getV s p (i + 1) = getV s p i * 256 + (s[p + i].toNat : Int) := by
 rw [getV, byte_get s _ h]
theorem i64_in (n : Int) (h0 : 0 ≤ n) (h1 : n < 2 ^ 63) : IntKind.i64.wrap n = n := by
 rw [IntKind.wrap_i64]; omega
theorem or_byte (x : Int) (b : UInt8) (h0 : 0 ≤ x) (h1 : x ≤ 281474976710656) : bits .or .i64 (x * 256) (wrap64 (b.toNat : Int)) = x * 256 + (b.toNat : Int) := by
 have hb : b.toNat < 256 := UInt8.toNat_lt b
 have e : wrap64 (b.toNat : Int) = (b.toNat : Int) := by unfold wrap64; omega
 rw [e]
 exact bits_join .i64 63 (by decide) i64_in 8 (x * 256) (b.toNat : Int) (by omega) (by omega) (by omega) (by omega) (by omega) (by omega)
def getE (s : ByteArray) (p k : Int) : Int := if 1 ≤ k ∧ k ≤ 6 ∧ 0 ≤ p ∧ p ≤ s.size then (if (s.size : Int) - p < k then 3 else 0) else 1
def getR (s : ByteArray) (p k : Int) : Int := if getE s p k = 0 then getV s p.toNat k.toNat else 0
def getT (s : ByteArray) (p k : Int) : Int := if getE s p k = 0 then p + k else 0
theorem getE_ok {s : ByteArray} {p k : Int} (h : getE s p k = 0) : 1 ≤ k ∧ k ≤ 6 ∧ 0 ≤ p ∧ p + k ≤ s.size := by
 unfold getE at h
 by_cases h1 : 1 ≤ k ∧ k ≤ 6 ∧ 0 ≤ p ∧ p ≤ s.size
 ·
  rw [if_pos h1] at h
  by_cases h2 : (s.size : Int) - p < k
  ·
   rw [if_pos h2] at h; omega
  ·
   omega
 ·
  rw [if_neg h1] at h; omega
theorem getE_zero {s : ByteArray} {p k : Int} (h : 1 ≤ k ∧ k ≤ 6 ∧ 0 ≤ p ∧ p + k ≤ s.size) : getE s p k = 0 := by
 unfold getE
 rw [if_pos ⟨h.1, h.2.1, h.2.2.1, by omega⟩, if_neg (by omega)]
def cutE (s : ByteArray) (p : Int) : Int := if getE s p 2 = 0 then (if (s.size : Int) - (p + 2) < getV s p.toNat 2 then 3 else 0) else getE s p 2
def cutS (s : ByteArray) (p : Int) : ByteArray := if cutE s p = 0 then s.extract (p + 2).toNat (p + 2 + getV s p.toNat 2).toNat else ⟨#[]⟩
def cutT (s : ByteArray) (p : Int) : Int := if cutE s p = 0 then p + 2 + getV s p.toNat 2 else 0
def cat (ls : List ByteArray) : ByteArray := ⟨(ls.map (·.data.toList)).flatten.toArray⟩
theorem join_flat (ls : List (List UInt8)) : Lib.join ls [] = ls.flatten := by
 cases ls with
 | nil => rfl
 | cons x r =>
  rw [Lib.join_cons, Lib.joinTail]
  simp
theorem repeat_flat (c : Nat) : Lib.repeatL [0] c = List.replicate c 0 := by
 induction c with
 | zero => rfl
 | succ c ih => rw [Lib.repeatL, ih, List.replicate_succ]; rfl
theorem bytes_ext {a b : ByteArray} (h : a.data.toList = b.data.toList) : a = b := by
 cases a; cases b
 simp at h
 simp [h]
theorem data_mk (l : List UInt8) : (⟨l.toArray⟩ : ByteArray).data.toList = l := rfl
theorem size_mk (l : List UInt8) : (⟨l.toArray⟩ : ByteArray).size = l.length := rfl
theorem size_list (a : ByteArray) : a.data.toList.length = a.size := rfl
theorem data_append (a b : ByteArray) : (a ++ b).data.toList = a.data.toList ++ b.data.toList := by
 simp [ByteArray.data_append]
theorem cat_two (a b : ByteArray) : cat [a, b] = a ++ b := by
 apply bytes_ext
 rw [data_append]
 simp [cat]
theorem cat_size (ls : List ByteArray) : (cat ls).size = (ls.map (·.size)).sum := by
 unfold cat
 rw [size_mk, List.length_flatten, List.map_map]
 rfl
theorem cat_append (xs ys : List ByteArray) : cat (xs ++ ys) = cat xs ++ cat ys := by
 apply bytes_ext
 rw [data_append]
 simp [cat]
theorem cat_one (x : ByteArray) : cat [x] = x := by
 apply bytes_ext
 simp [cat]
def textE (s : ByteArray) : Int := if s.size ≤ 65535 then 0 else 2
def textS (s : ByteArray) : ByteArray := if s.size ≤ 65535 then cat [⟨(putL s.size 2).toArray⟩, s] else ⟨#[]⟩
def zeros (k : Nat) : ByteArray := ⟨(List.replicate k 0).toArray⟩
theorem zeros_size (k : Nat) : (zeros k).size = k := by
 show (List.replicate k (0 : UInt8)).length = k
 simp
def padE (s : ByteArray) (k : Int) : Int := if 0 ≤ k ∧ k ≤ 4096 then (if (s.size : Int) ≤ k then 0 else 2) else 1
def padS (s : ByteArray) (k : Int) : ByteArray := if padE s k = 0 then s ++ zeros (k.toNat - s.size) else ⟨#[]⟩
def trimN (s : ByteArray) : Nat → Nat
 | 0 => 0
 | k + 1 => if s.data.toList[k]?.getD 0 = 0 then trimN s k else k + 1
def trimS (s : ByteArray) : ByteArray := s.extract 0 (trimN s s.size)
theorem trimN_le (s : ByteArray) (k : Nat) : trimN s k ≤ k := by
 induction k with
 | zero => exact Nat.le_refl _
 | succ k ih => rw [trimN]; split <;> omega
theorem trimN_down (s : ByteArray) (k : Nat) (h : k < s.size) (hz : s[k] = 0) : trimN s (k + 1) = trimN s k := by
 rw [trimN, byte_get s k h, if_pos hz]
theorem trimN_stay (s : ByteArray) (k : Nat) (h : k < s.size) (hz : ¬ s[k] = 0) : trimN s (k + 1) = k + 1 := by
 rw [trimN, byte_get s k h, if_neg hz]
theorem trimS_none (s : ByteArray) (h : trimN s s.size = trimN s 0) : trimS s = ByteArray.empty := by
 rw [trimS, h, trimN]
 apply bytes_ext
 simp
theorem put_two (n : Nat) (h : n ≤ 65535) : ((putL n 2).map cellOf).toArray = #[.int .u8 ((n : Int) / 256), .int .u8 ((n : Int) % 256)] := by
 have e1 := byteOf_nat n 1
 have e0 := byteOf_nat n 0
 have p1 : (2 : Int) ^ (8 * 1) = 256 := by decide
 have p0 : (2 : Int) ^ (8 * 0) = 1 := by decide
 rw [p1] at e1
 rw [p0, Int.ediv_one] at e0
 have e1' : ((byteOf n 1).toNat : Int) = (n : Int) / 256 := by omega
 simp only [putL, List.map_cons, List.map_nil, cellOf, e1', e0]
theorem mod_low8 (m : Int) (i : Nat) : m % 2 ^ (8 * (i + 1)) = (m / 256 % 2 ^ (8 * i)) * 256 + m % 256 := by
 rw [pow_succ8]
 have hp := pow_pos8 i
 generalize (2 : Int) ^ (8 * i) = p at hp
 have e1 := Int.mul_ediv_add_emod m 256
 have e2 := Int.mul_ediv_add_emod (m / 256) p
 have e3 := Int.mul_ediv_add_emod m (p * 256)
 have e4 : m / (p * 256) = m / 256 / p := by rw [Int.mul_comm]; exact (Int.ediv_ediv_of_nonneg (by decide)).symm
 rw [e4] at e3
 generalize m / 256 / p = q at e2 e3
 generalize m / 256 % p = b at e2
 generalize m / 256 = d at e1 e2
 subst e2
 have e5 : p * 256 * q = 256 * (p * q) := by rw [Int.mul_comm p 256, Int.mul_assoc]
 rw [e5] at e3
 generalize p * q = z at e1 e3
 omega
theorem div_step8 (n : Int) (j : Nat) : n / 2 ^ (8 * (j + 1)) = n / 2 ^ (8 * j) / 256 := by
 rw [pow_succ8]
 exact (Int.ediv_ediv_of_nonneg (by have := pow_pos8 j; omega)).symm
theorem getV_bytes (s : ByteArray) (p k : Nat) (n : Int) (h : ∀ i, i < k → s.data.toList[p + i]? = some (byteOf n (k - 1 - i))) : getV s p k = n % 2 ^ (8 * k) := by
 have H : ∀ i, i ≤ k → getV s p i = n / 2 ^ (8 * (k - i)) % 2 ^ (8 * i) := by
  intro i
  induction i with
  | zero => intro _; simp [getV, Int.emod_one]
  | succ i ih =>
   intro hi
   rw [getV, ih (by omega), h i (by omega), mod_low8]
   have e1 : k - i = (k - (i + 1)) + 1 := by omega
   have e2 : k - 1 - i = k - (i + 1) := by omega
   rw [e1, div_step8, e2, Option.getD_some, byteOf_nat]
 have := H k (Nat.le_refl _)
 rw [this, Nat.sub_self]
 simp
theorem putL_at (n : Int) (k i : Nat) (h : i < k) : (putL n k)[i]? = some (byteOf n (k - 1 - i)) := by
 have := putL_get n k (k - 1 - i) (by omega)
 have e : k - 1 - (k - 1 - i) = i := by omega
 rwa [e] at this
theorem cat_data (ls : List ByteArray) : (cat ls).data.toList = (ls.map (·.data.toList)).flatten := rfl
theorem getV_mid (a c : ByteArray) (k : Nat) (n : Int) : getV (cat [a, ⟨(putL n k).toArray⟩, c]) a.size k = n % 2 ^ (8 * k) := by
 apply getV_bytes
 intro i hi
 rw [cat_data]
 simp only [List.map_cons, List.map_nil, List.flatten_cons, List.flatten_nil, List.append_nil]
 rw [List.getElem?_append_right (by rw [size_list]; omega), size_list, Nat.add_sub_cancel_left, List.getElem?_append_left (by rw [putL_length]; exact hi)]
 exact putL_at n k i hi
theorem textS_ok {s : ByteArray} (h : s.size ≤ 65535) : textS s = cat [⟨(putL s.size 2).toArray⟩, s] := by rw [textS, if_pos h]
theorem textS_size {s : ByteArray} (h : s.size ≤ 65535) : (textS s).size = 2 + s.size := by
 rw [textS_ok h, cat_size]
 simp [size_mk, putL_length]
theorem textS_data {s : ByteArray} (h : s.size ≤ 65535) : (textS s).data.toList = putL s.size 2 ++ s.data.toList := by
 rw [textS_ok h, cat_data]
 simp
theorem putS_size {n k : Int} (h : putOk n k = true) : ((putS n k).size : Int) = k := by
 obtain ⟨h1, _⟩ := (putOk_iff n k).1 h
 rw [putS_ok h, size_mk, putL_length]; omega
theorem extract_data' (s : ByteArray) (i j : Nat) : (s.extract i j).data.toList = (s.data.toList.drop i).take (j - i) := Lib.extract_data s i j
theorem extract_size' (s : ByteArray) (i j : Nat) (h : i ≤ j) (hj : j ≤ s.size) : (s.extract i j).size = j - i := by
 rw [ByteArray.size_extract]; omega
theorem extract_join (s : ByteArray) (i j k : Nat) (h1 : i ≤ j) (h2 : j ≤ k) : s.extract i j ++ s.extract j k = s.extract i k := by
 apply bytes_ext
 rw [data_append, extract_data', extract_data', extract_data']
 have e : k - i = (j - i) + (k - j) := by omega
 rw [e, List.take_add, List.drop_drop]
 congr 2
 congr 1
 omega
theorem extract_all (s : ByteArray) : s.extract 0 s.size = s := ByteArray.extract_zero_size
theorem extract_left (a b : ByteArray) (n : Nat) (h : a.size = n) : (a ++ b).extract 0 n = a := by
 apply bytes_ext
 rw [extract_data', data_append, List.drop_zero, Nat.sub_zero, List.take_left' (by rw [size_list]; exact h)]
theorem extract_right (a b : ByteArray) (n m : Nat) (h : a.size = n) (hm : n + b.size = m) : (a ++ b).extract n m = b := by
 apply bytes_ext
 rw [extract_data', data_append, List.drop_left' (by rw [size_list]; exact h), List.take_of_length_le (by rw [size_list]; omega)]
theorem byteOf_low (x : Int) (b : UInt8) : byteOf (x * 256 + (b.toNat : Int)) 0 = b := by
 have hb : b.toNat < 256 := UInt8.toNat_lt b
 apply UInt8.toNat_inj.1
 have h := byteOf_nat (x * 256 + (b.toNat : Int)) 0
 simp at h
 omega
theorem byteOf_up (x : Int) (b : UInt8) (i : Nat) : byteOf (x * 256 + (b.toNat : Int)) (i + 1) = byteOf x i := by
 have hb : b.toNat < 256 := UInt8.toNat_lt b
 apply UInt8.toNat_inj.1
 have h := byteOf_nat (x * 256 + (b.toNat : Int)) (i + 1)
 have h' := byteOf_nat x i
 have e : (x * 256 + (b.toNat : Int)) / 2 ^ (8 * (i + 1)) = x / 2 ^ (8 * i) := by
  have e1 : (2 : Int) ^ (8 * i) * 256 = 256 * 2 ^ (8 * i) := Int.mul_comm _ _
  have e2 : (x * 256 + (b.toNat : Int)) / 256 = x := by omega
  rw [pow_succ8, e1, ← Int.ediv_ediv_of_nonneg (by decide), e2]
 rw [e, ← h'] at h
 omega
theorem putL_up (x : Int) (b : UInt8) (k : Nat) : putL (x * 256 + (b.toNat : Int)) (k + 1) = putL x k ++ [b] := by
 induction k with
 | zero => rw [putL, putL, byteOf_low]; rfl
 | succ k ih =>
  rw [putL, ih, byteOf_up]
  rfl
theorem putL_getV (s : ByteArray) (p k : Nat) (h : p + k ≤ s.size) : putL (getV s p k) k = (s.data.toList.drop p).take k := by
 induction k with
 | zero => rfl
 | succ k ih =>
  rw [getV, putL_up, ih (by omega), List.take_add_one]
  congr 1
  have hlt : p + k < s.data.toList.length := by rw [size_list]; omega
  rw [List.getElem?_drop, List.getElem?_eq_getElem hlt]
  rfl
theorem getV_congr (s t : ByteArray) (p q k : Nat) (h : ∀ i, i < k → s.data.toList[p + i]? = t.data.toList[q + i]?) : getV s p k = getV t q k := by
 induction k with
 | zero => rfl
 | succ k ih => rw [getV, getV, ih (fun i hi => h i (by omega)), h k (by omega)]
theorem getV_front (s : ByteArray) (n p k : Nat) (h : p + k ≤ n) : getV (s.extract 0 n) p k = getV s p k := by
 apply getV_congr
 intro i hi
 rw [extract_data', List.drop_zero, Nat.sub_zero, List.getElem?_take_of_lt (by omega)]
theorem none_append (s : ByteArray) : (⟨#[]⟩ : ByteArray) ++ s = s := by
 apply bytes_ext
 rw [data_append]; rfl
theorem got_put {s : ByteArray} {p k : Nat} (h1 : 1 ≤ k) (h6 : k ≤ 6) (h : p + k ≤ s.size) : putOk (getV s p k) k = true ∧ putS (getV s p k) k = s.extract p (p + k) := by
 have hb := getV_bd s p k
 have hok : putOk (getV s p k) k = true := (putOk_iff _ _).2 ⟨by omega, by omega, hb.1, hb.2⟩
 refine ⟨hok, ?_⟩
 rw [putS_ok hok]
 apply bytes_ext
 rw [data_mk, Int.toNat_natCast, putL_getV s p k h, extract_data', Nat.add_sub_cancel_left]
def byteAt (s : ByteArray) (j : Nat) : UInt8 := s.data.toList[j]?.getD 0
theorem trimN_tail (s : ByteArray) (k : Nat) : ∀ j, trimN s k ≤ j → j < k → byteAt s j = 0 := by
 induction k with
 | zero => intro j _ h; omega
 | succ k ih =>
  intro j h1 h2
  rw [trimN] at h1
  by_cases hz : s.data.toList[k]?.getD 0 = 0
  ·
   rw [if_pos hz] at h1
   by_cases e : j = k
   ·
    subst e; exact hz
   ·
    exact ih j h1 (by omega)
  ·
   rw [if_neg hz] at h1; omega
theorem trimN_last (s : ByteArray) (k : Nat) (h : 0 < trimN s k) : byteAt s (trimN s k - 1) ≠ 0 := by
 induction k with
 | zero => simp [trimN] at h
 | succ k ih =>
  rw [trimN] at h ⊢
  by_cases hz : s.data.toList[k]?.getD 0 = 0
  ·
   rw [if_pos hz] at h ⊢; exact ih h
  ·
   rw [if_neg hz]; exact hz
theorem trimN_uniq (s : ByteArray) (k m : Nat) (hm : m ≤ k) (h0 : ∀ j, m ≤ j → j < k → byteAt s j = 0) (h1 : 0 < m → byteAt s (m - 1) ≠ 0) : trimN s k = m := by
 have a := trimN_le s k
 rcases Nat.lt_trichotomy (trimN s k) m with h | h | h
 ·
  exact absurd (trimN_tail s k (m - 1) (by omega) (by omega)) (h1 (by omega))
 ·
  exact h
 ·
  exact absurd (h0 (trimN s k - 1) (by omega) (by omega)) (trimN_last s k (by omega))
theorem trimS_size (s : ByteArray) : (trimS s).size = trimN s s.size := by
 have := trimN_le s s.size
 rw [trimS, ByteArray.size_extract]; omega
theorem trimS_data (s : ByteArray) : (trimS s).data.toList = s.data.toList.take (trimN s s.size) := by
 rw [trimS, Lib.extract_data]; simp
theorem trim_pad (s : ByteArray) : trimS s ++ zeros (s.size - trimN s s.size) = s := by
 apply bytes_ext
 rw [data_append, trimS_data]
 have hle := trimN_le s s.size
 conv => rhs; rw [← List.take_append_drop (trimN s s.size) s.data.toList]
 congr 1
 apply List.ext_getElem?
 intro j
 show (List.replicate _ (0 : UInt8))[j]? = _
 rw [List.getElem?_drop, List.getElem?_replicate]
 by_cases hj : j < s.size - trimN s s.size
 ·
  rw [if_pos hj]
  have h := trimN_tail s s.size (trimN s s.size + j) (by omega) (by omega)
  unfold byteAt at h
  have hlt : trimN s s.size + j < s.data.toList.length := by rw [size_list]; omega
  rw [List.getElem?_eq_getElem hlt] at h ⊢
  simp at h
  rw [Option.some_inj]
  simpa using h.symm
 ·
  rw [if_neg hj, List.getElem?_eq_none (by rw [size_list]; omega)]
theorem trim_more (s : ByteArray) (d : Nat) : trimS (s ++ zeros d) = trimS s := by
 have hsz : (s ++ zeros d).size = s.size + d := by rw [ByteArray.size_append, zeros_size]
 have hb : ∀ j, byteAt (s ++ zeros d) j = byteAt s j := by
  intro j
  unfold byteAt
  rw [data_append]
  by_cases hj : j < s.size
  ·
   rw [List.getElem?_append_left (by rw [size_list]; exact hj)]
  ·
   rw [List.getElem?_append_right (by rw [size_list]; omega)]
   show ((List.replicate d (0 : UInt8))[_]?).getD 0 = _
   rw [List.getElem?_replicate, List.getElem?_eq_none (l := s.data.toList) (by rw [size_list]; omega)]
   split <;> rfl
 have hle := trimN_le s s.size
 have e : trimN (s ++ zeros d) (s ++ zeros d).size = trimN s s.size := by
  apply trimN_uniq
  ·
   omega
  ·
   intro j h1 h2
   rw [hb]
   by_cases hj : j < s.size
   ·
    exact trimN_tail s s.size j h1 hj
   ·
    unfold byteAt
    rw [List.getElem?_eq_none (by rw [size_list]; omega)]
    rfl
  ·
   intro h
   rw [hb]
   exact trimN_last s s.size h
 apply bytes_ext
 rw [trimS_data, trimS_data, e, data_append, List.take_append_of_le_length (by rw [size_list]; exact hle)]
end Go.Proofs.YtaobfgplheoefaaGreat.Plain
namespace Go.Proofs.YtaobfgplheoefaaGreat
open Go.RowKit Plain Go.ChangeShapes Go.WideShapes
set_option linter.unusedVariables false
theorem Tryz.info5 : (Tryz.prog.info? 5).map (fun i => (i.zero, i.size, i.bytes)) = some (some (.int .u8 0), 1, 1) := by kernel_rfl
theorem Tryz.info4 : (Tryz.prog.info? 4).map (fun i => (i.zero, i.size, i.bytes)) = some (some (.bool false), 1, 1) := by kernel_rfl
theorem Tryz.info3 : (Tryz.prog.info? 3).map (fun i => (i.zero, i.size, i.bytes)) = some (some (.int .i64 0), 1, 8) := by kernel_rfl
theorem Tryz.info9 : (Tryz.prog.info? 9).map (fun i => (i.zero, i.size, i.bytes)) = some (some (.string ⟨#[]⟩), 1, 16) := by kernel_rfl
theorem ret_bool {a b : Bool} (h : a = b) : Ending.returned (.bool a) = .returned (.bool b) := by rw [h]
theorem ret_str {a b : ByteArray} (h : a = b) : Ending.returned (.string a) = .returned (.string b) := by rw [h]
theorem ret_int {a b : Int} (h : a = b) : Ending.returned (.int .i64 a) = .returned (.int .i64 b) := by rw [h]
theorem Below.tr {w a b : World} (h : Below w.heap.size w a) (k : Below a.heap.size a b) : Below w.heap.size w b := h.trans (k.mono h.size)
theorem cell_lt {w : World} {p : Addr} {v : Value} (h : w.cell? p = some v) : p.block < w.heap.size := by
 refine Nat.lt_of_not_le fun hn => ?_
 unfold World.cell? at h
 rw [Array.getElem?_eq_none hn] at h
 cases h
theorem cell_below {w w' : World} {p : Addr} {v : Value} (hb : Below w.heap.size w w') (h : w.cell? p = some v) : w'.cell? p = some v := by
 rw [hb.cell (cell_lt h)]; exact h
theorem cell_alloc {w : World} {p : Addr} {v : Value} (h : w.cell? p = some v) : ∀ o, (w.alloc o).cell? p = some v := fun o => Lib.cell?_alloc_some _ h
theorem at_add (g o j : Nat) : (⟨g, o, none⟩ : Addr).add j = ⟨g, o + j, none⟩ := by
 unfold Addr.add; split <;> simp_all
theorem made_one (z : Value) (n : Nat) : madeCells #[z] n = (List.replicate n z).toArray := by
 apply Array.ext'
 rw [toList_madeCells_one]
theorem heap_new (w : World) (o : Obj) : (w.alloc o).heap[w.heap.size]? = some o := by
 show (w.heap.push o)[w.heap.size]? = some o
 simp
def IsI (w : World) (a : Option Addr) (c : Nat) (ms : List Int) : Prop :=
 ms.length ≤ c ∧ c ≤ maxLen ∧ ∀ j m, ms[j]? = some m → ∃ b o, a = some ⟨b, o, none⟩ ∧ b < w.heap.size ∧ w.cell? ⟨b, o + j, none⟩ = some (.int .i64 m)
theorem IsI.below {w w' : World} {a : Option Addr} {c : Nat} {ms : List Int} (h : IsI w a c ms) (hb : Below w.heap.size w w') : IsI w' a c ms := by
 refine ⟨h.1, h.2.1, fun j x hx => ?_⟩
 obtain ⟨b, o, ha, hlt, hc⟩ := h.2.2 j x hx
 exact ⟨b, o, ha, Nat.lt_of_lt_of_le hlt hb.size, by rw [hb.cell (p := ⟨b, o + j, none⟩) hlt]; exact hc⟩
theorem isI_one (W : World) (m : Int) : IsI (W.alloc (.cells #[.int .i64 m] 3)) (some ⟨W.heap.size, 0, none⟩) 1 [m] := by
 refine ⟨Nat.le_refl _, by unfold maxLen; omega, fun j d hd => ?_⟩
 match j, hd with
 | 0, hd =>
  simp at hd
  subst hd
  exact ⟨W.heap.size, 0, rfl, by simp, World.cell?_alloc_at _ _ _ _ rfl⟩
theorem min_run {x y z : Int} (h : min x y = z) (W : World) : (Builtin.min_ #[3, 3] 3 #[.int .i64 x, .int .i64 y]).run Tryz.prog W = .ok (.int .i64 z) W := by
 simp [Builtin.min_, Builtin.min2]
 split <;> omega
theorem max_run {x y z : Int} (h : max x y = z) (W : World) : (Builtin.max_ #[3, 3] 3 #[.int .i64 x, .int .i64 y]).run Tryz.prog W = .ok (.int .i64 z) W := by
 simp [Builtin.max_, Builtin.max2]
 split <;> omega
theorem str_beq {a b : ByteArray} : (a.toList == b.toList) = true ↔ a = b := by
 rw [beq_iff_eq, ByteArray.toList_eq, ByteArray.toList_eq]
 exact ⟨bytes_ext, fun h => by rw [h]⟩
theorem str_eq_true {a b : ByteArray} (h : a = b) : (a.toList == b.toList) = true := str_beq.2 h
theorem str_eq_false {a b : ByteArray} (h : ¬ a = b) : (a.toList == b.toList) = false := by
 rw [Bool.eq_false_iff]; exact fun hh => h (str_beq.1 hh)
theorem str_ne_false {a b : ByteArray} (h : a = b) : (!a.toList == b.toList) = false := by rw [str_eq_true h]; rfl
theorem str_ne_true {a b : ByteArray} (h : ¬ a = b) : (!a.toList == b.toList) = true := by rw [str_eq_false h]; rfl
end Go.Proofs.YtaobfgplheoefaaGreat
namespace Go.Proofs.YtaobfgplheoefaaGreat.Plain
open Go.RowKit
theorem xor_mod2 (a b : Nat) : (a ^^^ b) % 2 = (a + b) % 2 := by
 have h : (a ^^^ b) % 2 ^ 1 = a % 2 ^ 1 ^^^ b % 2 ^ 1 := Nat.xor_mod_two_pow
 rw [Nat.pow_one] at h
 rw [h, Nat.add_mod]
 have ha := Nat.mod_lt a (by decide : 2 > 0)
 have hb := Nat.mod_lt b (by decide : 2 > 0)
 rcases Nat.lt_succ_iff_lt_or_eq.1 ha with h1 | h1
 ·
  have h1' : a % 2 = 0 := by omega
  rw [h1', Nat.zero_xor, Nat.zero_add, Nat.mod_mod]
 ·
  rcases Nat.lt_succ_iff_lt_or_eq.1 hb with h2 | h2
  ·
   have h2' : b % 2 = 0 := by omega
   rw [h2', Nat.xor_zero, Nat.add_zero, Nat.mod_mod]
  ·
   rw [h1, h2]; decide
theorem xor_swap (a b c : Nat) : a ^^^ (b ^^^ c) = b ^^^ (a ^^^ c) := by
 rw [← Nat.xor_assoc, Nat.xor_comm a b, Nat.xor_assoc]
theorem xor_four (a b c d : Nat) : (a ^^^ b) ^^^ (c ^^^ d) = (a ^^^ c) ^^^ (b ^^^ d) := by
 rw [Nat.xor_assoc, Nat.xor_assoc, xor_swap b c d]
def poly : Nat := 2197175160
def zed (c : Nat) : Nat := if c % 2 = 0 then c / 2 else c / 2 ^^^ poly
def stepB (c b : Nat) : Nat := if c % 2 = b then c / 2 else c / 2 ^^^ poly
theorem zed_lin (a b : Nat) : zed (a ^^^ b) = zed a ^^^ zed b := by
 unfold zed
 rw [xor_mod2, Nat.xor_div_two]
 by_cases ha : a % 2 = 0
 ·
  by_cases hb : b % 2 = 0
  ·
   rw [if_pos (by omega), if_pos ha, if_pos hb]
  ·
   rw [if_neg (by omega), if_pos ha, if_neg hb, Nat.xor_assoc]
 ·
  by_cases hb : b % 2 = 0
  ·
   rw [if_neg (by omega), if_neg ha, if_pos hb, Nat.xor_assoc, Nat.xor_assoc, Nat.xor_comm poly]
  ·
   rw [if_pos (by omega), if_neg ha, if_neg hb, xor_four, Nat.xor_self, Nat.xor_zero]
theorem zed_two (x : Nat) : zed (2 * x) = x := by
 unfold zed
 rw [if_pos (by omega)]; omega
theorem zed_lt {c : Nat} (h : c < 4294967296) : zed c < 4294967296 := by
 unfold zed
 split
 ·
  omega
 ·
  exact Nat.xor_lt_two_pow (n := 32) (by omega) (by decide)
theorem stepB_eq (c b : Nat) (hb : b < 2) : stepB c b = zed (c ^^^ b) := by
 unfold stepB zed
 rw [xor_mod2, Nat.xor_div_two, show b / 2 = 0 by omega, Nat.xor_zero]
 by_cases h : c % 2 = b
 ·
  rw [if_pos h, if_pos (by omega)]
 ·
  rw [if_neg h, if_neg (by omega)]
def zedN : Nat → Nat → Nat
 | 0, c => c
 | n + 1, c => zedN n (zed c)
theorem zedN_add (m n c : Nat) : zedN (m + n) c = zedN n (zedN m c) := by
 induction m generalizing c with
 | zero => rw [Nat.zero_add]; rfl
 | succ m ih => rw [Nat.succ_add]; exact ih (zed c)
theorem zedN_succ (n c : Nat) : zedN (n + 1) c = zed (zedN n c) := zedN_add n 1 c
theorem zedN_lt (n : Nat) {c : Nat} (h : c < 4294967296) : zedN n c < 4294967296 := by
 induction n generalizing c with
 | zero => exact h
 | succ n ih => exact ih (zed_lt h)
def bitsN : Nat → Nat → Nat → Nat
 | 0, c, _ => c
 | n + 1, c, x => bitsN n (stepB c (x % 2)) (x / 2)
theorem split2 (x : Nat) : x = x % 2 ^^^ 2 * (x / 2) := by
 have h2 : ∀ m, m < 2 → ∀ y, m ^^^ 2 * y = m + 2 * y := by
  intro m hm y
  have e1 : (m ^^^ 2 * y) / 2 = y := by
   rw [Nat.xor_div_two, show m / 2 = 0 by omega, Nat.zero_xor]; omega
  have e2 : (m ^^^ 2 * y) % 2 = m := by rw [xor_mod2]; omega
  omega
 rw [h2 _ (Nat.mod_lt _ (by decide))]; omega
theorem bitsN_eq (n c x : Nat) (hx : x < 2 ^ n) : bitsN n c x = zedN n (c ^^^ x) := by
 induction n generalizing c x with
 | zero =>
  have : x = 0 := by simp at hx; exact hx
  subst this; simp [bitsN, zedN]
 | succ n ih =>
  rw [Nat.pow_succ] at hx
  simp only [bitsN, zedN]
  rw [ih _ _ (by omega), stepB_eq _ _ (Nat.mod_lt _ (by decide))]
  congr 1
  conv => rhs; rw [split2 x, ← Nat.xor_assoc, zed_lin, zed_two]
theorem bitsN_snoc (n c x : Nat) : bitsN (n + 1) c x = stepB (bitsN n c x) (x / 2 ^ n % 2) := by
 induction n generalizing c x with
 | zero => simp [bitsN]
 | succ n ih =>
  rw [show bitsN (n + 1 + 1) c x = bitsN (n + 1) (stepB c (x % 2)) (x / 2) from rfl, ih]
  rw [Nat.pow_succ, Nat.mul_comm, ← Nat.div_div_eq_div_mul]
  rfl
def takeN (c : Nat) (b : UInt8) : Nat := zedN 8 (c ^^^ b.toNat)
def reg (c : Nat) : List UInt8 → Nat
 | [] => c
 | b :: l => reg (takeN c b) l
theorem reg_nil (c : Nat) : reg c [] = c := rfl
theorem reg_append (c : Nat) (l m : List UInt8) : reg c (l ++ m) = reg (reg c l) m := by
 induction l generalizing c with
 | nil => rfl
 | cons b l ih => exact ih _
theorem byte_lt32 (b : UInt8) : b.toNat < 4294967296 := by have := b.toNat_lt; omega
theorem takeN_lt {c : Nat} (h : c < 4294967296) (b : UInt8) : takeN c b < 4294967296 :=
 zedN_lt 8 (Nat.xor_lt_two_pow (n := 32) h (byte_lt32 b))
theorem reg_lt {c : Nat} (h : c < 4294967296) (l : List UInt8) : reg c l < 4294967296 := by
 induction l generalizing c with
 | nil => exact h
 | cons b l ih => exact ih (takeN_lt h b)
def leN : List UInt8 → Nat
 | [] => 0
 | b :: l => b.toNat + 256 * leN l
theorem low_xor (m y : Nat) (k : Nat) (hm : m < 2 ^ k) : m ^^^ 2 ^ k * y = m + 2 ^ k * y := by
 induction k generalizing m with
 | zero =>
  have : m = 0 := by simp at hm; exact hm
  subst this; simp
 | succ k ih =>
  rw [Nat.pow_succ] at hm
  have e : 2 ^ (k + 1) * y = 2 * (2 ^ k * y) := by rw [Nat.pow_succ]; ac_rfl
  have h := ih (m / 2) (by omega)
  have e1 : (m ^^^ 2 ^ (k + 1) * y) / 2 = m / 2 + 2 ^ k * y := by
   rw [Nat.xor_div_two, e, Nat.mul_div_cancel_left _ (by decide : 0 < 2), h]
  have e2 : (m ^^^ 2 ^ (k + 1) * y) % 2 = m % 2 := by rw [xor_mod2, e]; omega
  omega
def full : Nat := 4294967295
theorem full_lt : full < 4294967296 := by decide
theorem flip_eq {c : Nat} (h : c < 4294967296) : full - c = full ^^^ c := by
 have h1 : ∀ n c, c < 2 ^ n → 2 ^ n - 1 - c = (2 ^ n - 1) ^^^ c := by
  intro n
  induction n with
  | zero =>
   intro c hc
   have : c = 0 := by simp at hc; exact hc
   subst this
   rfl
  | succ n ih =>
   intro c hc
   rw [Nat.pow_succ] at hc
   have hp : 0 < 2 ^ n := Nat.pow_pos (by decide)
   have e1 : ((2 ^ (n + 1) - 1) ^^^ c) / 2 = 2 ^ n - 1 - c / 2 := by
    rw [Nat.xor_div_two, ih _ (by omega)]; congr 1; rw [Nat.pow_succ]; omega
   have e2 : ((2 ^ (n + 1) - 1) ^^^ c) % 2 = (1 + c) % 2 := by
    rw [xor_mod2, Nat.pow_succ]; omega
   rw [Nat.pow_succ] at e1 e2 ⊢
   omega
 exact h1 32 c h
def sumOn (n : Nat) (l : List UInt8) : Nat := full - reg (full - n) l
def sumOf (l : List UInt8) : Nat := sumOn 0 l
theorem sumOn_lt (n : Nat) (l : List UInt8) : sumOn n l < 4294967296 := by
 unfold sumOn full; omega
theorem sumOf_lt (l : List UInt8) : sumOf l < 4294967296 := sumOn_lt 0 l
theorem sumOn_nil {n : Nat} (h : n < 4294967296) : sumOn n [] = n := by
 unfold sumOn reg full; omega
theorem sumOn_append {n : Nat} (h : n < 4294967296) (l m : List UInt8) : sumOn n (l ++ m) = sumOn (sumOn n l) m := by
 unfold sumOn
 have hr : reg (full - n) l < 4294967296 := reg_lt (by unfold full; omega) l
 have he : ∀ x, x < 4294967296 → full - (full - x) = x := by intro x hx; unfold full; omega
 rw [reg_append, he _ hr]
theorem sumOf_append (l m : List UInt8) : sumOf (l ++ m) = sumOn (sumOf l) m := sumOn_append (by decide) l m
def onS (n : Nat) (s : ByteArray) : Nat := sumOn n s.data.toList
def ofS (s : ByteArray) : Nat := sumOf s.data.toList
theorem ofS_lt (s : ByteArray) : ofS s < 4294967296 := sumOf_lt _
def le4 (n : Nat) : List UInt8 := [UInt8.ofNat (n % 256), UInt8.ofNat (n / 256 % 256), UInt8.ofNat (n / 65536 % 256), UInt8.ofNat (n / 16777216 % 256)]
theorem leN_le4 {n : Nat} (h : n < 4294967296) : leN (le4 n) = n := by
 simp only [le4, leN, UInt8.toNat_ofNat']
 omega
end Go.Proofs.YtaobfgplheoefaaGreat.Plain
namespace Go.Proofs.YtaobfgplheoefaaGreat
open Go.RowKit Plain
theorem conv_row (w : World) (l : List UInt8) (m : Nat) (hm : l.length = m) (cap : Nat) :
  (convert 116 9 (.slice (some ⟨w.heap.size, 0, none⟩) m cap)).run Tryz.prog (w.alloc (.cells ((l.map cellOf).toArray) 5)) = .ok (.string ⟨l.toArray⟩) (w.alloc (.cells ((l.map cellOf).toArray) 5)) := by
 subst hm
 refine run_convert_bytes_back (P := Tryz.prog) _ 116 9 5 ⟨w.heap.size, 0, none⟩ cap l Tryz.underlying116 Tryz.underlying5 Tryz.underlying9 fun j hj => ?_
 have e : (⟨w.heap.size, 0, none⟩ : Addr).add j = ⟨w.heap.size, j, none⟩ := by
  by_cases h : j = 0 <;> simp [Addr.add, h]
 rw [e, World.cell?_alloc_at _ _ _ _ rfl]
 simp [cellOf, hj]
set_option maxHeartbeats 400000 in
theorem put_ok (n : Int) (size : Nat) (w : World) (h0 : 0 ≤ n) (h1 : 1 ≤ size) (h6 : size ≤ 6) (hn : n < 2 ^ (8 * size)) :
  Calls Tryz.prog 110 #[.int .i64 n, .int .i64 size] w fun e w' => e = .returned (.tuple #[.string ⟨(putL n size).toArray⟩, .int .i64 0]) ∧ Below w.heap.size w w' := by
 have hmk := fun W => run_make_row' (P := Tryz.prog) 116 5 (.int .u8 0) 1 Tryz.underlying116 Tryz.info5 rfl .i64 .i64 size (by omega) (by omega) W
 have hq : (n / 2 ^ (8 * size) != 0) = false := by
  rw [Int.ediv_eq_zero_of_lt h0 hn]; rfl
 clear hn
 go_enter Tryz.func110, Tryz.ntmps110
 go_wp2
 go_loopw [25] (fun v wr => ∃ i : Nat, i ≤ size ∧ v = .int .i64 i ∧ wr = w.alloc (.cells (putC n size i) 5)) (fun v _ => size - (intOf v).toNat)
 case atStart => exact ⟨0, by omega, rfl, by rw [putC_zero]⟩
 case round =>
  obtain ⟨i, hi, rfl, rfl⟩ := hrel
  by_cases hlt : i < size
  ·
   obtain ⟨x, hx⟩ := putC_get n size i (size - 1 - i) hi (by omega)
   have HS : Hid ((putC n size i).setIfInBounds (size - 1 - i) (.int .u8 (n / 2 ^ (8 * i) % 256)) = putC n size (i + 1)) := putC_succ n size i hlt
   go_wp2
   go_roundw
   case rel => exact ⟨i + 1, by omega, by go_num, by rw [HS.out]⟩
   case measure => simp [intOf]; omega
  ·
   obtain rfl : i = size := by omega
   rw [putC_full]
   have hcv := conv_row w (putL n i) i (putL_length n i) i
   go_wp2
   go_ret2
   exact ⟨rfl, (Below.refl _ _).alloc (Nat.le_refl _) _⟩
def putBad (n k : Int) : Prop := k < 1 ∨ 6 < k ∨ n < 0 ∨ 2 ^ (8 * k.toNat) ≤ n
set_option maxHeartbeats 400000 in
theorem put_bad (n k : Int) (w : World) (h : putBad n k) :
  Calls Tryz.prog 110 #[.int .i64 n, .int .i64 k] w fun e w' => e = .returned (.tuple #[.string ⟨#[]⟩, .int .i64 1]) ∧ w' = w := by
 by_cases h1 : k < 1
 ·
  have h1' : ¬ 1 ≤ k := by omega
  go_enter Tryz.func110, Tryz.ntmps110
  go_wp2
  go_ret2
  exact ⟨rfl, rfl⟩
 ·
  by_cases h6 : 6 < k
  ·
   have h1' : 1 ≤ k := by omega
   have h6' : ¬ k ≤ 6 := by omega
   go_enter Tryz.func110, Tryz.ntmps110
   go_wp2
   go_ret2
   exact ⟨rfl, rfl⟩
  ·
   by_cases h0 : n < 0
   ·
    have h1' : 1 ≤ k := by omega
    have h6' : k ≤ 6 := by omega
    go_enter Tryz.func110, Tryz.ntmps110
    go_wp2
    go_ret2
    exact ⟨rfl, rfl⟩
   ·
    obtain ⟨size, rfl⟩ : ∃ size : Nat, k = size := ⟨k.toNat, by omega⟩
    have hq : (n / 2 ^ (8 * size) != 0) = true := by
     have hb : (2 : Int) ^ (8 * size) ≤ n := by
      rcases h with h | h | h | h
      ·
       omega
      ·
       omega
      ·
       omega
      ·
       simpa using h
     have hp : (0 : Int) < 2 ^ (8 * size) := Int.pow_pos (by decide)
     have : 1 ≤ n / 2 ^ (8 * size) := by
      rw [Int.le_ediv_iff_mul_le hp]; simpa using hb
     simp; omega
    clear h
    go_enter Tryz.func110, Tryz.ntmps110
    go_wp2
    go_ret2
    exact ⟨rfl, rfl⟩
theorem putBad_of {n k : Int} (h' : putOk n k = false) : putBad n k := by
 have h : ¬ putOk n k = true := by simp [h']
 rw [putOk_iff] at h
 unfold putBad
 by_cases h1 : k < 1
 ·
  exact .inl h1
 ·
  by_cases h6 : 6 < k
  ·
   exact .inr (.inl h6)
  ·
   by_cases h0 : n < 0
   ·
    exact .inr (.inr (.inl h0))
   ·
    refine .inr (.inr (.inr ?_))
    exact Int.not_lt.1 fun hlt => h ⟨by omega, by omega, by omega, hlt⟩
theorem put_any (n k : Int) (w : World) :
  Calls Tryz.prog 110 #[.int .i64 n, .int .i64 k] w fun e w' => e = .returned (.tuple #[.string (putS n k), .int .i64 (putE n k)]) ∧ Below w.heap.size w w' := by
 by_cases h : putOk n k = true
 ·
  rw [putS_ok h, putE_ok h]
  obtain ⟨h1, h6, h0, hn⟩ := (putOk_iff n k).1 h
  obtain ⟨size, rfl⟩ : ∃ size : Nat, k = size := ⟨k.toNat, by omega⟩
  exact put_ok n size w h0 (by omega) (by omega) (by simpa using hn)
 ·
  have h' : putOk n k = false := by simpa using h
  rw [putS_bad h', putE_bad h']
  exact (put_bad n k w (putBad_of h')).mono fun e w' ⟨he, hw⟩ => ⟨he, hw ▸ Below.refl _ _⟩
end Go.Proofs.YtaobfgplheoefaaGreat
namespace Go.Proofs
open Go.Shelf
def Tryz.lays156_ren : Go.Shelf.Ren := ⟨fun | 156 => 148 | 165 => 164 | 166 => 165 | 169 => 166 | 240 => 178 | 241 => 179 | 276 => 187 | 277 => 188 | n => n, fun | 31 => 22 | 9 => 9 | 3 => 3 | 4 => 4 | 0 => 0 | 20 => 20 | 72 => 213 | 76 => 217 | 70 => 211 | 37 => 116 | 75 => 216 | 127 => 232 | 164 => 242 | 5 => 5 | 80 => 219 | n => n, fun | n => n⟩
theorem Tryz.lays156 : Go.Proofs.Lays.n156 Tryz.prog Tryz.lays156_ren := {
 mixed := by kernel_rfl
 f156 := Tryz.func148.trans (congrArg some (by kernel_rfl))
 f165 := Tryz.func164.trans (congrArg some (by kernel_rfl))
 f166 := Tryz.func165.trans (congrArg some (by kernel_rfl))
 f169 := Tryz.func166.trans (congrArg some (by kernel_rfl))
 f240 := Tryz.func178.trans (congrArg some (by kernel_rfl))
 f241 := Tryz.func179.trans (congrArg some (by kernel_rfl))
 f276 := Tryz.func187.trans (congrArg some (by kernel_rfl))
 f277 := Tryz.func188.trans (congrArg some (by kernel_rfl))
 t0 := Tryz.underlying0
 a0 := Tryz.isAgg0
 z0 := Tryz.sizeOf0
 v0 := Tryz.zeroValue0
 t3 := Tryz.underlying3
 a3 := Tryz.isAgg3
 z3 := Tryz.sizeOf3
 v3 := Tryz.zeroValue3
 t4 := Tryz.underlying4
 a4 := Tryz.isAgg4
 z4 := Tryz.sizeOf4
 v4 := Tryz.zeroValue4
 t9 := Tryz.underlying9
 a9 := Tryz.isAgg9
 z9 := Tryz.sizeOf9
 v9 := Tryz.zeroValue9
 t20 := Tryz.underlying20
 a20 := Tryz.isAgg20
 z20 := Tryz.sizeOf20
 v20 := Tryz.zeroValue20
 t31 := Tryz.underlying22
 a31 := Tryz.isAgg22
 z31 := Tryz.sizeOf22
 v31 := Tryz.zeroValue22
 t37 := Tryz.underlying116
 a37 := Tryz.isAgg116
 z37 := Tryz.sizeOf116
 v37 := Tryz.zeroValue116
 t70 := Tryz.underlying211
 a70 := Tryz.isAgg211
 z70 := Tryz.sizeOf211
 v70 := Tryz.zeroValue211
 t72 := Tryz.underlying213
 a72 := Tryz.isAgg213
 z72 := Tryz.sizeOf213
 v72 := Tryz.zeroValue213
 t75 := Tryz.underlying216
 a75 := Tryz.isAgg216
 z75 := Tryz.sizeOf216
 v75 := Tryz.zeroValue216
 t76 := Tryz.underlying217
 a76 := Tryz.isAgg217
 z76 := Tryz.sizeOf217
 v76 := Tryz.zeroValue217
 t127 := Tryz.underlying232
 a127 := Tryz.isAgg232
 z127 := Tryz.sizeOf232
 v127 := Tryz.zeroValue232
 t164 := Tryz.underlying242
 a164 := Tryz.isAgg242
 z164 := Tryz.sizeOf242
 v164 := Tryz.zeroValue242 }
theorem Tryz.Builder_Extra_156 : Builder.Extra Tryz.prog Tryz.lays156_ren := {
 sizeBuilder := by kernel_rfl
 liesBuilder := by kernel_rfl
 t5 := Tryz.underlying5
 a5 := Tryz.isAgg5
 z5 := Tryz.sizeOf5
 v5 := Tryz.zeroValue5
 infoByte := by kernel_rfl
 cellsByte := by kernel_rfl
 sizeByte := by kernel_rfl
 neB5 := by decide }
open Go.RowKit in
theorem Tryz.strings_Join (bk o c : Nat) (xs : List ByteArray) (sep : ByteArray) (w : World) (hcells : ∀ (j : Nat) x, xs[j]? = some x → w.cell? ⟨bk, o + j, none⟩ = some (.string x)) (hbk : bk < w.heap.size) (hN : xs.length ≤ 140737488355328) (hcap : xs.length ≤ c) (hlen : (Lib.join (xs.map (·.data.toList)) sep.data.toList).length ≤ 140737488355328) :
  Calls Tryz.prog 148 #[.slice (some ⟨bk, o, none⟩) xs.length c, .string sep] w fun e w' => e = .returned (.string ⟨(Lib.join (xs.map (·.data.toList)) sep.data.toList).toArray⟩) ∧ Below w.heap.size w w' := Any.strings_Join Tryz.lays156 Tryz.Builder_Extra_156 bk o c xs sep w hcells hbk hN hcap hlen
def Tryz.lays105_ren : Go.Shelf.Ren := ⟨fun | 105 => 169 | 212 => 181 | 99 => 182 | 165 => 164 | 166 => 165 | 170 => 183 | 169 => 166 | 263 => 189 | 264 => 190 | 206 => 191 | 240 => 178 | 241 => 179 | 276 => 187 | 277 => 188 | n => n, fun | 9 => 9 | 3 => 3 | 4 => 4 | 20 => 20 | 0 => 0 | 46 => 180 | 109 => 234 | 5 => 5 | 72 => 213 | 76 => 217 | 51 => 192 | 146 => 245 | 53 => 247 | 148 => 248 | 70 => 211 | 37 => 116 | 75 => 216 | 127 => 232 | 164 => 242 | 80 => 219 | n => n, fun | n => n⟩
theorem Tryz.lays105 : Go.Proofs.Lays.n105 Tryz.prog Tryz.lays105_ren := {
 mixed := by kernel_rfl
 f99 := Tryz.func182.trans (congrArg some (by kernel_rfl))
 f105 := Tryz.func169.trans (congrArg some (by kernel_rfl))
 f165 := Tryz.func164.trans (congrArg some (by kernel_rfl))
 f166 := Tryz.func165.trans (congrArg some (by kernel_rfl))
 f169 := Tryz.func166.trans (congrArg some (by kernel_rfl))
 f170 := Tryz.func183.trans (congrArg some (by kernel_rfl))
 f206 := Tryz.func191.trans (congrArg some (by kernel_rfl))
 f212 := Tryz.func181.trans (congrArg some (by kernel_rfl))
 f240 := Tryz.func178.trans (congrArg some (by kernel_rfl))
 f241 := Tryz.func179.trans (congrArg some (by kernel_rfl))
 f263 := Tryz.func189.trans (congrArg some (by kernel_rfl))
 f264 := Tryz.func190.trans (congrArg some (by kernel_rfl))
 f276 := Tryz.func187.trans (congrArg some (by kernel_rfl))
 f277 := Tryz.func188.trans (congrArg some (by kernel_rfl))
 t0 := Tryz.underlying0
 a0 := Tryz.isAgg0
 z0 := Tryz.sizeOf0
 v0 := Tryz.zeroValue0
 t3 := Tryz.underlying3
 a3 := Tryz.isAgg3
 z3 := Tryz.sizeOf3
 v3 := Tryz.zeroValue3
 t4 := Tryz.underlying4
 a4 := Tryz.isAgg4
 z4 := Tryz.sizeOf4
 v4 := Tryz.zeroValue4
 t5 := Tryz.underlying5
 a5 := Tryz.isAgg5
 z5 := Tryz.sizeOf5
 v5 := Tryz.zeroValue5
 t9 := Tryz.underlying9
 a9 := Tryz.isAgg9
 z9 := Tryz.sizeOf9
 v9 := Tryz.zeroValue9
 t20 := Tryz.underlying20
 a20 := Tryz.isAgg20
 z20 := Tryz.sizeOf20
 v20 := Tryz.zeroValue20
 t37 := Tryz.underlying116
 a37 := Tryz.isAgg116
 z37 := Tryz.sizeOf116
 v37 := Tryz.zeroValue116
 t46 := Tryz.underlying180
 a46 := Tryz.isAgg180
 z46 := Tryz.sizeOf180
 v46 := Tryz.zeroValue180
 t51 := Tryz.underlying192
 a51 := Tryz.isAgg192
 z51 := Tryz.sizeOf192
 v51 := Tryz.zeroValue192
 t53 := Tryz.underlying247
 a53 := Tryz.isAgg247
 z53 := Tryz.sizeOf247
 v53 := Tryz.zeroValue247
 t70 := Tryz.underlying211
 a70 := Tryz.isAgg211
 z70 := Tryz.sizeOf211
 v70 := Tryz.zeroValue211
 t72 := Tryz.underlying213
 a72 := Tryz.isAgg213
 z72 := Tryz.sizeOf213
 v72 := Tryz.zeroValue213
 t75 := Tryz.underlying216
 a75 := Tryz.isAgg216
 z75 := Tryz.sizeOf216
 v75 := Tryz.zeroValue216
 t76 := Tryz.underlying217
 a76 := Tryz.isAgg217
 z76 := Tryz.sizeOf217
 v76 := Tryz.zeroValue217
 t109 := Tryz.underlying234
 a109 := Tryz.isAgg234
 z109 := Tryz.sizeOf234
 v109 := Tryz.zeroValue234
 t127 := Tryz.underlying232
 a127 := Tryz.isAgg232
 z127 := Tryz.sizeOf232
 v127 := Tryz.zeroValue232
 t146 := Tryz.underlying245
 a146 := Tryz.isAgg245
 z146 := Tryz.sizeOf245
 v146 := Tryz.zeroValue245
 t148 := Tryz.underlying248
 a148 := Tryz.isAgg248
 z148 := Tryz.sizeOf248
 v148 := Tryz.zeroValue248
 t164 := Tryz.underlying242
 a164 := Tryz.isAgg242
 z164 := Tryz.sizeOf242
 v164 := Tryz.zeroValue242 }
theorem Tryz.Builder_Extra_105 : Builder.Extra Tryz.prog Tryz.lays105_ren := {
 sizeBuilder := by kernel_rfl
 liesBuilder := by kernel_rfl
 t5 := Tryz.underlying5
 a5 := Tryz.isAgg5
 z5 := Tryz.sizeOf5
 v5 := Tryz.zeroValue5
 infoByte := by kernel_rfl
 cellsByte := by kernel_rfl
 sizeByte := by kernel_rfl
 neB5 := by decide }
open Go.RowKit Go.Lib in
theorem Tryz.strings_Repeat (s : ByteArray) (c : Nat) (w : World) (hc : c ≤ 9223372036854775807) (hlen : s.size * c ≤ 140737488355328) :
  Calls Tryz.prog 169 #[.string s, .int .i64 c] w fun e w' => e = .returned (.string ⟨(Lib.repeatL s.data.toList c).toArray⟩) ∧ Below w.heap.size w w' := Any.strings_Repeat Tryz.lays105 Tryz.Builder_Extra_105 s c w hc hlen
end Go.Proofs
namespace Go.Proofs.YtaobfgplheoefaaGreat
open Go.RowKit Plain
set_option linter.unusedVariables false
set_option maxHeartbeats 400000 in
theorem all_row (bk o c : Nat) (xs : List ByteArray) (w : World) (hcells : ∀ (j : Nat) x, xs[j]? = some x → w.cell? ⟨bk, o + j, none⟩ = some (.string x)) (hbk : bk < w.heap.size) (hN : xs.length ≤ 140737488355328) (hcap : xs.length ≤ c) (hlen : (cat xs).size ≤ 140737488355328) :
  Calls Tryz.prog 111 #[.slice (some ⟨bk, o, none⟩) xs.length c] w fun e w' => e = .returned (.string (cat xs)) ∧ Below w.heap.size w w' := by
 have h := Tryz.strings_Join bk o c xs ⟨#[]⟩ w hcells hbk hN hcap (by
  show (Lib.join _ []).length ≤ _
  rw [join_flat]
  simpa [cat, ByteArray.size] using hlen)
 have e1 : (⟨(Lib.join (xs.map (·.data.toList)) (⟨#[]⟩ : ByteArray).data.toList).toArray⟩ : ByteArray) = cat xs := by
  show (⟨(Lib.join _ []).toArray⟩ : ByteArray) = _
  rw [join_flat]; rfl
 rw [e1] at h
 clear hcells hlen e1
 go_enter Tryz.func111, Tryz.ntmps111
 go_wp2_with (go_at_call 148; refine h.mono ?_; rintro e w' ⟨rfl, hb⟩)
 go_ret
 exact ⟨rfl, hb⟩
theorem all_two (a b : ByteArray) (w : World) (hlen : a.size + b.size ≤ 140737488355328) :
  Calls Tryz.prog 111 #[.slice (some ⟨w.heap.size, 0, none⟩) 2 2] (w.alloc (.cells #[.string a, .string b] 9)) fun e w' => e = .returned (.string (cat [a, b])) ∧ Below w.heap.size w w' := by
 refine (all_row w.heap.size 0 2 [a, b] _ ?_ (by simp) (by simp) (by simp) (by rw [cat_size]; simpa using hlen)).mono fun e w' ⟨he, hb⟩ => ⟨he, ((Below.refl _ _).alloc (Nat.le_refl _) _).trans (hb.mono (by simp))⟩
 intro j x hj
 rw [Nat.zero_add, World.cell?_alloc_at _ _ _ _ rfl]
 match j, hj with
 | 0, hj => simp at hj; subst hj; rfl
 | 1, hj => simp at hj; subst hj; rfl
theorem all_three (a b c : ByteArray) (w : World) (hlen : a.size + b.size + c.size ≤ 140737488355328) :
  Calls Tryz.prog 111 #[.slice (some ⟨w.heap.size, 0, none⟩) 3 3] (w.alloc (.cells #[.string a, .string b, .string c] 9)) fun e w' => e = .returned (.string (cat [a, b, c])) ∧ Below w.heap.size w w' := by
 refine (all_row w.heap.size 0 3 [a, b, c] _ ?_ (by simp) (by simp) (by simp) (by rw [cat_size]; simp; omega)).mono fun e w' ⟨he, hb⟩ => ⟨he, ((Below.refl _ _).alloc (Nat.le_refl _) _).trans (hb.mono (by simp))⟩
 intro j x hj
 rw [Nat.zero_add, World.cell?_alloc_at _ _ _ _ rfl]
 match j, hj with
 | 0, hj => simp at hj; subst hj; rfl
 | 1, hj => simp at hj; subst hj; rfl
 | 2, hj => simp at hj; subst hj; rfl
set_option maxHeartbeats 400000 in
theorem text_any (s : ByteArray) (w : World) (hs : s.size ≤ maxLen) :
  Calls Tryz.prog 113 #[.string s] w fun e w' => e = .returned (.tuple #[.string (textS s), .int .i64 (textE s)]) ∧ Below w.heap.size w w' := by
 unfold maxLen at hs
 have hB : Below w.heap.size w w := Below.refl _ _
 by_cases h : s.size ≤ 65535
 ·
  have h' : ¬ (65535 : Int) < s.size := by omega
  rw [textS, textE, if_pos h, if_pos h]
  have hok : putOk s.size 2 = true := by
   rw [putOk_iff]
   refine ⟨by omega, by omega, by omega, ?_⟩
   show (s.size : Int) < 65536
   omega
  have e1 := putS_ok hok
  have e2 := putE_ok hok
  have e3 : (2 : Int).toNat = 2 := rfl
  rw [e3] at e1
  have hl : (⟨(putL s.size 2).toArray⟩ : ByteArray).size + s.size ≤ 140737488355328 := by rw [size_mk, putL_length]; omega
  clear hok e3
  go_enter Tryz.func113, Tryz.ntmps113
  go_wp2_with (first
   | (go_at_call 110; refine (put_any _ _ _).mono ?_; rintro e w' ⟨rfl, hb⟩; replace hB := Below.tr hB hb; clear hb)
   | (go_at_call 111; refine (all_two _ _ _ hl).mono ?_; rintro e w' ⟨rfl, hb⟩; replace hB := Below.tr hB hb; clear hb))
  go_ret2
  exact ⟨rfl, hB⟩
 ·
  have h' : (65535 : Int) < s.size := by omega
  rw [textS, textE, if_neg h, if_neg h]
  go_enter Tryz.func113, Tryz.ntmps113
  go_wp2
  go_ret2
  exact ⟨rfl, hB⟩
end Go.Proofs.YtaobfgplheoefaaGreat
namespace Go.Proofs.YtaobfgplheoefaaGreat
open Go.RowKit Plain
theorem and_one (x : Nat) (h : x < 4294967296) : bits .and .u32 (x : Int) 1 = ((x % 2 : Nat) : Int) := by
 rw [show (1 : Int) = ((1 : Nat) : Int) from rfl, u32_and_nat _ _ h (by decide), nat_mask1]
theorem xor_poly (x : Nat) (h : x < 4294967296) : bits .xor .u32 (x : Int) 2197175160 = ((x ^^^ poly : Nat) : Int) := by
 rw [show (2197175160 : Int) = ((poly : Nat) : Int) from rfl, u32_xor_nat _ _ h (by decide)]
theorem xor_byte (c : Nat) (b : UInt8) (h : c < 4294967296) : bits .xor .u32 (c : Int) ((b.toNat : Int) % 4294967296) = ((c ^^^ b.toNat : Nat) : Int) := by
 have := byte_lt32 b
 rw [show ((b.toNat : Int) % 4294967296) = ((b.toNat : Nat) : Int) by omega, u32_xor_nat _ _ h this]
theorem zed_odd {x : Nat} (h : x % 2 = 1) : zed x = x / 2 ^^^ poly := by unfold zed; rw [if_neg (by omega)]
theorem zed_even {x : Nat} (h : x % 2 = 0) : zed x = x / 2 := by unfold zed; rw [if_pos (by omega)]
set_option maxHeartbeats 400000 in
theorem take_ok (c : Nat) (b : UInt8) (w : World) (hc : c < 4294967296) :
  Calls Tryz.prog 180 #[.int .u32 c, .int .u8 b.toNat] w fun e w' => e = .returned (.int .u32 (takeN c b)) ∧ w = w' := by
 go_enter Tryz.func180, Tryz.ntmps180
 go_wp2
 go_loop [0, 10] (fun r v => ∃ i : Nat, i ≤ 8 ∧ v = .int .i64 i ∧ r = .int .u32 (zedN i (c ^^^ b.toNat) : Nat)) (fun _ v => 8 - (intOf v).toNat)
 case atStart => exact ⟨0, by omega, rfl, by rw [xor_byte c b hc]; rfl⟩
 case round =>
  obtain ⟨i, hi, rfl, rfl⟩ := hrel
  by_cases hlt : i < 8
  ·
   have hx : zedN i (c ^^^ b.toNat) < 4294967296 := zedN_lt i (Nat.xor_lt_two_pow (n := 32) hc (byte_lt32 b))
   have hs : Hid (zedN (i + 1) (c ^^^ b.toNat) = zed (zedN i (c ^^^ b.toNat))) := zedN_succ i _
   generalize zedN i (c ^^^ b.toNat) = x at hx hs
   by_cases hp : x % 2 = 1
   ·
    have hand : bits .and .u32 (x : Int) 1 = 1 := by rw [and_one x hx, hp]; rfl
    go_wp2
    go_round
    case rel => 
     refine ⟨i + 1, by omega, by go_num, ?_⟩
     rw [hs.out, zed_odd hp, ← xor_poly _ (by omega)]
     rfl
    case measure => simp [intOf]; omega
   ·
    have hand : bits .and .u32 (x : Int) 1 = 0 := by rw [and_one x hx]; omega
    go_wp2
    go_round
    case rel => 
     refine ⟨i + 1, by omega, by go_num, ?_⟩
     rw [hs.out, zed_even (by omega)]
     rfl
    case measure => simp [intOf]; omega
  ·
   obtain rfl : i = 8 := by omega
   go_wp2
   go_ret
   exact ⟨rfl, rfl⟩
theorem getElem_list (s : ByteArray) (i : Nat) (h : i < s.size) : s.data.toList[i]? = some s[i] := by
 rw [List.getElem?_eq_getElem (by exact h)]
 rfl
theorem reg_take (c : Nat) (s : ByteArray) (i : Nat) (h : i < s.size) : reg c (s.data.toList.take (i + 1)) = takeN (reg c (s.data.toList.take i)) s[i] := by
 rw [List.take_add_one, getElem_list s i h, reg_append]
 rfl
theorem reg_all (c : Nat) (s : ByteArray) : reg c (s.data.toList.take s.size) = reg c s.data.toList := by
 rw [List.take_of_length_le (by exact Nat.le_refl _)]
theorem xor_max (n : Nat) (h : n < 4294967296) : bits .xor .u32 IntKind.u32.max (n : Int) = ((full - n : Nat) : Int) := by
 rw [show IntKind.u32.max = ((full : Nat) : Int) from rfl, u32_xor_nat _ _ full_lt h, flip_eq h]
set_option maxHeartbeats 400000 in
theorem on_ok (n : Nat) (s : ByteArray) (w : World) (hn : n < 4294967296) (hs : s.size ≤ maxLen) :
  Calls Tryz.prog 167 #[.int .u32 n, .string s] w fun e w' => e = .returned (.int .u32 (onS n s)) ∧ w = w' := by
 unfold maxLen at hs
 have hmx : ¬ IntKind.u32.signed = true := by decide
 go_enter Tryz.func167, Tryz.ntmps167
 go_wp2
 go_loop [5, 11] (fun r v => ∃ i : Nat, i ≤ s.size ∧ v = .int .i64 i ∧ r = .int .u32 (reg (full - n) (s.data.toList.take i) : Nat)) (fun _ v => s.size - (intOf v).toNat)
 case atStart => refine ⟨0, by omega, rfl, ?_⟩; rw [xor_max n hn]; rfl
 case round =>
  obtain ⟨i, hi, rfl, rfl⟩ := hrel
  by_cases hlt : i < s.size
  ·
   have hx : reg (full - n) (s.data.toList.take i) < 4294967296 := reg_lt (by unfold full; omega) _
   have hst : Hid (reg (full - n) (s.data.toList.take (i + 1)) = takeN (reg (full - n) (s.data.toList.take i)) s[i]) := reg_take _ s i hlt
   generalize reg (full - n) (s.data.toList.take i) = x at hx hst
   go_wp2_with (go_at_call 180; refine (take_ok x _ _ hx).mono ?_; rintro e w' ⟨rfl, rfl⟩)
   go_round
   case rel =>
    refine ⟨i + 1, by omega, by go_num, ?_⟩
    rw [hst.out]
   case measure => simp [intOf]; omega
  ·
   obtain rfl : i = s.size := by omega
   rw [reg_all]
   have hx : reg (full - n) s.data.toList < 4294967296 := reg_lt (by unfold full; omega) _
   go_wp2
   go_ret
   refine ⟨?_, rfl⟩
   show Ending.returned (.int .u32 (bits .xor .u32 IntKind.u32.max (reg (full - n) s.data.toList : Nat))) = _
   rw [xor_max _ hx]
   rfl
theorem sumOf_take (xs : List ByteArray) (j : Nat) (x : ByteArray) (h : xs[j]? = some x) : ofS (cat (xs.take (j + 1))) = onS (ofS (cat (xs.take j))) x := by
 unfold ofS onS
 rw [List.take_add_one, h, cat_append, data_append, sumOf_append]
 show sumOn _ (cat [x]).data.toList = _
 rw [cat_one]
set_option maxHeartbeats 400000 in
theorem of_row (bk o c : Nat) (xs : List ByteArray) (w : World) (hcells : ∀ (j : Nat) x, xs[j]? = some x → w.cell? ⟨bk, o + j, none⟩ = some (.string x)) (hcap : xs.length ≤ c) (hc : c ≤ maxLen) (hsz : ∀ x ∈ xs, x.size ≤ maxLen) :
  Calls Tryz.prog 152 #[.slice (some ⟨bk, o, none⟩) xs.length c] w fun e w' => e = .returned (.int .u32 (ofS (cat xs))) ∧ w = w' := by
 unfold maxLen at hc
 have HC : Hid (∀ (j : Nat) x, xs[j]? = some x → w.cell? ⟨bk, o + j, none⟩ = some (.string x)) := hcells
 clear hcells
 have HZ : Hid (∀ x ∈ xs, x.size ≤ maxLen) := hsz
 clear hsz
 go_enter Tryz.func152, Tryz.ntmps152
 go_wp2
 go_loop [3, 8] (fun r v => ∃ j : Nat, j ≤ xs.length ∧ v = .int .i64 j ∧ r = .int .u32 (ofS (cat (xs.take j)) : Nat)) (fun _ v => xs.length - (intOf v).toNat)
 case atStart =>
  refine ⟨0, by omega, rfl, ?_⟩
  rw [List.take_zero, show ofS (cat []) = 0 from sumOn_nil (by decide)]
  rfl
 case round =>
  obtain ⟨j, hj, rfl, rfl⟩ := hrel
  by_cases hlt : j < xs.length
  ·
   obtain ⟨x, hx⟩ : ∃ x, xs[j]? = some x := ⟨_, List.getElem?_eq_getElem hlt⟩
   have hcell := HC.out j x hx
   have hxs := HZ.out x (List.mem_of_getElem? hx)
   have hst : Hid (ofS (cat (xs.take (j + 1))) = onS (ofS (cat (xs.take j))) x) := sumOf_take xs j x hx
   have hlt32 := ofS_lt (cat (xs.take j))
   clear hx
   generalize ofS (cat (xs.take j)) = y at hlt32 hst
   go_wp2_with (go_at_call 167; refine (on_ok _ _ _ hlt32 hxs).mono ?_; rintro e w' ⟨rfl, rfl⟩)
   go_round
   case rel =>
    refine ⟨j + 1, by omega, by go_num, ?_⟩
    rw [hst.out]
   case measure => simp [intOf]; omega
  ·
   obtain rfl : j = xs.length := by omega
   rw [List.take_length]
   go_wp2
   go_ret
   exact ⟨rfl, rfl⟩
theorem of_one (s : ByteArray) (w : World) (hs : s.size ≤ maxLen) :
  Calls Tryz.prog 152 #[.slice (some ⟨w.heap.size, 0, none⟩) 1 1] (w.alloc (.cells #[.string s] 9)) fun e w' => e = .returned (.int .u32 (ofS s)) ∧ Below w.heap.size w w' := by
 have h := of_row w.heap.size 0 1 [s] (w.alloc (.cells #[.string s] 9)) ?_ (by simp) (by decide) (by simpa using hs)
 ·
  rw [cat_one] at h
  refine h.mono fun e w' ⟨he, hw⟩ => ⟨he, hw ▸ (Below.refl _ _).alloc (Nat.le_refl _) _⟩
 intro j x hj
 rw [Nat.zero_add, World.cell?_alloc_at _ _ _ _ rfl]
 match j, hj with
 | 0, hj => simp at hj; subst hj; rfl
theorem takeN_bits (c : Nat) (b : UInt8) : bitsN 8 c b.toNat = takeN c b := bitsN_eq 8 c b.toNat b.toNat_lt
theorem bitsN_lt (n : Nat) {c : Nat} (x : Nat) (h : c < 4294967296) : bitsN n c x < 4294967296 := by
 induction n with
 | zero => exact h
 | succ n ih =>
  rw [bitsN_snoc, stepB_eq _ _ (Nat.mod_lt _ (by decide))]
  exact zed_lt (Nat.xor_lt_two_pow (n := 32) ih (by have := Nat.mod_lt (x / 2 ^ n) (show 2 > 0 by decide); omega))
theorem bit_int (b k : Nat) (hb : b < 4294967296) : (((b : Int) % 4294967296) / 2 ^ k).tmod 2 = ((b / 2 ^ k % 2 : Nat) : Int) := by
 rw [show ((b : Int) % 4294967296) = (b : Int) by omega]
 have e : ((2 : Int) ^ k) = ((2 ^ k : Nat) : Int) := by simp
 rw [e, ← Int.natCast_ediv, Int.tmod_eq_emod_of_nonneg (Int.natCast_nonneg _)]
 omega
theorem full_sub (n : Nat) (h : n < 4294967296) : (4294967295 : Int) - (n : Int) = ((full - n : Nat) : Int) := by
 unfold full; omega
set_option maxHeartbeats 1000000 in
theorem refOn_ok (n : Nat) (s : ByteArray) (w : World) (hn : n < 4294967296) (hs : s.size ≤ maxLen) :
  Calls Tryz.prog 168 #[.int .u32 n, .string s] w fun e w' => e = .returned (.int .u32 (onS n s)) ∧ w = w' := by
 unfold maxLen at hs
 go_enter Tryz.func168, Tryz.ntmps168
 go_wp2
 go_loop [5, 6] (fun r v => ∃ i : Nat, i ≤ s.size ∧ v = .int .i64 i ∧ r = .int .u32 (reg (full - n) (s.data.toList.take i) : Nat)) (fun _ v => s.size - (intOf v).toNat)
 case atStart => 
  refine ⟨0, by omega, rfl, ?_⟩
  rw [List.take_zero, reg_nil, ← full_sub n hn]
 case round =>
  obtain ⟨i, hi, rfl, rfl⟩ := hrel
  by_cases hlt : i < s.size
  ·
   have hx : reg (full - n) (s.data.toList.take i) < 4294967296 := reg_lt (by unfold full; omega) _
   have hst : Hid (reg (full - n) (s.data.toList.take (i + 1)) = takeN (reg (full - n) (s.data.toList.take i)) s[i]) := reg_take _ s i hlt
   generalize reg (full - n) (s.data.toList.take i) = x at hx hst
   go_wp2
   go_loop [5, 7] (fun r v => ∃ k : Nat, k ≤ 8 ∧ v = .int .i64 k ∧ r = .int .u32 (bitsN k x s[i].toNat : Nat)) (fun _ v => 8 - (intOf v).toNat)
   case atStart => exact ⟨0, by omega, rfl, rfl⟩
   case round =>
    obtain ⟨k, hk, rfl, rfl⟩ := hrel
    by_cases hk8 : k < 8
    ·
     have hy := bitsN_lt k s[i].toNat hx
     have hsn : Hid (bitsN (k + 1) x s[i].toNat = stepB (bitsN k x s[i].toNat) (s[i].toNat / 2 ^ k % 2)) := bitsN_snoc k x _
     generalize bitsN k x s[i].toNat = y at hy hsn
     have hbt := bit_int s[i].toNat k (byte_lt32 _)
     have hdv : ((y / 2 : Nat) : Int) = (y : Int) / 2 := by omega
     by_cases hp : y % 2 = s[i].toNat / 2 ^ k % 2
     ·
      have hq : ((y : Int) % 2 != (((s[i].toNat : Int) % 4294967296) / 2 ^ k).tmod 2) = false := by rw [hbt, ← hp, bne_eq_false_iff_eq]; omega
      clear hbt
      go_wp2
      go_round
      case rel => exact ⟨k + 1, by omega, by go_num, by rw [hsn.out, stepB, if_pos hp, hdv]⟩
      case measure => simp [intOf]; omega
     ·
      have hq : ((y : Int) % 2 != (((s[i].toNat : Int) % 4294967296) / 2 ^ k).tmod 2) = true := by rw [hbt, bne_iff_ne]; intro hh; exact hp (by omega)
      clear hbt
      go_wp2
      go_round
      case rel => exact ⟨k + 1, by omega, by go_num, by rw [hsn.out, stepB, if_neg hp, ← xor_poly _ (by omega), hdv]⟩
      case measure => simp [intOf]; omega
    ·
     obtain rfl : k = 8 := by omega
     go_wp2
     go_round
     case rel => exact ⟨i + 1, by omega, by go_num, by rw [hst.out, takeN_bits]⟩
     case measure => simp [intOf]; omega
  ·
   obtain rfl : i = s.size := by omega
   rw [reg_all]
   have hx : reg (full - n) s.data.toList < 4294967296 := reg_lt (by unfold full; omega) _
   go_wp2
   go_ret
   refine ⟨?_, rfl⟩
   show Ending.returned (.int .u32 (4294967295 - ((reg (full - n) s.data.toList : Nat) : Int))) = _
   rw [full_sub _ hx]
   rfl
set_option maxHeartbeats 400000 in
theorem refOf_ok (s : ByteArray) (w : World) (hs : s.size ≤ maxLen) :
  Calls Tryz.prog 154 #[.string s] w fun e w' => e = .returned (.int .u32 (ofS s)) ∧ w = w' := by
 go_enter Tryz.func154, Tryz.ntmps154
 go_wp2_with (go_at_call 168; refine (refOn_ok 0 _ _ (by decide) hs).mono ?_; rintro e w' ⟨rfl, rfl⟩)
 go_ret
 exact ⟨rfl, rfl⟩
end Go.Proofs.YtaobfgplheoefaaGreat
namespace Go.Proofs.YtaobfgplheoefaaGreat
open Go.RowKit Plain
set_option linter.unusedVariables false
def le4C (n i : Nat) : Array Value := (((le4 n).take i ++ List.replicate (4 - i) 0).map cellOf).toArray
theorem le4C_zero (n : Nat) : le4C n 0 = madeCells #[.int .u8 0] 4 := by
 apply Array.toList_inj.1
 rw [toList_madeCells_one]
 simp [le4C, cellOf]
theorem le4C_full (n : Nat) : le4C n 4 = ((le4 n).map cellOf).toArray := by
 simp [le4C, le4]
theorem cell_mod (x : Nat) : (Value.int .u8 ((x : Int) % 256)) = cellOf (UInt8.ofNat (x % 256)) := by
 unfold cellOf
 rw [UInt8.toNat_ofNat']
 congr 1
 omega
theorem le4C_succ (n i : Nat) (h : i < 4) : (le4C n i).setIfInBounds i (.int .u8 ((n : Int) / 2 ^ (8 * i) % 256)) = le4C n (i + 1) := by
 have e : ((n : Int) / 2 ^ (8 * i)) = ((n / 2 ^ (8 * i) : Nat) : Int) := by
  rw [Int.natCast_ediv]; simp
 rw [e, cell_mod]
 match i, h with
 | 0, _ => simp [le4C, le4]
 | 1, _ => simp [le4C, le4]
 | 2, _ => simp [le4C, le4]
 | 3, _ => simp [le4C, le4]
theorem le4C_get (n i : Nat) (h : i < 4) : ∃ x : Int, (le4C n i)[i]? = some (.int .u8 x) := by
 match i, h with
 | 0, _ => exact ⟨_, rfl⟩
 | 1, _ => exact ⟨_, rfl⟩
 | 2, _ => exact ⟨_, rfl⟩
 | 3, _ => exact ⟨_, rfl⟩
def le4S (n : Nat) : ByteArray := ⟨(le4 n).toArray⟩
theorem le4S_size (n : Nat) : (le4S n).size = 4 := rfl
set_option maxHeartbeats 400000 in
theorem bytesOf_ok (n : Nat) (w : World) (hn : n < 4294967296) :
  Calls Tryz.prog 151 #[.int .u32 n] w fun e w' => e = .returned (.string (le4S n)) ∧ Below w.heap.size w w' := by
 have hmk : ∀ W : World, (Instr.makeSlice 116 (.int .i64 4) (.int .i64 4)).run Tryz.prog W = .ok (.slice (some ⟨W.heap.size, 0, none⟩) 4 4) (W.alloc (.cells (madeCells #[.int .u8 0] 4) 5)) := fun W => run_make_row' (P := Tryz.prog) 116 5 (.int .u8 0) 1 Tryz.underlying116 Tryz.info5 rfl .i64 .i64 4 (by omega) (by omega) W
 go_enter Tryz.func151, Tryz.ntmps151
 go_wp2
 go_loopw [6] (fun v wr => ∃ i : Nat, i ≤ 4 ∧ v = .int .i64 i ∧ wr = w.alloc (.cells (le4C n i) 5)) (fun v _ => 4 - (intOf v).toNat)
 case atStart => exact ⟨0, by omega, rfl, by rw [le4C_zero]⟩
 case round =>
  obtain ⟨i, hi, rfl, rfl⟩ := hrel
  by_cases hlt : i < 4
  ·
   obtain ⟨x, hx⟩ := le4C_get n i hlt
   have HS : Hid ((le4C n i).setIfInBounds i (.int .u8 ((n : Int) / 2 ^ (8 * i) % 256)) = le4C n (i + 1)) := le4C_succ n i hlt
   go_wp2
   go_roundw
   case rel => exact ⟨i + 1, by omega, by go_num, by rw [HS.out]⟩
   case measure => simp [intOf]; omega
  ·
   obtain rfl : i = 4 := by omega
   rw [le4C_full]
   have hcv := conv_row w (le4 n) 4 rfl 4
   go_wp2
   go_ret
   exact ⟨rfl, (Below.refl _ _).alloc (Nat.le_refl _) _⟩
def sealS (s : ByteArray) : ByteArray := s ++ le4S (ofS s)
set_option maxHeartbeats 400000 in
theorem seal_ok (s : ByteArray) (w : World) (hs : s.size ≤ 1000000) :
  Calls Tryz.prog 115 #[.string s] w fun e w' => e = .returned (.string (sealS s)) ∧ Below w.heap.size w w' := by
 have hB : Below w.heap.size w w := Below.refl _ _
 have hm : Hid (s.size ≤ maxLen) := Nat.le_trans hs (by decide)
 have hl : s.size + (le4S (ofS s)).size ≤ 140737488355328 := by rw [le4S_size]; omega
 go_enter Tryz.func115, Tryz.ntmps115
 go_wp2_with (first
  | (go_at_call 152; refine (of_one _ _ hm.out).mono ?_; rintro e w' ⟨rfl, hb⟩; replace hB := Below.tr hB hb; clear hb)
  | (go_at_call 151; refine (bytesOf_ok _ _ (ofS_lt _)).mono ?_; rintro e w' ⟨rfl, hb⟩; replace hB := Below.tr hB hb; clear hb)
  | (go_at_call 111; refine (all_two _ _ _ hl).mono ?_; rintro e w' ⟨rfl, hb⟩; replace hB := Below.tr hB hb; clear hb))
 go_ret
 exact ⟨rfl, hB⟩
def headS (s : ByteArray) : ByteArray := s.extract 0 (s.size - 4)
def tailS (s : ByteArray) : ByteArray := s.extract (s.size - 4) s.size
def openE (s : ByteArray) : Int := if s.size < 4 then 3 else if tailS s = le4S (ofS (headS s)) then 0 else 41
def openS (s : ByteArray) : ByteArray := if openE s = 0 then headS s else ⟨#[]⟩
theorem of_one_from (w W : World) (hB : Below w.heap.size w W) (s : ByteArray) (hs : s.size ≤ maxLen) :
  Calls Tryz.prog 152 #[.slice (some ⟨W.heap.size, 0, none⟩) 1 1] (W.alloc (.cells #[.string s] 9)) fun e w' => e = .returned (.int .u32 (ofS s)) ∧ Below w.heap.size w w' :=
 (of_one s W hs).mono fun e w' ⟨he, hb'⟩ => ⟨he, Below.tr hB hb'⟩
theorem bytesOf_from (w W : World) (hB : Below w.heap.size w W) (n : Nat) (hn : n < 4294967296) :
  Calls Tryz.prog 151 #[.int .u32 n] W fun e w' => e = .returned (.string (le4S n)) ∧ Below w.heap.size w w' :=
 (bytesOf_ok n W hn).mono fun e w' ⟨he, hb'⟩ => ⟨he, Below.tr hB hb'⟩
set_option maxHeartbeats 1000000 in
theorem open_any (s : ByteArray) (w : World) (hs : s.size ≤ maxLen) :
  Calls Tryz.prog 157 #[.string s] w fun e w' => e = .returned (.tuple #[.string (openS s), .int .i64 (openE s)]) ∧ Below w.heap.size w w' := by
 have hB : Below w.heap.size w w := Below.refl _ _
 have hm : Hid ((headS s).size ≤ maxLen) := by
  show (s.extract 0 (s.size - 4)).size ≤ maxLen
  rw [ByteArray.size_extract]; omega
 unfold maxLen at hs
 by_cases h4 : s.size < 4
 ·
  have e1 : openE s = 3 := by unfold openE; rw [if_pos h4]
  have e2 : openS s = ⟨#[]⟩ := by unfold openS; rw [if_neg (by rw [e1]; decide)]
  rw [e1, e2]
  have h4' : (s.size : Int) < 4 := by omega
  go_enter Tryz.func157, Tryz.ntmps157
  go_wp2
  go_ret2
  exact ⟨rfl, hB⟩
 ·
  have h4' : ¬ (s.size : Int) < 4 := by omega
  obtain ⟨m, hm4⟩ : ∃ m : Nat, s.size - 4 = m := ⟨_, rfl⟩
  have ez : (s.size : Int) - 4 = (m : Int) := by omega
  have b1 : (0 : Int) ≤ (m : Int) := by omega
  have b2 : (m : Int) ≤ s.size := by omega
  unfold headS at hm
  rw [hm4] at hm
  have eh : headS s = s.extract 0 m := by unfold headS; rw [hm4]
  have et : tailS s = s.extract m s.size := by unfold tailS; rw [hm4]
  by_cases hq : s.extract m s.size = le4S (ofS (s.extract 0 m))
  ·
   have e1 : openE s = 0 := by unfold openE; rw [if_neg h4, et, eh, if_pos hq]
   have e2 : openS s = s.extract 0 m := by unfold openS; rw [if_pos e1, eh]
   rw [e1, e2]
   have hq' : (!(s.extract m s.size).toList == (le4S (ofS (s.extract 0 m))).toList) = false := str_ne_false hq
   clear hq eh et e1 e2
   go_enter Tryz.func157, Tryz.ntmps157
   go_wp2
   replace hB := Below.drew hB
   go_region_held3 (fun _ => True) (trivial) (first
    | (go_at_call 152; refine (of_one_from w _ hB (s.extract 0 m) hm.out).mono ?_; rintro e w' ⟨rfl, hb'⟩; clear hB; have hB := hb'; clear hb')
    | (go_at_call 151; refine (bytesOf_from w _ hB _ (ofS_lt _)).mono ?_; rintro e w' ⟨rfl, hb'⟩; clear hB; have hB := hb'; clear hb'))
   go_wp2
   go_ret2
   exact ⟨rfl, hB⟩
  ·
   have e1 : openE s = 41 := by unfold openE; rw [if_neg h4, et, eh, if_neg hq]
   have e2 : openS s = ⟨#[]⟩ := by unfold openS; rw [if_neg (by rw [e1]; decide)]
   rw [e1, e2]
   have hq' : (!(s.extract m s.size).toList == (le4S (ofS (s.extract 0 m))).toList) = true := str_ne_true hq
   clear hq eh et e1 e2
   go_enter Tryz.func157, Tryz.ntmps157
   go_wp2
   replace hB := Below.drew hB
   go_region_held3 (fun _ => True) (trivial) (first
    | (go_at_call 152; refine (of_one_from w _ hB (s.extract 0 m) hm.out).mono ?_; rintro e w' ⟨rfl, hb'⟩; clear hB; have hB := hb'; clear hb')
    | (go_at_call 151; refine (bytesOf_from w _ hB _ (ofS_lt _)).mono ?_; rintro e w' ⟨rfl, hb'⟩; clear hB; have hB := hb'; clear hb'))
   go_wp2
   go_ret2
   exact ⟨rfl, hB⟩
theorem le4_cells (n : Nat) : (#[.int .u8 ((n : Int) % 256), .int .u8 ((n : Int) / 256 % 256), .int .u8 ((n : Int) / 65536 % 256), .int .u8 ((n : Int) / 16777216 % 256)] : Array Value) = ((le4 n).map cellOf).toArray := by
 have e1 : ((n : Int) / 256) = ((n / 256 : Nat) : Int) := by omega
 have e2 : ((n : Int) / 65536) = ((n / 65536 : Nat) : Int) := by omega
 have e3 : ((n : Int) / 16777216) = ((n / 16777216 : Nat) : Int) := by omega
 rw [e1, e2, e3, cell_mod, cell_mod, cell_mod, cell_mod]
 rfl
set_option maxHeartbeats 400000 in
theorem refSeal_ok (s : ByteArray) (w : World) (hs : s.size ≤ 1000000) :
  Calls Tryz.prog 119 #[.string s] w fun e w' => e = .returned (.string (sealS s)) ∧ Below w.heap.size w w' := by
 have hm : Hid (s.size ≤ maxLen) := Nat.le_trans hs (by decide)
 have hl := ofS_lt s
 have hcv := conv_row w (le4 (ofS s)) 4 rfl 4
 rw [← le4_cells, show ((ofS s : Nat) : Int) / 16777216 % 256 = ((ofS s : Nat) : Int) / 16777216 by omega] at hcv
 have hadd : ¬ 9223372036854775807 < s.size + (le4S (ofS s)).size := by rw [le4S_size]; omega
 unfold le4S at hadd
 go_enter Tryz.func119, Tryz.ntmps119
 go_wp2_with (go_at_call 154; refine (refOf_ok _ _ hm.out).mono ?_; rintro e w' ⟨rfl, rfl⟩)
 go_ret
 exact ⟨rfl, (Below.refl _ _).alloc (Nat.le_refl _) _⟩
theorem split_text (s : ByteArray) (h : 4 ≤ s.size) : headS s ++ tailS s = s := by
 apply bytes_ext
 rw [data_append]
 unfold headS tailS
 simp only [ByteArray.data_extract, Array.toList_extract, List.extract_eq_take_drop]
 simp
 have : s.data.toList.length = s.size := rfl
 conv => rhs; rw [← List.take_append_drop (s.size - 4) s.data.toList]
 congr 1
 apply List.take_of_length_le
 simp
theorem sealed_head (s : ByteArray) (h : 4 ≤ s.size) : sealS (headS s) = s ↔ tailS s = le4S (ofS (headS s)) := by
 have hs := split_text s h
 unfold sealS
 constructor
 ·
  intro he
  have h2 : (headS s).data.toList ++ (le4S (ofS (headS s))).data.toList = (headS s).data.toList ++ (tailS s).data.toList := by
   rw [← data_append, ← data_append, he, hs]
  exact (bytes_ext (List.append_cancel_left h2)).symm
 ·
  intro he
  rw [← he, hs]
end Go.Proofs.YtaobfgplheoefaaGreat
namespace Go.Proofs.YtaobfgplheoefaaGreat.Plain
open Go.RowKit
theorem zeros_add (a b : Nat) : zeros a ++ zeros b = zeros (a + b) := by
 apply bytes_ext
 rw [data_append]
 exact List.replicate_append_replicate
theorem trim_empty {s : ByteArray} (h : trimS s = ⟨#[]⟩) : s = zeros s.size := by
 have h0 : trimN s s.size = 0 := by rw [← trimS_size, h]; rfl
 have h1 := trim_pad s
 rw [h, h0, Nat.sub_zero] at h1
 exact h1.symm.trans (none_append _)
theorem trim_zeros (n : Nat) : trimS (zeros n) = ⟨#[]⟩ := by
 have h := trim_more ⟨#[]⟩ n
 have e : (⟨#[]⟩ : ByteArray) ++ zeros n = zeros n := by apply bytes_ext; rw [data_append]; rfl
 rw [e] at h
 rw [h]; rfl
theorem trim_padded (s : ByteArray) (j m : Nat) (h : (trimS s).size + j = m) (hm : s.size ≤ m) : trimS s ++ zeros j = s ++ zeros (m - s.size) := by
 have hle := trimN_le s s.size
 have hsz := trimS_size s
 have h1 := trim_pad s
 conv => rhs; rw [← h1]
 rw [ByteArray.append_assoc, zeros_add, ByteArray.size_append, zeros_size, hsz]
 congr 2
 omega
def rightP (k g : Int) (b : ByteArray) : Bool := decide (1 ≤ k ∧ k ≤ 5 ∧ 0 ≤ g ∧ g ≤ 1099511627776 ∧ b.size ≤ 4000)
theorem rightP_iff (k g : Int) (b : ByteArray) : rightP k g b = true ↔ (1 ≤ k ∧ k ≤ 5 ∧ 0 ≤ g ∧ g ≤ 1099511627776 ∧ b.size ≤ 4000) := by simp [rightP]
def headP (k g : Int) (b : ByteArray) : ByteArray := cat [putS k 1, putS g 6, textS b]
def pageS (k g : Int) (b : ByteArray) : ByteArray := if rightP k g b then trimS (sealS (headP k g b)) else ⟨#[]⟩
def pageE (k g : Int) (b : ByteArray) : Int := if rightP k g b then 0 else 1
theorem kind_ok {k : Int} (h1 : 1 ≤ k) (h5 : k ≤ 5) : putOk k 1 = true := (putOk_iff _ _).2 ⟨by decide, by decide, by omega, by show k < 256; omega⟩
theorem gen_ok {g : Int} (h0 : 0 ≤ g) (h1 : g ≤ 1099511627776) : putOk g 6 = true := (putOk_iff _ _).2 ⟨by decide, by decide, by omega, by show g < 281474976710656; omega⟩
theorem headP_size {k g : Int} {b : ByteArray} (h : rightP k g b = true) : (headP k g b).size = 9 + b.size := by
 obtain ⟨h1, h5, h0, hg, hb⟩ := (rightP_iff _ _ _).1 h
 have e1 := putS_size (kind_ok h1 h5)
 have e2 := putS_size (gen_ok h0 hg)
 rw [headP, cat_size]
 simp [textS_size (s := b) (by omega)]
 omega
theorem sealS_size (s : ByteArray) : (sealS s).size = s.size + 4 := by
 rw [sealS, ByteArray.size_append, le4S_size]
def fN (F : ByteArray) : Nat := (getV F 7 2).toNat
def fK (F : ByteArray) : Int := getV F 0 1
def fG (F : ByteArray) : Int := getV F 1 6
def fB (F : ByteArray) : ByteArray := F.extract 9 (9 + fN F)
def fSealed (F : ByteArray) : Bool := decide (sealS (F.extract 0 (9 + fN F)) = F.extract 0 (13 + fN F))
theorem fSealed_iff (F : ByteArray) : fSealed F = true ↔ sealS (F.extract 0 (9 + fN F)) = F.extract 0 (13 + fN F) := by simp [fSealed]
def fRest (F : ByteArray) : ByteArray := F.extract (13 + fN F) F.size
def fE (F : ByteArray) : Int :=
 if 4000 < fN F then 4 else if fSealed F then (if 1 ≤ fK F ∧ fK F ≤ 5 then (if fG F ≤ 1099511627776 ∧ trimS (fRest F) = ⟨#[]⟩ then 0 else 4) else 40) else 41
theorem fE_ok {F : ByteArray} (h : fE F = 0) : fN F ≤ 4000 ∧ fSealed F ∧ 1 ≤ fK F ∧ fK F ≤ 5 ∧ fG F ≤ 1099511627776 ∧ trimS (fRest F) = ⟨#[]⟩ := by
 unfold fE at h
 by_cases h1 : 4000 < fN F
 ·
  rw [if_pos h1] at h; omega
 ·
  rw [if_neg h1] at h
  by_cases h2 : fSealed F
  ·
   rw [if_pos h2] at h
   by_cases h3 : 1 ≤ fK F ∧ fK F ≤ 5
   ·
    rw [if_pos h3] at h
    by_cases h4 : fG F ≤ 1099511627776 ∧ trimS (fRest F) = ⟨#[]⟩
    ·
     exact ⟨by omega, h2, h3.1, h3.2, h4.1, h4.2⟩
    ·
     rw [if_neg h4] at h; omega
   ·
    rw [if_neg h3] at h; omega
  ·
   rw [if_neg h2] at h; omega
theorem f_page {k g : Int} {b : ByteArray} (h : rightP k g b = true) :
  let F := sealS (headP k g b) ++ zeros (4096 - (13 + b.size))
  fE F = 0 ∧ fK F = k ∧ fG F = g ∧ fB F = b := by
 intro F
 obtain ⟨h1, h5, h0, hg, hb⟩ := (rightP_iff _ _ _).1 h
 have kk := kind_ok h1 h5
 have gg := gen_ok h0 hg
 have e1 := putS_size kk
 have e2 := putS_size gg
 have et := textS_size (s := b) (by omega)
 have hs := headP_size h
 have hF : F = headP k g b ++ (le4S (ofS (headP k g b)) ++ zeros (4096 - (13 + b.size))) := by
  show (headP k g b ++ le4S _) ++ _ = _
  rw [ByteArray.append_assoc]
 have hd : F.data.toList = (putS k 1).data.toList ++ ((putS g 6).data.toList ++ ((putL b.size 2 ++ b.data.toList) ++ ((le4S (ofS (headP k g b))).data.toList ++ (zeros (4096 - (13 + b.size))).data.toList))) := by
  rw [hF, data_append, data_append, headP, cat_data]
  simp [textS_data (s := b) (by omega), List.append_assoc]
 have l1 : (putS k 1).data.toList.length = 1 := by rw [size_list]; omega
 have l2 : (putS g 6).data.toList.length = 6 := by rw [size_list]; omega
 have v1 : fK F = k := by
  unfold fK
  rw [getV_bytes F 0 1 k]
  ·
   exact mod_self8 _ _ (by omega) (by show k < 256; omega)
  ·
   intro i hi
   rw [hd, Nat.zero_add, List.getElem?_append_left (by omega), putS_ok kk]
   exact putL_at k 1 i hi
 have v2 : fG F = g := by
  unfold fG
  rw [getV_bytes F 1 6 g]
  ·
   exact mod_self8 _ _ (by omega) (by show g < 281474976710656; omega)
  ·
   intro i hi
   rw [hd, List.getElem?_append_right (by omega), l1, Nat.add_sub_cancel_left, List.getElem?_append_left (by omega), putS_ok gg]
   exact putL_at g 6 i hi
 have v3 : fN F = b.size := by
  unfold fN
  rw [getV_bytes F 7 2 b.size]
  ·
   rw [mod_self8 _ _ (by omega) (by show (b.size : Int) < 65536; omega)]
   omega
  ·
   intro i hi
   rw [hd, List.getElem?_append_right (by omega), l1, List.getElem?_append_right (by omega), l2, List.append_assoc, List.getElem?_append_left (by rw [putL_length]; omega)]
   have e : 7 + i - 1 - 6 = i := by omega
   rw [e]
   exact putL_at _ 2 i hi
 have v4 : fB F = b := by
  unfold fB
  rw [v3]
  apply bytes_ext
  rw [extract_data', Nat.add_sub_cancel_left, hd]
  have l3 : ((putS k 1).data.toList ++ (putS g 6).data.toList ++ putL b.size 2).length = 9 := by
   rw [List.length_append, List.length_append, l1, l2, putL_length]
  rw [← List.append_assoc, List.append_assoc (putL b.size 2), ← List.append_assoc, List.drop_left' l3, List.take_left' (size_list b)]
 refine ⟨?_, v1, v2, v4⟩
 have s1 : fSealed F := by
  rw [fSealed_iff, v3, hF, extract_left _ _ _ hs, ← ByteArray.append_assoc, extract_left _ _ (13 + b.size) (by rw [ByteArray.size_append, le4S_size, hs]; omega)]
  rfl
 have hFs : F.size = 4096 := by
  show (sealS _ ++ zeros _).size = _
  rw [ByteArray.size_append, sealS_size, hs, zeros_size]; omega
 have s2 : trimS (fRest F) = ⟨#[]⟩ := by
  unfold fRest
  rw [v3, hFs, show F = sealS (headP k g b) ++ zeros (4096 - (13 + b.size)) from rfl,
   extract_right _ _ (13 + b.size) 4096 (by rw [sealS_size, hs]; omega) (by rw [zeros_size]; omega)]
  exact trim_zeros _
 unfold fE
 rw [if_neg (by rw [v3]; omega), if_pos s1, if_pos (by rw [v1]; exact ⟨h1, h5⟩), if_pos ⟨by rw [v2]; exact hg, s2⟩]
theorem f_once {F : ByteArray} (hF : F.size = 4096) (h : fE F = 0) : rightP (fK F) (fG F) (fB F) = true ∧ pageS (fK F) (fG F) (fB F) = trimS F := by
 obtain ⟨hn, hs, h1, h5, hg, hr⟩ := fE_ok h
 have hg0 : 0 ≤ fG F := (getV_bd F 1 6).1
 have hbs : (fB F).size = fN F := by unfold fB; rw [extract_size' _ _ _ (by omega) (by omega)]; omega
 have hR : rightP (fK F) (fG F) (fB F) = true := (rightP_iff _ _ _).2 ⟨h1, h5, hg0, hg, by omega⟩
 refine ⟨hR, ?_⟩
 have hv : getV F 7 2 = fN F := by have := (getV_bd F 7 2).1; unfold fN; omega
 have hh : headP (fK F) (fG F) (fB F) = F.extract 0 (9 + fN F) := by
  apply bytes_ext
  rw [headP, cat_data, putS_ok (kind_ok h1 h5), putS_ok (gen_ok hg0 hg)]
  simp only [List.map_cons, List.map_nil, List.flatten_cons, List.flatten_nil, List.append_nil]
  rw [textS_data (by omega), hbs, ← hv]
  show putL (getV F 0 1) 1 ++ (putL (getV F 1 6) 6 ++ (putL (getV F 7 2) 2 ++ (fB F).data.toList)) = _
  rw [putL_getV F 0 1 (by omega), putL_getV F 1 6 (by omega), putL_getV F 7 2 (by omega), fB, extract_data', extract_data', List.drop_zero]
  have e1 : 9 + fN F - 0 = 1 + (6 + (2 + fN F)) := by omega
  have e2 : 9 + fN F - 9 = fN F := by omega
  rw [e1, e2, List.take_add, List.take_add, List.take_add, List.drop_drop, List.drop_drop]
 unfold pageS
 rw [if_pos hR, hh, (fSealed_iff F).1 hs]
 have hrest := trim_empty hr
 have hj : F.extract 0 (13 + fN F) ++ fRest F = F := by
  rw [fRest, extract_join _ _ _ _ (by omega) (by omega), extract_all]
 rw [hrest] at hj
 conv => rhs; rw [← hj]
 rw [trim_more]
def fullS (s : ByteArray) : ByteArray := s ++ zeros (4096 - s.size)
def readE (s : ByteArray) : Int := if s.size ≤ 4096 then fE (fullS s) else 1
def readK (s : ByteArray) : Int := if readE s = 0 then fK (fullS s) else 0
def readG (s : ByteArray) : Int := if readE s = 0 then fG (fullS s) else 0
def readB (s : ByteArray) : ByteArray := if readE s = 0 then fB (fullS s) else ⟨#[]⟩
theorem fullS_size {s : ByteArray} (h : s.size ≤ 4096) : (fullS s).size = 4096 := by
 rw [fullS, ByteArray.size_append, zeros_size]; omega
theorem pageS_ok {k g : Int} {b : ByteArray} (h : rightP k g b = true) : pageS k g b = trimS (sealS (headP k g b)) := by rw [pageS, if_pos h]
theorem pageS_bad {k g : Int} {b : ByteArray} (h : rightP k g b = false) : pageS k g b = ⟨#[]⟩ := by rw [pageS, h]; rfl
theorem pageS_max (k g : Int) (b : ByteArray) : (pageS k g b).size ≤ 4013 := by
 by_cases h : rightP k g b = true
 ·
  have h' := h
  obtain ⟨_, _, _, _, hb⟩ := (rightP_iff _ _ _).1 h
  rw [pageS_ok h', trimS_size]
  have := trimN_le (sealS (headP k g b)) (sealS (headP k g b)).size
  rw [sealS_size, headP_size h'] at this
  rw [sealS_size, headP_size h']
  omega
 ·
  rw [pageS_bad (by simpa using h)]
  exact Nat.zero_le _
theorem page_back {k g : Int} {b : ByteArray} (h : rightP k g b = true) (m : Nat) (hm : (pageS k g b).size + m ≤ 4096) :
  readE (pageS k g b ++ zeros m) = 0 ∧ readK (pageS k g b ++ zeros m) = k ∧ readG (pageS k g b ++ zeros m) = g ∧ readB (pageS k g b ++ zeros m) = b := by
 obtain ⟨h1, h5, h0, hg, hb⟩ := (rightP_iff _ _ _).1 h
 have hsz : (pageS k g b ++ zeros m).size = (pageS k g b).size + m := by rw [ByteArray.size_append, zeros_size]
 have hf : fullS (pageS k g b ++ zeros m) = sealS (headP k g b) ++ zeros (4096 - (13 + b.size)) := by
  rw [fullS, hsz, ByteArray.append_assoc, zeros_add, pageS_ok h, trim_padded _ _ 4096]
  ·
   rw [sealS_size, headP_size h]
   congr 2
   omega
  ·
   rw [pageS_ok h] at hm; omega
  ·
   rw [sealS_size, headP_size h]; omega
 obtain ⟨r1, r2, r3, r4⟩ := f_page h
 rw [← hf] at r1 r2 r3 r4
 have e : readE (pageS k g b ++ zeros m) = 0 := by rw [readE, if_pos (by omega), r1]
 exact ⟨e, by rw [readK, if_pos e, r2], by rw [readG, if_pos e, r3], by rw [readB, if_pos e, r4]⟩
theorem page_once {s : ByteArray} (h : readE s = 0) : rightP (readK s) (readG s) (readB s) = true ∧ pageS (readK s) (readG s) (readB s) = trimS s := by
 have hs : s.size ≤ 4096 := by
  by_cases hs : s.size ≤ 4096
  ·
   exact hs
  ·
   rw [readE, if_neg hs] at h; omega
 have h' : fE (fullS s) = 0 := by rwa [readE, if_pos hs] at h
 rw [readK, readG, readB, if_pos h, if_pos h, if_pos h]
 obtain ⟨a, b⟩ := f_once (fullS_size hs) h'
 refine ⟨a, ?_⟩
 rw [b, fullS, trim_more]
theorem sum_nine : ofS (zeros 9) ≠ 0 := by
 have : ofS ⟨#[0, 0, 0, 0, 0, 0, 0, 0, 0]⟩ ≠ 0 := by decide +kernel
 exact this
theorem read_none : readE ⟨#[]⟩ = 41 := by
 have hf : fullS ⟨#[]⟩ = zeros 4096 := by
  apply bytes_ext
  rw [fullS, data_append]; rfl
 rw [readE, if_pos (by decide), hf]
 have hz : ∀ i, byteAt (zeros 4096) i = 0 := by
  intro i
  unfold byteAt
  show ((List.replicate 4096 (0 : UInt8))[i]?).getD 0 = 0
  rw [List.getElem?_replicate]
  split <;> rfl
 have hn : fN (zeros 4096) = 0 := by
  unfold fN
  have a := hz 7
  have b := hz 8
  unfold byteAt at a b
  simp only [getV]
  rw [show 7 + 0 = 7 from rfl, show 7 + 1 = 8 from rfl, a, b]
  rfl
 have hx : ∀ n, n ≤ 4096 → (zeros 4096).extract 0 n = zeros n := by
  intro n h
  apply bytes_ext
  rw [extract_data', List.drop_zero, Nat.sub_zero]
  show (List.replicate 4096 (0 : UInt8)).take n = List.replicate n 0
  rw [List.take_replicate, Nat.min_eq_left h]
 have hs : ¬ fSealed (zeros 4096) := by
  rw [fSealed_iff, hn, hx _ (by omega), hx _ (by omega)]
  intro h
  have h2 : le4S (ofS (zeros 9)) = zeros 4 := by
   have e := congrArg (fun x : ByteArray => x.extract 9 13) h
   have e1 : (sealS (zeros (9 + 0))).extract 9 13 = le4S (ofS (zeros 9)) := extract_right _ _ 9 13 rfl rfl
   have e2 : (zeros (13 + 0)).extract 9 13 = zeros 4 := by
    apply bytes_ext
    rw [extract_data']
    rfl
   exact (e1.symm.trans e).trans e2
  have h3 := congrArg (fun x : ByteArray => leN x.data.toList) h2
  have h4 : leN (le4 (ofS (zeros 9))) = 0 := h3
  rw [leN_le4 (ofS_lt _)] at h4
  exact sum_nine h4
 unfold fE
 rw [if_neg (by rw [hn]; omega), if_neg hs]
def rightSu (g r m z : Int) : Bool := decide ((1 ≤ g ∧ g ≤ 1099511627776) ∧ (24 ≤ z ∧ z ≤ 2048) ∧ (r = 0 ∨ (10 ≤ r ∧ r < z)) ∧ (10 ≤ m ∧ m < z) ∧ ¬ m = r)
theorem rightSu_iff (g r m z : Int) : rightSu g r m z = true ↔ ((1 ≤ g ∧ g ≤ 1099511627776) ∧ (24 ≤ z ∧ z ≤ 2048) ∧ (r = 0 ∨ (10 ≤ r ∧ r < z)) ∧ (10 ≤ m ∧ m < z) ∧ ¬ m = r) := by unfold rightSu; rw [decide_eq_true_iff]
def bodySu (r m z : Int) : ByteArray := cat [putS r 2, putS m 2, putS z 2]
def suS (g r m z : Int) : ByteArray := if rightSu g r m z then pageS 4 g (bodySu r m z) else ⟨#[]⟩
def suP (g r m z : Int) : Int := if rightSu g r m z then 0 else 1
theorem small_ok {n : Int} (h0 : 0 ≤ n) (h1 : n ≤ 2048) : putOk n 2 = true := (putOk_iff _ _).2 ⟨by decide, by decide, h0, by show n < 65536; omega⟩
theorem rightSu_small {g r m z : Int} (h : rightSu g r m z = true) : (0 ≤ r ∧ r ≤ 2048) ∧ (0 ≤ m ∧ m ≤ 2048) ∧ (0 ≤ z ∧ z ≤ 2048) := by
 have := (rightSu_iff _ _ _ _).1 h
 omega
theorem bodySu_size {g r m z : Int} (h : rightSu g r m z = true) : (bodySu r m z).size = 6 := by
 obtain ⟨⟨a, b⟩, ⟨c, d⟩, e, f⟩ := rightSu_small h
 have e1 := putS_size (small_ok a b)
 have e2 := putS_size (small_ok c d)
 have e3 := putS_size (small_ok e f)
 rw [bodySu, cat_size]
 simp
 omega
theorem bodySu_page {g r m z : Int} (h : rightSu g r m z = true) : rightP 4 g (bodySu r m z) = true := by
 have := (rightSu_iff _ _ _ _).1 h
 rw [rightP_iff, bodySu_size h]
 omega
theorem getV_two (a c : ByteArray) (n : Int) (h : putOk n 2 = true) (h0 : 0 ≤ n) (h1 : n ≤ 2048) : getV (cat [a, putS n 2, c]) a.size 2 = n := by
 rw [putS_ok h]
 have := getV_mid a c 2 n
 rw [mod_self8 n 2 h0 (by show n < 65536; omega)] at this
 exact this
theorem bodySu_at {g r m z : Int} (h : rightSu g r m z = true) : getV (bodySu r m z) 0 2 = r ∧ getV (bodySu r m z) 2 2 = m ∧ getV (bodySu r m z) 4 2 = z := by
 obtain ⟨⟨a, b⟩, ⟨c, d⟩, e, f⟩ := rightSu_small h
 have e1 := putS_size (small_ok a b)
 have e2 := putS_size (small_ok c d)
 have h1 := getV_two ⟨#[]⟩ (cat [putS m 2, putS z 2]) r (small_ok a b) a b
 have h2 := getV_two (putS r 2) (putS z 2) m (small_ok c d) c d
 have h3 := getV_two (cat [putS r 2, putS m 2]) ⟨#[]⟩ z (small_ok e f) e f
 have x1 : cat [⟨#[]⟩, putS r 2, cat [putS m 2, putS z 2]] = bodySu r m z := by
  apply bytes_ext; simp [bodySu, cat_data]
 have x3 : cat [cat [putS r 2, putS m 2], putS z 2, ⟨#[]⟩] = bodySu r m z := by
  apply bytes_ext; simp [bodySu, cat_data]
 have z1 : (putS r 2).size = 2 := by omega
 have z2 : (cat [putS r 2, putS m 2]).size = 4 := by rw [cat_size]; simp; omega
 rw [x1] at h1
 rw [x3, z2] at h3
 rw [z1] at h2
 exact ⟨h1, h2, h3⟩
theorem body_put {b : ByteArray} (h : b.size = 6) : bodySu (getV b 0 2) (getV b 2 2) (getV b 4 2) = b := by
 obtain ⟨_, h1⟩ := got_put (s := b) (p := 0) (k := 2) (by omega) (by omega) (by omega)
 obtain ⟨_, h2⟩ := got_put (s := b) (p := 2) (k := 2) (by omega) (by omega) (by omega)
 obtain ⟨_, h3⟩ := got_put (s := b) (p := 4) (k := 2) (by omega) (by omega) (by omega)
 have h1' : putS (getV b 0 2) 2 = b.extract 0 2 := h1
 have h2' : putS (getV b 2 2) 2 = b.extract 2 4 := h2
 have h3' : putS (getV b 4 2) 2 = b.extract 4 6 := h3
 rw [bodySu, h1', h2', h3']
 have e : cat [b.extract 0 2, b.extract 2 4, b.extract 4 6] = b.extract 0 2 ++ b.extract 2 4 ++ b.extract 4 6 := by
  apply bytes_ext; rw [data_append, data_append, cat_data]; simp
 rw [e, extract_join _ _ _ _ (by omega) (by omega), extract_join _ _ _ _ (by omega) (by omega), ← h, extract_all]
def suE (s : ByteArray) : Int :=
 if readE s = 0 then (if readK s = 4 then (if (readB s).size = 6 then (if rightSu (readG s) (getV (readB s) 0 2) (getV (readB s) 2 2) (getV (readB s) 4 2) then 0 else 4) else 4) else 40) else readE s
def suG (s : ByteArray) : Int := if suE s = 0 then readG s else 0
def suR (s : ByteArray) : Int := if suE s = 0 then getV (readB s) 0 2 else 0
def suM (s : ByteArray) : Int := if suE s = 0 then getV (readB s) 2 2 else 0
def suZ (s : ByteArray) : Int := if suE s = 0 then getV (readB s) 4 2 else 0
theorem suE_ok {s : ByteArray} (h : suE s = 0) : readE s = 0 ∧ readK s = 4 ∧ (readB s).size = 6 ∧ rightSu (readG s) (getV (readB s) 0 2) (getV (readB s) 2 2) (getV (readB s) 4 2) = true := by
 unfold suE at h
 by_cases h1 : readE s = 0
 ·
  rw [if_pos h1] at h
  by_cases h2 : readK s = 4
  ·
   rw [if_pos h2] at h
   by_cases h3 : (readB s).size = 6
   ·
    rw [if_pos h3] at h
    by_cases h4 : rightSu (readG s) (getV (readB s) 0 2) (getV (readB s) 2 2) (getV (readB s) 4 2) = true
    ·
     exact ⟨h1, h2, h3, h4⟩
    ·
     rw [if_neg h4] at h; omega
   ·
    rw [if_neg h3] at h; omega
  ·
   rw [if_neg h2] at h; omega
 ·
  rw [if_neg h1] at h; exact absurd h h1
theorem suE_zero {s : ByteArray} (h1 : readE s = 0) (h2 : readK s = 4) (h3 : (readB s).size = 6) (h4 : rightSu (readG s) (getV (readB s) 0 2) (getV (readB s) 2 2) (getV (readB s) 4 2) = true) : suE s = 0 := by
 unfold suE
 rw [if_pos h1, if_pos h2, if_pos h3, if_pos h4]
theorem su_back {g r m z : Int} (h : rightSu g r m z = true) : suE (suS g r m z) = 0 ∧ suG (suS g r m z) = g ∧ suR (suS g r m z) = r ∧ suM (suS g r m z) = m ∧ suZ (suS g r m z) = z := by
 have hp := bodySu_page h
 have hmax := pageS_max 4 g (bodySu r m z)
 obtain ⟨r1, r2, r3, r4⟩ := page_back hp 0 (by omega)
 have hz : pageS 4 g (bodySu r m z) ++ zeros 0 = pageS 4 g (bodySu r m z) := by apply bytes_ext; rw [data_append]; simp [zeros]
 rw [hz] at r1 r2 r3 r4
 have e : suS g r m z = pageS 4 g (bodySu r m z) := by rw [suS, if_pos h]
 rw [← e] at r1 r2 r3 r4
 obtain ⟨b1, b2, b3⟩ := bodySu_at h
 have h0 : suE (suS g r m z) = 0 := suE_zero r1 r2 (by rw [r4]; exact bodySu_size h) (by rw [r3, r4, b1, b2, b3]; exact h)
 refine ⟨h0, ?_, ?_, ?_, ?_⟩
 ·
  rw [suG, if_pos h0, r3]
 ·
  rw [suR, if_pos h0, r4, b1]
 ·
  rw [suM, if_pos h0, r4, b2]
 ·
  rw [suZ, if_pos h0, r4, b3]
theorem su_once {s : ByteArray} (h : suE s = 0) : rightSu (suG s) (suR s) (suM s) (suZ s) = true ∧ suS (suG s) (suR s) (suM s) (suZ s) = trimS s := by
 obtain ⟨h1, h2, h3, h4⟩ := suE_ok h
 rw [suG, suR, suM, suZ, if_pos h, if_pos h, if_pos h, if_pos h]
 refine ⟨h4, ?_⟩
 rw [suS, if_pos h4, body_put h3]
 have := (page_once h1).2
 rw [h2] at this
 exact this
theorem suG_pos {s : ByteArray} : 0 ≤ suG s ∧ (suE s = 0 ↔ 1 ≤ suG s) := by
 by_cases h : suE s = 0
 ·
  have h4 := (su_once h).1
  have := (rightSu_iff _ _ _ _).1 h4
  exact ⟨by omega, fun _ => by omega, fun _ => h⟩
 ·
  have e : suG s = 0 := by rw [suG, if_neg h]
  exact ⟨by omega, fun hh => absurd hh h, fun hh => by omega⟩
theorem suE_none : suE ⟨#[]⟩ = 41 := by
 have h := read_none
 rw [suE, if_neg (by omega), h]
theorem su_none : suG ⟨#[]⟩ = 0 ∧ suR ⟨#[]⟩ = 0 ∧ suM ⟨#[]⟩ = 0 ∧ suZ ⟨#[]⟩ = 0 := by
 have h := suE_none
 refine ⟨?_, ?_, ?_, ?_⟩
 ·
  rw [suG, if_neg (by omega)]
 ·
  rw [suR, if_neg (by omega)]
 ·
  rw [suM, if_neg (by omega)]
 ·
  rw [suZ, if_neg (by omega)]
def Best (xs : List ByteArray) (t : ByteArray) (i : Nat) : Prop :=
 (∀ (j : Nat) x, xs[j]? = some x → suG x ≤ suG t) ∧ (suG t = 0 → t = ⟨#[]⟩ ∧ i = 0) ∧ (1 ≤ suG t → xs[i]? = some t ∧ ∀ (j : Nat) x, j < i → xs[j]? = some x → suG x < suG t)
theorem Best.uniq {xs : List ByteArray} {t t' : ByteArray} {i i' : Nat} (h : Best xs t i) (h' : Best xs t' i') : t = t' ∧ i = i' := by
 obtain ⟨a, b, c⟩ := h
 obtain ⟨a', b', c'⟩ := h'
 have p := (suG_pos (s := t)).1
 have p' := (suG_pos (s := t')).1
 by_cases h0 : suG t = 0
 ·
  by_cases h0' : suG t' = 0
  ·
   obtain ⟨rfl, rfl⟩ := b h0
   obtain ⟨rfl, rfl⟩ := b' h0'
   exact ⟨rfl, rfl⟩
  ·
   obtain ⟨hx, _⟩ := c' (by omega)
   have := a _ _ hx
   omega
 ·
  obtain ⟨hx, hl⟩ := c (by omega)
  have h1 := a' _ _ hx
  by_cases h0' : suG t' = 0
  ·
   omega
  ·
   obtain ⟨hx', hl'⟩ := c' (by omega)
   have h2 := a _ _ hx'
   have hi : i = i' := by
    rcases Nat.lt_trichotomy i i' with hlt | he | hlt
    ·
     have := hl' _ _ hlt hx; omega
    ·
     exact he
    ·
     have := hl _ _ hlt hx'; omega
   subst hi
   rw [hx] at hx'
   exact ⟨Option.some.inj hx', rfl⟩
theorem best_nil : Best [] ⟨#[]⟩ 0 := by
 refine ⟨fun j x hx => by simp at hx, fun _ => ⟨rfl, rfl⟩, fun h => ?_⟩
 have := su_none.1
 omega
theorem Best.snoc {xs : List ByteArray} {t x : ByteArray} {i : Nat} (h : Best xs t i) : Best (xs ++ [x]) (if suG t < suG x then x else t) (if suG t < suG x then xs.length else i) := by
 obtain ⟨a, b, c⟩ := h
 have p := (suG_pos (s := t)).1
 by_cases hlt : suG t < suG x
 ·
  rw [if_pos hlt, if_pos hlt]
  refine ⟨fun j y hy => ?_, fun h => by omega, fun _ => ⟨by simp, fun j y hj hy => ?_⟩⟩
  ·
   rw [List.getElem?_append] at hy
   by_cases hj : j < xs.length
   ·
    rw [if_pos hj] at hy; have := a _ _ hy; omega
   ·
    rw [if_neg hj] at hy
    by_cases hz : j - xs.length = 0
    ·
     rw [hz] at hy; simp at hy; subst hy; omega
    ·
     have : j - xs.length < 1 := (List.getElem?_eq_some_iff.1 hy).1
     omega
  ·
   rw [List.getElem?_append_left hj] at hy
   have := a _ _ hy; omega
 ·
  rw [if_neg hlt, if_neg hlt]
  refine ⟨fun j y hy => ?_, b, fun h1 => ?_⟩
  ·
   rw [List.getElem?_append] at hy
   by_cases hj : j < xs.length
   ·
    rw [if_pos hj] at hy; exact a _ _ hy
   ·
    rw [if_neg hj] at hy
    by_cases hz : j - xs.length = 0
    ·
     rw [hz] at hy; simp at hy; subst hy; omega
    ·
     have : j - xs.length < 1 := (List.getElem?_eq_some_iff.1 hy).1
     omega
  ·
   obtain ⟨hx, hl⟩ := c h1
   have hi : i < xs.length := (List.getElem?_eq_some_iff.1 hx).1
   refine ⟨by rw [List.getElem?_append_left hi]; exact hx, fun j y hj hy => ?_⟩
   rw [List.getElem?_append_left (by omega)] at hy
   exact hl _ _ hj hy
theorem Best.cons {xs : List ByteArray} {t x : ByteArray} {i : Nat} (h : Best xs t i) : Best (x :: xs) (if suE x = 0 ∧ suG t ≤ suG x then x else t) (if suE x = 0 ∧ suG t ≤ suG x then 0 else if suG t = 0 then 0 else i + 1) := by
 obtain ⟨a, b, c⟩ := h
 have p := (suG_pos (s := t)).1
 have px := suG_pos (s := x)
 by_cases hlt : suE x = 0 ∧ suG t ≤ suG x
 ·
  rw [if_pos hlt, if_pos hlt]
  obtain ⟨h0, hle⟩ := hlt
  have hx1 := px.2.1 h0
  refine ⟨fun j y hy => ?_, fun h => by omega, fun _ => ⟨rfl, fun j y hj hy => by omega⟩⟩
  cases j with
  | zero => simp at hy; subst hy; omega
  | succ j => simp at hy; have := a _ _ hy; omega
 ·
  rw [if_neg hlt, if_neg hlt]
  have hle : suG x ≤ suG t ∧ (1 ≤ suG t → suG x < suG t) := by
   by_cases h0 : suE x = 0
   ·
    have : ¬ suG t ≤ suG x := fun h => hlt ⟨h0, h⟩
    omega
   ·
    have : ¬ 1 ≤ suG x := fun h => h0 (px.2.2 h)
    omega
  refine ⟨fun j y hy => ?_, fun h => by rw [if_pos h]; exact ⟨(b h).1, rfl⟩, fun h1 => ?_⟩
  ·
   cases j with
   | zero => simp at hy; subst hy; exact hle.1
   | succ j => simp at hy; exact a _ _ hy
  ·
   rw [if_neg (by omega)]
   obtain ⟨hx, hl⟩ := c h1
   refine ⟨by simpa using hx, fun j y hj hy => ?_⟩
   cases j with
   | zero => simp at hy; subst hy; exact hle.2 h1
   | succ j => simp at hy; exact hl j _ (by omega) hy
theorem Best.with {xs : List ByteArray} {t q : ByteArray} {i : Nat} (h : Best xs t i) (hq : ¬ suE q = 0) (k : Nat) (hk : k ≤ xs.length) :
  Best (xs.take k ++ q :: xs.drop k) t (if suG t = 0 then 0 else if k ≤ i then i + 1 else i) := by
 obtain ⟨a, b, c⟩ := h
 have p := (suG_pos (s := t)).1
 have gq : suG q = 0 := by rw [suG, if_neg hq]
 have hl : (xs.take k).length = k := by rw [List.length_take]; omega
 have hat : ∀ j, (xs.take k ++ q :: xs.drop k)[j]? = if j < k then xs[j]? else if j = k then some q else xs[j - 1]? := by
  intro j
  rw [List.getElem?_append, hl]
  by_cases h1 : j < k
  ·
   rw [if_pos h1, if_pos h1, List.getElem?_take, if_pos h1]
  ·
   rw [if_neg h1, if_neg h1]
   by_cases h2 : j = k
   ·
    subst h2; rw [if_pos rfl, Nat.sub_self]; rfl
   ·
    rw [if_neg h2]
    obtain ⟨d, hd⟩ : ∃ d, j - k = d + 1 := ⟨j - k - 1, by omega⟩
    rw [hd, List.getElem?_cons_succ, List.getElem?_drop]
    congr 1; omega
 refine ⟨fun j x hx => ?_, fun h => by rw [if_pos h]; exact ⟨(b h).1, rfl⟩, fun h1 => ?_⟩
 ·
  rw [hat] at hx
  by_cases h1 : j < k
  ·
   rw [if_pos h1] at hx; exact a _ _ hx
  ·
   rw [if_neg h1] at hx
   by_cases h2 : j = k
   ·
    rw [if_pos h2] at hx; obtain rfl := Option.some.inj hx; omega
   ·
    rw [if_neg h2] at hx; exact a _ _ hx
 ·
  rw [if_neg (by omega)]
  obtain ⟨hx, hlt⟩ := c h1
  have hi : i < xs.length := (List.getElem?_eq_some_iff.1 hx).1
  by_cases hki : k ≤ i
  ·
   rw [if_pos hki]
   refine ⟨by rw [hat, if_neg (by omega), if_neg (by omega), Nat.add_sub_cancel]; exact hx, fun j x hj hjx => ?_⟩
   rw [hat] at hjx
   by_cases h1' : j < k
   ·
    rw [if_pos h1'] at hjx; exact hlt _ _ (by omega) hjx
   ·
    rw [if_neg h1'] at hjx
    by_cases h2 : j = k
    ·
     rw [if_pos h2] at hjx; obtain rfl := Option.some.inj hjx; omega
    ·
     rw [if_neg h2] at hjx; exact hlt _ _ (by omega) hjx
  ·
   rw [if_neg hki]
   refine ⟨by rw [hat, if_pos (by omega)]; exact hx, fun j x hj hjx => ?_⟩
   rw [hat, if_pos (by omega)] at hjx
   exact hlt _ _ hj hjx
end Go.Proofs.YtaobfgplheoefaaGreat.Plain
namespace Go.Proofs.YtaobfgplheoefaaGreat.Plain
open Go.RowKit
set_option linter.unusedVariables false
theorem bl_irrefl (x : List UInt8) : Op.bytesLess x x = false := by
 induction x with
 | nil => rfl
 | cons a x ih => simp [Op.bytesLess, ih]
theorem bl_total {x y : List UInt8} (h1 : Op.bytesLess x y = false) (h2 : Op.bytesLess y x = false) : x = y := by
 induction x generalizing y with
 | nil =>
  cases y with
  | nil => rfl
  | cons b y => simp [Op.bytesLess] at h1
 | cons a x ih =>
  cases y with
  | nil => simp [Op.bytesLess] at h2
  | cons b y =>
   simp only [Op.bytesLess, Bool.or_eq_false_iff, Bool.and_eq_false_iff, decide_eq_false_iff_not, beq_eq_false_iff_ne] at h1 h2
   have hab : a = b := by
    apply UInt8.toNat_inj.1
    have g1 := h1.1
    have g2 := h2.1
    rw [UInt8.lt_iff_toNat_lt] at g1 g2
    omega
   subst hab
   rcases h1.2 with h | h
   ·
    exact absurd rfl h
   ·
    rcases h2.2 with g | g
    ·
     exact absurd rfl g
    ·
     rw [ih h g]
theorem bl_trans {x y z : List UInt8} (h1 : Op.bytesLess x y = true) (h2 : Op.bytesLess y z = true) : Op.bytesLess x z = true := by
 induction x generalizing y z with
 | nil =>
  cases z with
  | nil => cases y <;> simp [Op.bytesLess] at h2
  | cons c z => rfl
 | cons a x ih =>
  cases y with
  | nil => simp [Op.bytesLess] at h1
  | cons b y =>
   cases z with
   | nil => simp [Op.bytesLess] at h2
   | cons c z =>
    simp only [Op.bytesLess, Bool.or_eq_true, Bool.and_eq_true, decide_eq_true_eq, beq_iff_eq] at h1 h2 ⊢
    rcases h1 with h1 | ⟨rfl, h1⟩
    ·
     rcases h2 with h2 | ⟨rfl, h2⟩
     ·
      left
      rw [UInt8.lt_iff_toNat_lt] at *
      omega
     ·
      exact .inl h1
    ·
     rcases h2 with h2 | ⟨rfl, h2⟩
     ·
      exact .inl h2
     ·
      exact .inr ⟨rfl, ih h1 h2⟩
theorem toList_inj {a b : ByteArray} (h : a.toList = b.toList) : a = b := by
 apply bytes_ext
 rw [← ByteArray.toList_eq, ← ByteArray.toList_eq]; exact h
def ltB (a b : ByteArray) : Bool := Op.bytesLess a.toList b.toList
theorem ltB_irrefl (a : ByteArray) : ltB a a = false := bl_irrefl _
theorem ltB_trans {a b c : ByteArray} (h1 : ltB a b = true) (h2 : ltB b c = true) : ltB a c = true := bl_trans h1 h2
theorem ltB_total {a b : ByteArray} (h1 : ltB a b = false) (h2 : ltB b a = false) : a = b := toList_inj (bl_total h1 h2)
theorem ltB_asymm {a b : ByteArray} (h : ltB a b = true) : ltB b a = false := by
 cases hb : ltB b a with
 | false => rfl
 | true => have := ltB_trans h hb; rw [ltB_irrefl] at this; cases this
theorem ltB_le {a b c : ByteArray} (h1 : ltB a b = true) (h2 : ltB c b = false) : ltB a c = true := by
 cases hc : ltB a c with
 | true => rfl
 | false =>
  cases hd : ltB c a with
  | true => rw [ltB_trans hd h1] at h2; cases h2
  | false =>
   rw [ltB_total hc hd] at h1
   rw [h1] at h2; cases h2
def headUp (x : ByteArray) : List ByteArray → Bool
 | [] => true
 | y :: _ => ltB x y
def risingK : List ByteArray → Bool
 | [] => true
 | x :: r => headUp x r && risingK r
theorem rising_pair {ks : List ByteArray} (h : risingK ks = true) : ks.Pairwise fun x y => ltB x y = true := by
 induction ks with
 | nil => exact .nil
 | cons x r ih =>
  rw [risingK, Bool.and_eq_true] at h
  have hr := ih h.2
  refine .cons ?_ hr
  cases r with
  | nil => intro y hy; cases hy
  | cons z r =>
   intro y hy
   rcases List.mem_cons.1 hy with rfl | hy
   ·
    exact h.1
   ·
    exact ltB_trans h.1 ((List.pairwise_cons.1 hr).1 y hy)
theorem rising_of {ks : List ByteArray} (h : ks.Pairwise fun x y => ltB x y = true) : risingK ks = true := by
 induction ks with
 | nil => rfl
 | cons x r ih =>
  rw [List.pairwise_cons] at h
  rw [risingK, Bool.and_eq_true]
  refine ⟨?_, ih h.2⟩
  cases r with
  | nil => rfl
  | cons z r => exact h.1 z (by simp)
theorem rising_iff {ks : List ByteArray} : risingK ks = true ↔ ∀ (i j : Nat) (x y : ByteArray), i < j → ks[i]? = some x → ks[j]? = some y → ltB x y = true := by
 constructor
 ·
  intro h i j x y hij hx hy
  have hp := rising_pair h
  rw [List.pairwise_iff_getElem] at hp
  obtain ⟨h1, e1⟩ := List.getElem?_eq_some_iff.1 hx
  obtain ⟨h2, e2⟩ := List.getElem?_eq_some_iff.1 hy
  rw [← e1, ← e2]
  exact hp i j h1 h2 hij
 ·
  intro h
  apply rising_of
  rw [List.pairwise_iff_getElem]
  intro i j h1 h2 hij
  exact h i j _ _ hij (List.getElem?_eq_getElem h1) (List.getElem?_eq_getElem h2)
theorem rising_next {ks : List ByteArray} : risingK ks = true ↔ ∀ (i : Nat) (x y : ByteArray), ks[i]? = some x → ks[i + 1]? = some y → ltB x y = true := by
 constructor
 ·
  intro h i x y hx hy
  exact rising_iff.1 h i (i + 1) x y (by omega) hx hy
 ·
  intro h
  induction ks with
  | nil => rfl
  | cons x r ih =>
   rw [risingK, Bool.and_eq_true]
   refine ⟨?_, ih fun i a b ha hb => h (i + 1) a b (by simpa using ha) (by simpa using hb)⟩
   cases r with
   | nil => rfl
   | cons z r => exact h 0 x z rfl rfl
def keyOk (k : ByteArray) : Bool := decide (1 ≤ k.size) && decide (k.size ≤ 32)
def valOk (v : ByteArray) : Bool := decide (v.size ≤ 200)
def kidOk (c : Int) : Bool := decide (10 ≤ c) && decide (c ≤ 2047)
def shapeN (l : Bool) (k v c : Nat) : Bool := if l = true then decide (v = k) && decide (c = 0) else decide (v = 0) && decide (1 ≤ k) && decide (c = k + 1)
def standsN (l : Bool) (ks vs : List ByteArray) (cs : List Int) : Bool :=
 decide (ks.length ≤ 9) && ks.all keyOk && risingK ks && vs.all valOk && cs.all kidOk && shapeN l ks.length vs.length cs.length
def rightN (l : Bool) (ks vs : List ByteArray) (cs : List Int) (root : Bool) : Bool := standsN l ks vs cs && decide (ks.length ≤ 8) && (root || decide (4 ≤ ks.length))
theorem standsN_iff {l : Bool} {ks vs : List ByteArray} {cs : List Int} : standsN l ks vs cs = true ↔
  ks.length ≤ 9 ∧ (∀ k ∈ ks, 1 ≤ k.size ∧ k.size ≤ 32) ∧ risingK ks = true ∧ (∀ v ∈ vs, v.size ≤ 200) ∧ (∀ c ∈ cs, 10 ≤ c ∧ c ≤ 2047) ∧ shapeN l ks.length vs.length cs.length = true := by
 unfold standsN keyOk valOk kidOk
 simp only [Bool.and_eq_true, List.all_eq_true, decide_eq_true_eq]
 constructor
 ·
  rintro ⟨⟨⟨⟨⟨h1, h2⟩, h3⟩, h4⟩, h5⟩, h6⟩; exact ⟨h1, h2, h3, h4, h5, h6⟩
 ·
  rintro ⟨h1, h2, h3, h4, h5, h6⟩; exact ⟨⟨⟨⟨⟨h1, h2⟩, h3⟩, h4⟩, h5⟩, h6⟩
theorem shape_leaf {k v c : Nat} : shapeN true k v c = true ↔ v = k ∧ c = 0 := by unfold shapeN; simp
theorem shape_inner {k v c : Nat} : shapeN false k v c = true ↔ v = 0 ∧ 1 ≤ k ∧ c = k + 1 := by unfold shapeN; simp [and_assoc]
theorem rightN_iff {l : Bool} {ks vs : List ByteArray} {cs : List Int} {root : Bool} : rightN l ks vs cs root = true ↔ standsN l ks vs cs = true ∧ ks.length ≤ 8 ∧ (root = true ∨ 4 ≤ ks.length) := by
 unfold rightN
 simp only [Bool.and_eq_true, Bool.or_eq_true, decide_eq_true_eq, and_assoc]
end Go.Proofs.YtaobfgplheoefaaGreat.Plain
namespace Go.Proofs.YtaobfgplheoefaaGreat
open Go.RowKit Plain Go.ChangeShapes Go.WideShapes
set_option linter.unusedVariables false
def IsS (w : World) (a : Option Addr) (c : Nat) (bs : List ByteArray) : Prop :=
 bs.length ≤ c ∧ c ≤ maxLen ∧ ∀ j x, bs[j]? = some x → ∃ b o, a = some ⟨b, o, none⟩ ∧ b < w.heap.size ∧ w.cell? ⟨b, o + j, none⟩ = some (.string x) ∧ x.size ≤ maxLen
theorem IsS.below {w w' : World} {a : Option Addr} {c : Nat} {bs : List ByteArray} (h : IsS w a c bs) (hb : Below w.heap.size w w') : IsS w' a c bs := by
 refine ⟨h.1, h.2.1, fun j x hx => ?_⟩
 obtain ⟨b, o, ha, hlt, hc, hs⟩ := h.2.2 j x hx
 exact ⟨b, o, ha, Nat.lt_of_lt_of_le hlt hb.size, by rw [hb.cell (p := ⟨b, o + j, none⟩) hlt]; exact hc, hs⟩
theorem isS_nil (w : World) : IsS w none 0 [] := ⟨Nat.le_refl _, Nat.zero_le _, fun j m hj => by simp at hj⟩
theorem isI_nil (w : World) : IsI w none 0 [] := ⟨Nat.le_refl _, Nat.zero_le _, fun j m hj => by simp at hj⟩
theorem IsS.size {w : World} {a : Option Addr} {c : Nat} {bs : List ByteArray} (h : IsS w a c bs) : bs.length ≤ 9223372036854775807 := Nat.le_trans h.1 h.2.1
theorem IsI.size {w : World} {a : Option Addr} {c : Nat} {bs : List Int} (h : IsI w a c bs) : bs.length ≤ 9223372036854775807 := Nat.le_trans h.1 h.2.1
def Box4 (w : World) (h : Nat) (v0 v1 v2 v3 : Value) : Prop :=
 (w.cell? ⟨h, 0, none⟩ = some v0 ∧ w.cell? ⟨h, 1, none⟩ = some v1 ∧ w.cell? ⟨h, 2, none⟩ = some v2 ∧ w.cell? ⟨h, 3, none⟩ = some v3) ∧ w.frozen? ⟨h, 0, none⟩ = false ∧ w.frozen? ⟨h, 1, none⟩ = false ∧ w.frozen? ⟨h, 2, none⟩ = false ∧ w.frozen? ⟨h, 3, none⟩ = false
theorem box4_new (w : World) (v0 v1 v2 v3 : Value) (t : TypeId) {h : Nat} (hh : h = w.heap.size) : Box4 (w.alloc (.cells #[v0, v1, v2, v3] t)) h v0 v1 v2 v3 := by
 subst hh
 refine ⟨⟨World.cell?_alloc_at _ _ _ _ rfl, World.cell?_alloc_at _ _ _ _ rfl, World.cell?_alloc_at _ _ _ _ rfl, World.cell?_alloc_at _ _ _ _ rfl⟩, ?_, ?_, ?_, ?_⟩
 ·
  exact (World.frozen?_alloc_mark w _ _ _ _ 0).trans (by simp)
 ·
  exact (World.frozen?_alloc_mark w _ _ _ _ 1).trans (by simp)
 ·
  exact (World.frozen?_alloc_mark w _ _ _ _ 2).trans (by simp)
 ·
  exact (World.frozen?_alloc_mark w _ _ _ _ 3).trans (by simp)
theorem Box4.lt {w : World} {h : Nat} {v0 v1 v2 v3 : Value} (b : Box4 w h v0 v1 v2 v3) : h < w.heap.size := cell_lt b.1.1
theorem Box4.below {w w' : World} {h : Nat} {v0 v1 v2 v3 : Value} (b : Box4 w h v0 v1 v2 v3) (hb : Below w.heap.size w w') : Box4 w' h v0 v1 v2 v3 := by
 have hl := b.lt
 obtain ⟨⟨c0, c1, c2, c3⟩, f0, f1, f2, f3⟩ := b
 exact ⟨⟨cell_below hb c0, cell_below hb c1, cell_below hb c2, cell_below hb c3⟩, by rw [hb.frozen (p := ⟨h, 0, none⟩) hl]; exact f0, by rw [hb.frozen (p := ⟨h, 1, none⟩) hl]; exact f1, by rw [hb.frozen (p := ⟨h, 2, none⟩) hl]; exact f2, by rw [hb.frozen (p := ⟨h, 3, none⟩) hl]; exact f3⟩
theorem Box4.alloc {w : World} {h : Nat} {v0 v1 v2 v3 : Value} (b : Box4 w h v0 v1 v2 v3) (o : Obj) : Box4 (w.alloc o) h v0 v1 v2 v3 := b.below ((Below.refl _ _).alloc (Nat.le_refl _) o)
theorem Box4.drew {w : World} {h : Nat} {v0 v1 v2 v3 : Value} (b : Box4 w h v0 v1 v2 v3) : Box4 w.drew h v0 v1 v2 v3 := b.below (Below.refl _ _).drew
def Box3 (w : World) (h : Nat) (v0 v1 v2 : Value) : Prop :=
 (w.cell? ⟨h, 0, none⟩ = some v0 ∧ w.cell? ⟨h, 1, none⟩ = some v1 ∧ w.cell? ⟨h, 2, none⟩ = some v2) ∧ w.frozen? ⟨h, 0, none⟩ = false ∧ w.frozen? ⟨h, 1, none⟩ = false ∧ w.frozen? ⟨h, 2, none⟩ = false
theorem box3_new (w : World) (v0 v1 v2 : Value) (t : TypeId) : Box3 (w.alloc (.cells #[v0, v1, v2] t)) w.heap.size v0 v1 v2 := by
 refine ⟨⟨World.cell?_alloc_at _ _ _ _ rfl, World.cell?_alloc_at _ _ _ _ rfl, World.cell?_alloc_at _ _ _ _ rfl⟩, ?_, ?_, ?_⟩
 ·
  exact (World.frozen?_alloc_mark w _ _ _ _ 0).trans (by simp)
 ·
  exact (World.frozen?_alloc_mark w _ _ _ _ 1).trans (by simp)
 ·
  exact (World.frozen?_alloc_mark w _ _ _ _ 2).trans (by simp)
theorem Box3.below {w w' : World} {h : Nat} {v0 v1 v2 : Value} (b : Box3 w h v0 v1 v2) (hb : Below w.heap.size w w') : Box3 w' h v0 v1 v2 := by
 obtain ⟨⟨c0, c1, c2⟩, f0, f1, f2⟩ := b
 have hl := cell_lt c0
 exact ⟨⟨cell_below hb c0, cell_below hb c1, cell_below hb c2⟩, by rw [hb.frozen (p := ⟨h, 0, none⟩) hl]; exact f0, by rw [hb.frozen (p := ⟨h, 1, none⟩) hl]; exact f1, by rw [hb.frozen (p := ⟨h, 2, none⟩) hl]; exact f2⟩
theorem cell_set_other {w : World} {h k i j : Nat} {x u : Value} (hn : h ≠ k ∨ i ≠ j) (hx : w.cell? ⟨h, i, none⟩ = some x) : (w.setCell ⟨k, j, none⟩ u).cell? ⟨h, i, none⟩ = some x := by
 rw [World.cell?_setCell_other _ _ _ _ (fun hh => by cases hh; rcases hn with hn | hn <;> exact hn rfl)]; exact hx
theorem Box4.put1 {w : World} {h : Nat} {v0 v1 v2 v3 : Value} (b : Box4 w h v0 v1 v2 v3) (u : Value) : Box4 (w.setCell ⟨h, 1, none⟩ u) h v0 u v2 v3 := by
 obtain ⟨⟨b0, b1, b2, b3⟩, f0, f1, f2, f3⟩ := b
 exact ⟨⟨cell_set_other (.inr (by decide)) b0, World.cell?_setCell_same _ _ _ b1, cell_set_other (.inr (by decide)) b2, cell_set_other (.inr (by decide)) b3⟩, by simpa using f0, by simpa using f1, by simpa using f2, by simpa using f3⟩
theorem Box4.put2 {w : World} {h : Nat} {v0 v1 v2 v3 : Value} (b : Box4 w h v0 v1 v2 v3) (u : Value) : Box4 (w.setCell ⟨h, 2, none⟩ u) h v0 v1 u v3 := by
 obtain ⟨⟨b0, b1, b2, b3⟩, f0, f1, f2, f3⟩ := b
 exact ⟨⟨cell_set_other (.inr (by decide)) b0, cell_set_other (.inr (by decide)) b1, World.cell?_setCell_same _ _ _ b2, cell_set_other (.inr (by decide)) b3⟩, by simpa using f0, by simpa using f1, by simpa using f2, by simpa using f3⟩
theorem Box4.put3 {w : World} {h : Nat} {v0 v1 v2 v3 : Value} (b : Box4 w h v0 v1 v2 v3) (u : Value) : Box4 (w.setCell ⟨h, 3, none⟩ u) h v0 v1 v2 u := by
 obtain ⟨⟨b0, b1, b2, b3⟩, f0, f1, f2, f3⟩ := b
 exact ⟨⟨cell_set_other (.inr (by decide)) b0, cell_set_other (.inr (by decide)) b1, cell_set_other (.inr (by decide)) b2, World.cell?_setCell_same _ _ _ b3⟩, by simpa using f0, by simpa using f1, by simpa using f2, by simpa using f3⟩
theorem Box4.put0 {w : World} {h : Nat} {v0 v1 v2 v3 : Value} (b : Box4 w h v0 v1 v2 v3) (u : Value) : Box4 (w.setCell ⟨h, 0, none⟩ u) h u v1 v2 v3 := by
 obtain ⟨⟨b0, b1, b2, b3⟩, f0, f1, f2, f3⟩ := b
 exact ⟨⟨World.cell?_setCell_same _ _ _ b0, cell_set_other (.inr (by decide)) b1, cell_set_other (.inr (by decide)) b2, cell_set_other (.inr (by decide)) b3⟩, by simpa using f0, by simpa using f1, by simpa using f2, by simpa using f3⟩
theorem Box4.puts {w : World} {h : Nat} {v0 v1 v2 v3 : Value} (b : Box4 w h v0 v1 v2 v3) (u0 u1 u2 u3 : Value) : Box4 ((((w.setCell ⟨h, 0, none⟩ u0).setCell ⟨h, 1, none⟩ u1).setCell ⟨h, 2, none⟩ u2).setCell ⟨h, 3, none⟩ u3) h u0 u1 u2 u3 :=
 (((b.put0 u0).put1 u1).put2 u2).put3 u3
theorem Box4.off {w : World} {h k i : Nat} {v0 v1 v2 v3 u : Value} (b : Box4 w h v0 v1 v2 v3) (hn : h ≠ k) : Box4 (w.setCell ⟨k, i, none⟩ u) h v0 v1 v2 v3 := by
 obtain ⟨⟨b0, b1, b2, b3⟩, f0, f1, f2, f3⟩ := b
 exact ⟨⟨cell_set_other (.inl hn) b0, cell_set_other (.inl hn) b1, cell_set_other (.inl hn) b2, cell_set_other (.inl hn) b3⟩, by simpa using f0, by simpa using f1, by simpa using f2, by simpa using f3⟩
theorem Box4.otherS {w : World} {h k : Nat} {v0 v1 v2 v3 : Value} (b : Box4 w h v0 v1 v2 v3) (hn : h ≠ k) (u0 u1 u2 u3 : Value) : Box4 ((((w.setCell ⟨k, 0, none⟩ u0).setCell ⟨k, 1, none⟩ u1).setCell ⟨k, 2, none⟩ u2).setCell ⟨k, 3, none⟩ u3) h v0 v1 v2 v3 :=
 (((b.off hn).off hn).off hn).off hn
theorem below_set4 {w w1 : World} {n h : Nat} {v0 v1 v2 v3 : Value} (hB : Below n w w1) (hh : n ≤ h) : Below n w ((((w1.setCell ⟨h, 0, none⟩ v0).setCell ⟨h, 1, none⟩ v1).setCell ⟨h, 2, none⟩ v2).setCell ⟨h, 3, none⟩ v3) :=
 (((hB.setCell (p := ⟨h, 0, none⟩) hh _).setCell (p := ⟨h, 1, none⟩) hh _).setCell (p := ⟨h, 2, none⟩) hh _).setCell (p := ⟨h, 3, none⟩) hh _
end Go.Proofs.YtaobfgplheoefaaGreat
namespace Go.Proofs.YtaobfgplheoefaaGreat
open Go.RowKit Plain
set_option maxHeartbeats 400000 in
theorem power_ok (k : Nat) (hk : k ≤ 6) (w : World) :
  Calls Tryz.prog 153 #[.int .i64 k] w fun e w' => e = .returned (.int .i64 (pw k)) ∧ w = w' := by
 go_enter Tryz.func153, Tryz.ntmps153
 go_wp2
 go_loop [3, 4] (fun p v => ∃ i : Nat, i ≤ k ∧ v = .int .i64 i ∧ p = .int .i64 (pw i)) (fun _ v => k - (intOf v).toNat)
 case atStart => exact ⟨0, by omega, rfl, by rw [pw_zero]⟩
 case round =>
  obtain ⟨i, hi, rfl, rfl⟩ := hrel
  have h1 := pw_pos i
  have h2 := pw_le i (by omega)
  by_cases hlt : i < k
  ·
   go_wp2
   go_round
   case rel => exact ⟨i + 1, by omega, by go_num, by rw [pw_succ]⟩
   case measure => simp [intOf]; omega
  ·
   go_wp2
   go_ret
   obtain rfl : i = k := by omega
   exact ⟨rfl, rfl⟩
theorem conv_own (w : World) (base g n cap : Nat) (l : List UInt8) (hl : l.length = n) (h : w.ownsRow base 5 1 (.slice (some ⟨g, 0, none⟩) n cap) n (l.map cellOf)) :
  (convert 116 9 (.slice (some ⟨g, 0, none⟩) n cap)).run Tryz.prog w = .ok (.string ⟨l.toArray⟩) w := by
 subst hl
 refine run_convert_bytes_back (P := Tryz.prog) _ 116 9 5 ⟨g, 0, none⟩ cap l Tryz.underlying116 Tryz.underlying5 Tryz.underlying9 fun j hj => ?_
 exact h.cells (g := g) rfl j _ (by simp [cellOf, hj])
set_option maxRecDepth 20000 in
set_option maxHeartbeats 400000 in
theorem refPut_ok (n : Int) (size : Nat) (w : World) (h0 : 0 ≤ n) (h1 : 1 ≤ size) (h6 : size ≤ 6) (hn : n < pw size) :
  Calls Tryz.prog 117 #[.int .i64 n, .int .i64 size] w fun e w' => e = .returned (.tuple #[.string ⟨(putL n size).toArray⟩, .int .i64 0]) ∧ Below w.heap.size w w' := by
 obtain ⟨i0, hi, hz0, hz1, hz2⟩ := info_parts Tryz.info5
 have hp6 := pw_le size h6
 have hb63 : n ≤ 281474976710656 := by omega
 have hn' : ¬ pw size ≤ n := by omega
 go_enter Tryz.func117, Tryz.ntmps117
 go_wp2_with (go_at_call 153; refine (power_ok _ (by omega) _).mono ?_; rintro e w' ⟨rfl, rfl⟩)
 go_loopw [6, 7] (fun b v wr => ∃ j : Nat, j ≤ size ∧ v = .int .i64 ((j : Int) - 1) ∧ wr.ownsRow w.heap.size 5 1 b (size - j) (((putL n size).take (size - j)).map cellOf) ∧ Below w.heap.size w wr) (fun _ v _ => (intOf v + 1).toNat)
 case atStart =>
  refine ⟨size, by omega, rfl, ?_, (Below.refl _ _).alloc (Nat.le_refl _) _⟩
  rw [Nat.sub_self]
  exact World.ownsRow_made _ _ 0 (Nat.le_refl _) (by decide) rfl
 case round =>
  obtain ⟨j, hj, rfl, hown, hbel⟩ := hrel
  by_cases hlt : 0 < j
  ·
   obtain ⟨i, rfl⟩ : ∃ i, j = i + 1 := ⟨j - 1, by omega⟩
   have ei : (((i + 1 : Nat) : Int) - 1) = (i : Int) := by omega
   rw [ei]
   have hp := pw_pos i
   have hbs := hbel.size
   have hq0 : 0 ≤ n / pw i := Int.ediv_nonneg h0 (by omega)
   go_wp2_with (first
    | (go_at_call 153; refine (power_ok _ (by omega) _).mono ?_; rintro e w' ⟨rfl, rfl⟩)
    | (at_builtin; refine wpList_append_own _ rfl _ _ 116 rfl w.heap.size 5 i0 (.int .u8 0) 1 1 Tryz.underlying116 hi hz0 hz1 hz2 rfl (by decide) _ _ _ rfl (hown.alloc _) ⟨wr.heap.size, 0, none⟩ 1 1 [.int .u8 (n / pw i % 256)] rfl rfl ?c1 ?c2 ?c3 ?c4 ?c5 ?_))
   case c1 =>
    intro j u hj
    match j, hj with
    | 0, hj => simp at hj; subst hj; simp [Addr.add]
   case c2 => intro u hu; simp at hu; subst hu; rfl
   case c3 => unfold maxLen; omega
   case c4 => omega
   case c5 => simp; omega
   ·
    intro v' w1 hown' hgrow _
    have R : w1.ownsRow w.heap.size 5 1 v' (size - i) (((putL n size).take (size - i)).map cellOf) := by
     have e1 : size - (i + 1) + 1 = size - i := by omega
     rw [e1] at hown'
     rw [putL_take n size i (by omega), List.map_append, List.map_take]
     simpa [cellOf, byteOf_pw] using hown'
    have R2 : Below w.heap.size w w1 := (hbel.alloc (by omega) _).grown hgrow (by simp; omega) (fun k hk => (hown.lt k hk).1)
    clear hown' hgrow hown
    go_wp2
    go_roundw
    case rel => exact ⟨i, by omega, rfl, R, R2⟩
    case measure => simp [intOf]
  ·
   obtain rfl : j = 0 := by omega
   rw [Nat.sub_zero] at hown
   rw [List.take_of_length_le (by rw [putL_length]; exact Nat.le_refl _)] at hown
   obtain ⟨g, cap, rfl, -, -⟩ := hown.form (by omega)
   have hcv := conv_own wr w.heap.size g size cap (putL n size) (putL_length n size) hown
   clear hown
   go_wp2
   go_ret2
   exact ⟨rfl, hbel⟩
set_option maxHeartbeats 400000 in
theorem refPut_bad (n k : Int) (w : World) (h : putBad n k) :
  Calls Tryz.prog 117 #[.int .i64 n, .int .i64 k] w fun e w' => e = .returned (.tuple #[.string ⟨#[]⟩, .int .i64 1]) ∧ w = w' := by
 by_cases h1 : k < 1
 ·
  go_enter Tryz.func117, Tryz.ntmps117
  go_wp2
  go_ret2
  exact ⟨rfl, rfl⟩
 ·
  by_cases h6 : 6 < k
  ·
   go_enter Tryz.func117, Tryz.ntmps117
   go_wp2
   go_ret2
   exact ⟨rfl, rfl⟩
  ·
   by_cases h0 : n < 0
   ·
    go_enter Tryz.func117, Tryz.ntmps117
    go_wp2
    go_ret2
    exact ⟨rfl, rfl⟩
   ·
    obtain ⟨size, rfl⟩ : ∃ size : Nat, k = size := ⟨k.toNat, by omega⟩
    have hb : pw size ≤ n := by
     rcases h with h | h | h | h
     ·
      omega
     ·
      omega
     ·
      omega
     ·
      simpa [pw] using h
    clear h
    go_enter Tryz.func117, Tryz.ntmps117
    go_wp2_with (go_at_call 153; refine (power_ok _ (by omega) _).mono ?_; rintro e w' ⟨rfl, rfl⟩)
    go_ret2
    exact ⟨rfl, rfl⟩
theorem refPut_any (n k : Int) (w : World) :
  Calls Tryz.prog 117 #[.int .i64 n, .int .i64 k] w fun e w' => e = .returned (.tuple #[.string (putS n k), .int .i64 (putE n k)]) ∧ Below w.heap.size w w' := by
 by_cases h : putOk n k = true
 ·
  rw [putS_ok h, putE_ok h]
  obtain ⟨h1, h6, h0, hn⟩ := (putOk_iff n k).1 h
  obtain ⟨size, rfl⟩ : ∃ size : Nat, k = size := ⟨k.toNat, by omega⟩
  exact refPut_ok n size w h0 (by omega) (by omega) (by simpa [pw] using hn)
 ·
  have h' : putOk n k = false := by simpa using h
  rw [putS_bad h', putE_bad h']
  exact (refPut_bad n k w (putBad_of h')).mono fun e w' ⟨he, hw⟩ => ⟨he, hw ▸ Below.refl _ _⟩
end Go.Proofs.YtaobfgplheoefaaGreat
namespace Go.Proofs.YtaobfgplheoefaaGreat
open Go.RowKit Plain
set_option linter.unusedVariables false
set_option maxHeartbeats 400000 in
theorem refTrim_any (s : ByteArray) (w : World) (hs : s.size ≤ maxLen) :
  Calls Tryz.prog 91 #[.string s] w fun e w' => e = .returned (.string (trimS s)) ∧ w = w' := by
 unfold maxLen at hs
 go_enter Tryz.func91, Tryz.ntmps91
 go_wp2
 go_loop [3] (fun v => ∃ k : Nat, k ≤ s.size ∧ v = .int .i64 k ∧ trimN s s.size = trimN s k) (fun v => (intOf v).toNat)
 case atStart => exact ⟨s.size, by omega, rfl, rfl⟩
 case round =>
  obtain ⟨k, hk, rfl, HT⟩ := hrel
  have HT' : Hid (trimN s s.size = trimN s k) := HT
  clear HT
  match k, hk, HT' with
  | 0, hk, HT' =>
   have e0 : Hid (trimS s = ByteArray.empty) := trimS_none s HT'.out
   go_wp2
   go_ret
   exact ⟨ret_str e0.out.symm, rfl⟩
  | k + 1, hk, HT' =>
   have ek : (((k + 1 : Nat) : Int)) = (k : Int) + 1 := by omega
   rw [ek]
   by_cases hz : s[k] = 0
   ·
    have ht : Hid (trimN s (k + 1) = trimN s k) := trimN_down s k (by omega) hz
    have hz' : ((s[k].toNat : Int) == 0) = true := by rw [hz]; rfl
    clear hz
    go_wp2
    go_round
    case rel => exact ⟨k, by omega, rfl, by rw [HT'.out, ht.out]⟩
    case measure => simp [intOf]
   ·
    have ht : Hid (trimN s (k + 1) = k + 1) := trimN_stay s k (by omega) hz
    have hz' : ((s[k].toNat : Int) == 0) = false := by
     have : s[k].toNat ≠ 0 := fun h => hz (UInt8.toNat_inj.1 h)
     simpa using this
    clear hz
    go_wp2
    go_ret
    exact ⟨ret_str (by rw [trimS, HT'.out, ht.out]), rfl⟩
set_option maxHeartbeats 400000 in
theorem refText_any (s : ByteArray) (w : World) (hs : s.size ≤ maxLen) :
  Calls Tryz.prog 118 #[.string s] w fun e w' => e = .returned (.tuple #[.string (textS s), .int .i64 (textE s)]) ∧ Below w.heap.size w w' := by
 unfold maxLen at hs
 have hB : Below w.heap.size w w := Below.refl _ _
 by_cases h : s.size ≤ 65535
 ·
  have h' : ¬ (65535 : Int) < s.size := by omega
  rw [textS, textE, if_pos h, if_pos h, cat_two]
  have hcv := conv_row w (putL s.size 2) 2 (putL_length _ _) 2
  rw [put_two s.size h] at hcv
  have hsum : ¬ 9223372036854775807 < (putL (s.size : Int) 2).length + s.size := by rw [putL_length]; omega
  go_enter Tryz.func118, Tryz.ntmps118
  go_wp2
  go_ret2
  exact ⟨rfl, hB.alloc (Nat.le_refl _) _⟩
 ·
  have h' : (65535 : Int) < s.size := by omega
  rw [textS, textE, if_neg h, if_neg h]
  go_enter Tryz.func118, Tryz.ntmps118
  go_wp2
  go_ret2
  exact ⟨rfl, hB⟩
set_option maxHeartbeats 400000 in
theorem trim_any (s : ByteArray) (w : World) (hs : s.size ≤ maxLen) :
  Calls Tryz.prog 114 #[.string s] w fun e w' => e = .returned (.string (trimS s)) ∧ w = w' := by
 unfold maxLen at hs
 go_enter Tryz.func114, Tryz.ntmps114
 go_wp2
 go_loop [3] (fun v => ∃ k : Nat, k ≤ s.size ∧ v = .int .i64 k ∧ trimN s s.size = trimN s k) (fun v => (intOf v).toNat)
 case atStart => exact ⟨s.size, by omega, rfl, rfl⟩
 case round =>
  obtain ⟨k, hk, rfl, HT⟩ := hrel
  have HT' : Hid (trimN s s.size = trimN s k) := HT
  clear HT
  match k, hk, HT' with
  | 0, hk, HT' =>
   have e0 : Hid (trimS s = ByteArray.empty) := trimS_none s HT'.out
   go_wp2
   go_ret
   exact ⟨ret_str e0.out.symm, rfl⟩
  | k + 1, hk, HT' =>
   have ek : (((k + 1 : Nat) : Int)) = (k : Int) + 1 := by omega
   rw [ek]
   by_cases hz : s[k] = 0
   ·
    have ht : Hid (trimN s (k + 1) = trimN s k) := trimN_down s k (by omega) hz
    have hz' : ((s[k].toNat : Int) == 0) = true := by rw [hz]; rfl
    clear hz
    go_wp2
    go_round
    case rel => exact ⟨k, by omega, rfl, by rw [HT'.out, ht.out]⟩
    case measure => simp [intOf]
   ·
    have ht : Hid (trimN s (k + 1) = k + 1) := trimN_stay s k (by omega) hz
    have hz' : ((s[k].toNat : Int) == 0) = false := by
     have : s[k].toNat ≠ 0 := fun h => hz (UInt8.toNat_inj.1 h)
     simpa using this
    clear hz
    go_wp2
    go_ret
    exact ⟨ret_str (by rw [trimS, HT'.out, ht.out]), rfl⟩
theorem repeat_any (c : Nat) (w : World) (h : c ≤ 4096) :
  Calls Tryz.prog 169 #[.string ⟨#[0]⟩, .int .i64 c] w fun e w' => e = .returned (.string (zeros c)) ∧ Below w.heap.size w w' := by
 have h := Tryz.strings_Repeat ⟨#[0]⟩ c w (by omega) (by show 1 * c ≤ _; omega)
 have e1 : (⟨(Lib.repeatL (⟨#[0]⟩ : ByteArray).data.toList c).toArray⟩ : ByteArray) = zeros c := by
  show (⟨(Lib.repeatL [0] c).toArray⟩ : ByteArray) = _
  rw [repeat_flat]; rfl
 rw [e1] at h
 exact h
set_option maxHeartbeats 400000 in
theorem pad_any (s : ByteArray) (k : Int) (w : World) (hs : s.size ≤ maxLen) :
  Calls Tryz.prog 156 #[.string s, .int .i64 k] w fun e w' => e = .returned (.tuple #[.string (padS s k), .int .i64 (padE s k)]) ∧ Below w.heap.size w w' := by
 unfold maxLen at hs
 have hB : Below w.heap.size w w := Below.refl _ _
 by_cases h : 0 ≤ k ∧ k ≤ 4096
 ·
  obtain ⟨h0, h1⟩ := h
  obtain ⟨m, rfl⟩ : ∃ m : Nat, k = m := ⟨k.toNat, by omega⟩
  have hk0 : ¬ (m : Int) < 0 := by omega
  have hk1 : ¬ (4096 : Int) < m := by omega
  by_cases hl : s.size ≤ m
  ·
   have hE : padE s m = 0 := by unfold padE; rw [if_pos ⟨h0, h1⟩, if_pos (by omega)]
   have hl' : ¬ m < s.size := by omega
   have ed : (m : Int) - (s.size : Int) = ((m - s.size : Nat) : Int) := by omega
   have hz : s.size + (zeros (m - s.size)).size ≤ 140737488355328 := by
    rw [zeros_size]; omega
   have hr := fun w => repeat_any (m - s.size) w (by omega)
   rw [padS, hE, if_pos rfl, ← cat_two]
   show Calls _ _ _ _ fun e w' => e = .returned (.tuple #[.string (cat [s, zeros (m - s.size)]), .int .i64 0]) ∧ _
   generalize m - s.size = d at ed hz hr
   clear hE
   go_enter Tryz.func156, Tryz.ntmps156
   go_wp2_with (first
    | (go_at_call 169; refine (hr _).mono ?_; rintro e w' ⟨rfl, hb⟩; replace hB := Below.tr hB hb; clear hb)
    | (go_at_call 111; refine (all_two _ _ _ hz).mono ?_; rintro e w' ⟨rfl, hb⟩; replace hB := Below.tr hB hb; clear hb))
   go_ret2
   exact ⟨rfl, hB⟩
  ·
   have hE : padE s m = 2 := by unfold padE; rw [if_pos ⟨h0, h1⟩, if_neg (by omega)]
   rw [padS, hE, if_neg (by decide)]
   have hl' : m < s.size := by omega
   clear hE
   go_enter Tryz.func156, Tryz.ntmps156
   go_wp2
   go_ret2
   exact ⟨rfl, hB⟩
 ·
  have hE : padE s k = 1 := by unfold padE; rw [if_neg h]
  rw [padS, hE, if_neg (by decide)]
  clear hE
  by_cases h0 : k < 0
  ·
   go_enter Tryz.func156, Tryz.ntmps156
   go_wp2
   go_ret2
   exact ⟨rfl, hB⟩
  ·
   have h1 : 4096 < k := by omega
   clear h
   go_enter Tryz.func156, Tryz.ntmps156
   go_wp2
   go_ret2
   exact ⟨rfl, hB⟩
def isKind (k : Int) : Bool := decide (1 ≤ k) && decide (k ≤ 5)
def isGen (g : Int) : Bool := decide (0 ≤ g) && decide (g ≤ 1099511627776)
theorem isKind_any (k : Int) (w : World) :
  Calls Tryz.prog 149 #[.int .i64 k] w fun e w' => e = .returned (.bool (isKind k)) ∧ w = w' := by
 by_cases h : 1 ≤ k
 ·
  go_enter Tryz.func149, Tryz.ntmps149
  go_wp2
  go_ret
  exact ⟨ret_bool (by simp [isKind, h]), rfl⟩
 ·
  go_enter Tryz.func149, Tryz.ntmps149
  go_wp2
  go_ret
  exact ⟨ret_bool (by rw [isKind, decide_eq_false (by omega)]; rfl), rfl⟩
theorem isGen_any (g : Int) (w : World) :
  Calls Tryz.prog 150 #[.int .i64 g] w fun e w' => e = .returned (.bool (isGen g)) ∧ w = w' := by
 by_cases h : 0 ≤ g
 ·
  go_enter Tryz.func150, Tryz.ntmps150
  go_wp2
  go_ret
  exact ⟨ret_bool (by simp [isGen, h]), rfl⟩
 ·
  go_enter Tryz.func150, Tryz.ntmps150
  go_wp2
  go_ret
  exact ⟨ret_bool (by rw [isGen, decide_eq_false (by omega)]; rfl), rfl⟩
theorem rightP_eq (k g : Int) (b : ByteArray) : rightP k g b = (isKind k && isGen g && decide ((b.size : Int) ≤ 4000)) := by
 rw [Bool.eq_iff_iff, rightP_iff]
 simp [isKind, isGen]
 omega
set_option maxHeartbeats 400000 in
theorem pageRight_any (k g : Int) (b : ByteArray) (w : World) (hs : b.size ≤ maxLen) :
  Calls Tryz.prog 112 #[.agg #[.int .i64 k, .int .i64 g, .string b]] w fun e w' => e = .returned (.bool (rightP k g b)) ∧ Below w.heap.size w w' := by
 unfold maxLen at hs
 have e := rightP_eq k g b
 obtain ⟨x, hx⟩ : ∃ x, x = isKind k := ⟨_, rfl⟩
 obtain ⟨y, hy⟩ : ∃ y, y = isGen g := ⟨_, rfl⟩
 have c1 : ∀ W, Calls Tryz.prog 149 #[.int .i64 k] W fun e w' => e = .returned (.bool x) ∧ W = w' := by rw [hx]; exact isKind_any k
 have c2 : ∀ W, Calls Tryz.prog 150 #[.int .i64 g] W fun e w' => e = .returned (.bool y) ∧ W = w' := by rw [hy]; exact isGen_any g
 rw [← hx, ← hy] at e
 clear hx hy
 have e' : Hid (rightP k g b = (x && y && decide ((b.size : Int) ≤ 4000))) := e
 clear e
 cases x
 ·
  go_enter Tryz.func112, Tryz.ntmps112
  go_wp2_with (go_at_call 149; refine (c1 _).mono ?_; rintro e w' ⟨rfl, rfl⟩)
  go_ret
  exact ⟨ret_bool e'.out.symm, (Below.refl _ _).alloc (Nat.le_refl _) _⟩
 ·
  cases y
  ·
   go_enter Tryz.func112, Tryz.ntmps112
   go_wp2_with (first
    | (go_at_call 149; refine (c1 _).mono ?_; rintro e w' ⟨rfl, rfl⟩)
    | (go_at_call 150; refine (c2 _).mono ?_; rintro e w' ⟨rfl, rfl⟩))
   go_ret
   exact ⟨ret_bool e'.out.symm, (Below.refl _ _).alloc (Nat.le_refl _) _⟩
  ·
   go_enter Tryz.func112, Tryz.ntmps112
   go_wp2_with (first
    | (go_at_call 149; refine (c1 _).mono ?_; rintro e w' ⟨rfl, rfl⟩)
    | (go_at_call 150; refine (c2 _).mono ?_; rintro e w' ⟨rfl, rfl⟩))
   go_ret
   exact ⟨ret_bool e'.out.symm, (Below.refl _ _).alloc (Nat.le_refl _) _⟩
theorem box3_cells {w w' : World} {v0 v1 v2 : Value} {t : TypeId} (hb : Below (w.alloc (.cells #[v0, v1, v2] t)).heap.size (w.alloc (.cells #[v0, v1, v2] t)) w') :
  w'.cell? ⟨w.heap.size, 0, none⟩ = some v0 ∧ w'.cell? ⟨w.heap.size, 1, none⟩ = some v1 ∧ w'.cell? ⟨w.heap.size, 2, none⟩ = some v2 :=
 ((box3_new w v0 v1 v2 t).below hb).1
theorem box3_from {w w1 w' : World} {v0 v1 v2 : Value} (q0 : w1.cell? ⟨w.heap.size, 0, none⟩ = some v0) (q1 : w1.cell? ⟨w.heap.size, 1, none⟩ = some v1) (q2 : w1.cell? ⟨w.heap.size, 2, none⟩ = some v2)
  (hb : Below w1.heap.size w1 w') : w'.cell? ⟨w.heap.size, 0, none⟩ = some v0 ∧ w'.cell? ⟨w.heap.size, 1, none⟩ = some v1 ∧ w'.cell? ⟨w.heap.size, 2, none⟩ = some v2 :=
 ⟨cell_below hb q0, cell_below hb q1, cell_below hb q2⟩
theorem below_box {w w' : World} {o : Obj} (hb : Below (w.alloc o).heap.size (w.alloc o) w') : Below w.heap.size w w' :=
 ((Below.refl _ _).alloc (Nat.le_refl _) _).trans (hb.mono (by simp))
set_option maxHeartbeats 1000000 in
theorem pagePut_any (k g : Int) (b : ByteArray) (w : World) (hs : b.size ≤ maxLen) :
  Calls Tryz.prog 66 #[.agg #[.int .i64 k, .int .i64 g, .string b]] w fun e w' => e = .returned (.tuple #[.string (pageS k g b), .int .i64 (pageE k g b)]) ∧ Below w.heap.size w w' := by
 have c0 := fun W => pageRight_any k g b W hs
 by_cases h : rightP k g b = true
 ·
  obtain ⟨h1, h5, h0, hg, hb4⟩ := (rightP_iff _ _ _).1 h
  have eS := pageS_ok h
  have eE : pageE k g b = 0 := by rw [pageE, if_pos h]
  have hz1 := putS_size (kind_ok h1 h5)
  have hz2 := putS_size (gen_ok h0 hg)
  have hz3 := textS_size (s := b) (by omega)
  have hhz := headP_size h
  obtain ⟨x, hx⟩ : ∃ x, x = putS k 1 := ⟨_, rfl⟩
  obtain ⟨y, hy⟩ : ∃ y, y = putS g 6 := ⟨_, rfl⟩
  obtain ⟨z, hz⟩ : ∃ z, z = textS b := ⟨_, rfl⟩
  obtain ⟨t, ht⟩ : ∃ t, t = headP k g b := ⟨_, rfl⟩
  obtain ⟨u, hu⟩ : ∃ u, u = sealS t := ⟨_, rfl⟩
  have hcat : cat [x, y, z] = t := by rw [ht, hx, hy, hz]; rfl
  have hus : u.size ≤ maxLen := by rw [hu, sealS_size, ht, hhz]; unfold maxLen; omega
  have hts : t.size ≤ 1000000 := by rw [ht, hhz]; omega
  have c1 : ∀ W, Calls Tryz.prog 110 #[.int .i64 k, .int .i64 1] W fun e w' => ∃ v, e = .returned (.tuple #[.string x, .int .i64 v]) ∧ Below W.heap.size W w' := by
   intro W; rw [hx]; exact (put_any k 1 W).mono fun e w' ⟨he, hb⟩ => ⟨_, he, hb⟩
  have c2 : ∀ W, Calls Tryz.prog 110 #[.int .i64 g, .int .i64 6] W fun e w' => ∃ v, e = .returned (.tuple #[.string y, .int .i64 v]) ∧ Below W.heap.size W w' := by
   intro W; rw [hy]; exact (put_any g 6 W).mono fun e w' ⟨he, hb⟩ => ⟨_, he, hb⟩
  have c3 : ∀ W, Calls Tryz.prog 113 #[.string b] W fun e w' => ∃ v, e = .returned (.tuple #[.string z, .int .i64 v]) ∧ Below W.heap.size W w' := by
   intro W; rw [hz]; exact (text_any b W hs).mono fun e w' ⟨he, hb⟩ => ⟨_, he, hb⟩
  have c4 : ∀ W : World, Calls Tryz.prog 111 #[.slice (some ⟨W.heap.size, 0, none⟩) 3 3] (W.alloc (.cells #[.string x, .string y, .string z] 9)) fun e w' => e = .returned (.string t) ∧ Below W.heap.size W w' := by
   intro W
   have := all_three x y z W (by rw [hx, hy, hz]; omega)
   rwa [hcat] at this
  have c5 : ∀ W, Calls Tryz.prog 115 #[.string t] W fun e w' => e = .returned (.string u) ∧ Below W.heap.size W w' := by
   intro W; rw [hu]; exact seal_ok t W hts
  have c6 : ∀ W, Calls Tryz.prog 114 #[.string u] W fun e w' => e = .returned (.string (pageS k g b)) ∧ W = w' := by
   intro W
   have := trim_any u W hus
   rwa [hu, ht, ← eS, ← ht, ← hu] at this
  rw [eE]
  rw [h] at c0
  obtain ⟨r, hr⟩ : ∃ r, r = pageS k g b := ⟨_, rfl⟩
  rw [← hr] at c6 ⊢
  have tok1 : True := trivial
  clear h1 h5 h0 hg hb4 eS eE hz1 hz2 hz3 hhz hcat hus hts hx hy hz ht hu hr h
  go_enter Tryz.func66, Tryz.ntmps66
  go_wp2_with (first
   | (go_at_call 112; refine (c0 _).mono ?_; rintro e w1 ⟨rfl, hb⟩; obtain ⟨q0, q1, q2⟩ := box3_cells hb; have hB := below_box hb; clear hb c0)
   | (go_at_call 110; have _t := tok1; refine (c1 _).mono ?_; rintro e w2 ⟨v1, rfl, hb⟩; obtain ⟨q0, q1, q2⟩ := box3_from q0 q1 q2 hb; replace hB := Below.tr hB hb; clear hb tok1)
   | (go_at_call 110; refine (c2 _).mono ?_; rintro e w3 ⟨v2, rfl, hb⟩; obtain ⟨q0, q1, q2⟩ := box3_from q0 q1 q2 hb; replace hB := Below.tr hB hb; clear hb)
   | (go_at_call 113; refine (c3 _).mono ?_; rintro e w4 ⟨v3, rfl, hb⟩; replace hB := Below.tr hB hb; clear hb)
   | (go_at_call 111; refine (c4 _).mono ?_; rintro e w5 ⟨rfl, hb⟩; replace hB := Below.tr hB hb; clear hb)
   | (go_at_call 115; refine (c5 _).mono ?_; rintro e w6 ⟨rfl, hb⟩; replace hB := Below.tr hB hb; clear hb)
   | (go_at_call 114; refine (c6 _).mono ?_; rintro e w7 ⟨rfl, rfl⟩))
  go_ret2
  exact ⟨rfl, hB⟩
 ·
  have h' : rightP k g b = false := by simpa using h
  rw [pageS_bad h', pageE, if_neg h]
  rw [h'] at c0
  go_enter Tryz.func66, Tryz.ntmps66
  go_wp2_with (go_at_call 112; refine (c0 _).mono ?_; rintro e w1 ⟨rfl, hb⟩)
  go_ret2
  exact ⟨rfl, below_box hb⟩
set_option maxHeartbeats 1000000 in
theorem refPagePut_any (k g : Int) (b : ByteArray) (w : World) (h : rightP k g b = true) :
  Calls Tryz.prog 68 #[.agg #[.int .i64 k, .int .i64 g, .string b]] w fun e w' => e = .returned (.string (pageS k g b)) ∧ Below w.heap.size w w' := by
 obtain ⟨h1, h5, h0, hg, hb4⟩ := (rightP_iff _ _ _).1 h
 have eS := pageS_ok h
 have hz1 := putS_size (kind_ok h1 h5)
 have hz2 := putS_size (gen_ok h0 hg)
 have hz3 := textS_size (s := b) (by omega)
 have hhz := headP_size h
 obtain ⟨x, hx⟩ : ∃ x, x = putS k 1 := ⟨_, rfl⟩
 obtain ⟨y, hy⟩ : ∃ y, y = putS g 6 := ⟨_, rfl⟩
 obtain ⟨z, hz⟩ : ∃ z, z = textS b := ⟨_, rfl⟩
 have hcat : x ++ y ++ z = headP k g b := by
  rw [hx, hy, hz, headP]
  apply bytes_ext
  rw [data_append, data_append, cat_data]
  simp
 obtain ⟨u, hu⟩ : ∃ u, u = sealS (x ++ y ++ z) := ⟨_, rfl⟩
 have hus : u.size ≤ maxLen := by rw [hu, hcat, sealS_size, hhz]; unfold maxLen; omega
 have hts : (x ++ y ++ z).size ≤ 1000000 := by rw [hcat, hhz]; omega
 have c1 : ∀ W, Calls Tryz.prog 117 #[.int .i64 k, .int .i64 1] W fun e w' => ∃ v, e = .returned (.tuple #[.string x, .int .i64 v]) ∧ Below W.heap.size W w' := by
  intro W; rw [hx]; exact (refPut_any k 1 W).mono fun e w' ⟨he, hb⟩ => ⟨_, he, hb⟩
 have c2 : ∀ W, Calls Tryz.prog 117 #[.int .i64 g, .int .i64 6] W fun e w' => ∃ v, e = .returned (.tuple #[.string y, .int .i64 v]) ∧ Below W.heap.size W w' := by
  intro W; rw [hy]; exact (refPut_any g 6 W).mono fun e w' ⟨he, hb⟩ => ⟨_, he, hb⟩
 have c3 : ∀ W, Calls Tryz.prog 118 #[.string b] W fun e w' => ∃ v, e = .returned (.tuple #[.string z, .int .i64 v]) ∧ Below W.heap.size W w' := by
  intro W; rw [hz]; exact (refText_any b W (by unfold maxLen; omega)).mono fun e w' ⟨he, hb⟩ => ⟨_, he, hb⟩
 have c5 : ∀ W, Calls Tryz.prog 119 #[.string (x ++ y ++ z)] W fun e w' => e = .returned (.string u) ∧ Below W.heap.size W w' := by
  intro W; rw [hu]; exact refSeal_ok _ W hts
 have c6 : ∀ W, Calls Tryz.prog 91 #[.string u] W fun e w' => e = .returned (.string (pageS k g b)) ∧ W = w' := by
  intro W
  have := refTrim_any u W hus
  rwa [hu, hcat, ← eS, ← hcat, ← hu] at this
 have zx : x.size ≤ 1 := by rw [hx]; omega
 have zy : y.size ≤ 6 := by rw [hy]; omega
 have zz : z.size ≤ 4002 := by rw [hz]; omega
 obtain ⟨r, hr⟩ : ∃ r, r = pageS k g b := ⟨_, rfl⟩
 rw [← hr] at c6 ⊢
 have hB : Below w.heap.size w w := Below.refl _ _
 have tok1 : True := trivial
 clear h1 h5 h0 hg hb4 eS hz1 hz2 hz3 hhz hcat hus hts hx hy hz hu hr h
 go_enter Tryz.func68, Tryz.ntmps68
 go_wp2_with (first
  | (go_at_call 117; have _t := tok1; refine (c1 _).mono ?_; rintro e w2 ⟨v1, rfl, hb⟩; obtain ⟨q0, q1, q2⟩ := box3_cells hb; replace hB := below_box hb; clear hb tok1)
  | (go_at_call 117; refine (c2 _).mono ?_; rintro e w3 ⟨v2, rfl, hb⟩; obtain ⟨q0, q1, q2⟩ := box3_from q0 q1 q2 hb; replace hB := Below.tr hB hb; clear hb)
  | (go_at_call 118; refine (c3 _).mono ?_; rintro e w4 ⟨v3, rfl, hb⟩; replace hB := Below.tr hB hb; clear hb)
  | (go_at_call 119; refine (c5 _).mono ?_; rintro e w6 ⟨rfl, hb⟩; replace hB := Below.tr hB hb; clear hb)
  | (go_at_call 91; refine (c6 _).mono ?_; rintro e w7 ⟨rfl, rfl⟩))
 go_ret
 exact ⟨rfl, hB⟩
def isGenS (g : Int) : Bool := decide (1 ≤ g) && decide (g ≤ 1099511627776)
def isSizeS (z : Int) : Bool := decide (24 ≤ z) && decide (z ≤ 2048)
def isBlockS (b z : Int) : Bool := decide (10 ≤ b) && decide (b < z)
theorem isGenS_any (g : Int) (w : World) :
  Calls Tryz.prog 102 #[.int .i64 g] w fun e w' => e = .returned (.bool (isGenS g)) ∧ w = w' := by
 by_cases h : 1 ≤ g
 ·
  go_enter Tryz.func102, Tryz.ntmps102
  go_wp2
  go_ret
  exact ⟨ret_bool (by simp [isGenS, h]), rfl⟩
 ·
  go_enter Tryz.func102, Tryz.ntmps102
  go_wp2
  go_ret
  exact ⟨ret_bool (by rw [isGenS, decide_eq_false (by omega)]; rfl), rfl⟩
theorem isSizeS_any (g : Int) (w : World) :
  Calls Tryz.prog 103 #[.int .i64 g] w fun e w' => e = .returned (.bool (isSizeS g)) ∧ w = w' := by
 by_cases h : 24 ≤ g
 ·
  go_enter Tryz.func103, Tryz.ntmps103
  go_wp2
  go_ret
  exact ⟨ret_bool (by simp [isSizeS, h]), rfl⟩
 ·
  go_enter Tryz.func103, Tryz.ntmps103
  go_wp2
  go_ret
  exact ⟨ret_bool (by rw [isSizeS, decide_eq_false (by omega)]; rfl), rfl⟩
theorem isBlockS_any (b z : Int) (w : World) :
  Calls Tryz.prog 104 #[.int .i64 b, .int .i64 z] w fun e w' => e = .returned (.bool (isBlockS b z)) ∧ w = w' := by
 by_cases h : 10 ≤ b
 ·
  go_enter Tryz.func104, Tryz.ntmps104
  go_wp2
  go_ret
  exact ⟨ret_bool (by simp [isBlockS, h]), rfl⟩
 ·
  go_enter Tryz.func104, Tryz.ntmps104
  go_wp2
  go_ret
  exact ⟨ret_bool (by rw [isBlockS, decide_eq_false (by omega)]; rfl), rfl⟩
theorem rightSu_eq (g r m z : Int) : rightSu g r m z = (isGenS g && isSizeS z && (decide (r = 0) || isBlockS r z) && isBlockS m z && !decide (m = r)) := by
 rw [Bool.eq_iff_iff, rightSu_iff]
 simp [isGenS, isSizeS, isBlockS]
 omega
set_option maxHeartbeats 2000000 in
theorem suRight_any (g r m z : Int) (w : World) :
  Calls Tryz.prog 55 #[.agg #[.int .i64 g, .int .i64 r, .int .i64 m, .int .i64 z]] w fun e w' => e = .returned (.bool (rightSu g r m z)) ∧ Below w.heap.size w w' := by
 have e := rightSu_eq g r m z
 obtain ⟨x, hx⟩ : ∃ x, x = isGenS g := ⟨_, rfl⟩
 obtain ⟨y, hy⟩ : ∃ x, x = isSizeS z := ⟨_, rfl⟩
 obtain ⟨u, hu⟩ : ∃ x, x = isBlockS r z := ⟨_, rfl⟩
 obtain ⟨v, hv⟩ : ∃ x, x = isBlockS m z := ⟨_, rfl⟩
 have c1 : ∀ W, Calls Tryz.prog 102 #[.int .i64 g] W fun e w' => e = .returned (.bool x) ∧ W = w' := by rw [hx]; exact isGenS_any g
 have c2 : ∀ W, Calls Tryz.prog 103 #[.int .i64 z] W fun e w' => e = .returned (.bool y) ∧ W = w' := by rw [hy]; exact isSizeS_any z
 have c3 : ∀ W, Calls Tryz.prog 104 #[.int .i64 r, .int .i64 z] W fun e w' => e = .returned (.bool u) ∧ W = w' := by rw [hu]; exact isBlockS_any r z
 have c4 : ∀ W, Calls Tryz.prog 104 #[.int .i64 m, .int .i64 z] W fun e w' => e = .returned (.bool v) ∧ W = w' := by rw [hv]; exact isBlockS_any m z
 rw [← hx, ← hy, ← hu, ← hv] at e
 clear hx hy hu hv
 obtain ⟨q, hq⟩ : ∃ q, q = rightSu g r m z := ⟨_, rfl⟩
 rw [← hq] at e ⊢
 clear hq
 cases x
 ·
  obtain rfl : q = false := by simpa using e
  clear e
  go_enter Tryz.func55, Tryz.ntmps55
  go_wp2_with (go_at_call 102; refine (c1 _).mono ?_; rintro e w' ⟨rfl, rfl⟩)
  go_ret
  exact ⟨rfl, (Below.refl _ _).alloc (Nat.le_refl _) _⟩
 cases y
 ·
  obtain rfl : q = false := by simpa using e
  clear e
  go_enter Tryz.func55, Tryz.ntmps55
  go_wp2_with (first
   | (go_at_call 102; refine (c1 _).mono ?_; rintro e w' ⟨rfl, rfl⟩)
   | (go_at_call 103; refine (c2 _).mono ?_; rintro e w' ⟨rfl, rfl⟩))
  go_ret
  exact ⟨rfl, (Below.refl _ _).alloc (Nat.le_refl _) _⟩
 have tok1 : True := trivial
 by_cases hr : r = 0
 ·
  subst hr
  by_cases hm : m = 0
  ·
   subst hm
   obtain rfl : q = false := by simpa using e
   clear e
   cases v
   all_goals
    go_enter Tryz.func55, Tryz.ntmps55
    go_wp2_with (first
     | (go_at_call 102; refine (c1 _).mono ?_; rintro e w' ⟨rfl, rfl⟩)
     | (go_at_call 103; refine (c2 _).mono ?_; rintro e w' ⟨rfl, rfl⟩)
     | (go_at_call 104; refine (c4 _).mono ?_; rintro e w' ⟨rfl, rfl⟩))
    go_ret
    exact ⟨ret_bool (by simp), (Below.refl _ _).alloc (Nat.le_refl _) _⟩
  ·
   obtain rfl : q = v := by simpa [hm] using e
   clear e
   have hm' : (m == 0) = false := by simpa using hm
   cases q
   all_goals
    go_enter Tryz.func55, Tryz.ntmps55
    go_wp2_with (first
     | (go_at_call 102; refine (c1 _).mono ?_; rintro e w' ⟨rfl, rfl⟩)
     | (go_at_call 103; refine (c2 _).mono ?_; rintro e w' ⟨rfl, rfl⟩)
     | (go_at_call 104; refine (c4 _).mono ?_; rintro e w' ⟨rfl, rfl⟩))
    go_ret
    exact ⟨ret_bool (by simp <;> exact hm), (Below.refl _ _).alloc (Nat.le_refl _) _⟩
 ·
  have hr' : (r == 0) = false := by simpa using hr
  cases u
  ·
   obtain rfl : q = false := by simpa [hr] using e
   clear e
   go_enter Tryz.func55, Tryz.ntmps55
   go_wp2_with (first
    | (go_at_call 102; refine (c1 _).mono ?_; rintro e w' ⟨rfl, rfl⟩)
    | (go_at_call 103; refine (c2 _).mono ?_; rintro e w' ⟨rfl, rfl⟩)
    | (go_at_call 104; refine (c3 _).mono ?_; rintro e w' ⟨rfl, rfl⟩))
   go_ret
   exact ⟨rfl, (Below.refl _ _).alloc (Nat.le_refl _) _⟩
  ·
   by_cases hm : m = r
   ·
    subst hm
    obtain rfl : q = false := by simpa using e
    clear e
    cases v
    all_goals
     go_enter Tryz.func55, Tryz.ntmps55
     go_wp2_with (first
      | (go_at_call 102; refine (c1 _).mono ?_; rintro e w' ⟨rfl, rfl⟩)
      | (go_at_call 103; refine (c2 _).mono ?_; rintro e w' ⟨rfl, rfl⟩)
      | (go_at_call 104; have _t := tok1; refine (c3 _).mono ?_; rintro e w' ⟨rfl, rfl⟩; clear tok1)
      | (go_at_call 104; refine (c4 _).mono ?_; rintro e w' ⟨rfl, rfl⟩))
     go_ret
     exact ⟨ret_bool (by simp), (Below.refl _ _).alloc (Nat.le_refl _) _⟩
   ·
    obtain rfl : q = v := by simpa [hm, hr] using e
    clear e
    have hm' : (m == r) = false := by simpa using hm
    cases q
    all_goals
     go_enter Tryz.func55, Tryz.ntmps55
     go_wp2_with (first
      | (go_at_call 102; refine (c1 _).mono ?_; rintro e w' ⟨rfl, rfl⟩)
      | (go_at_call 103; refine (c2 _).mono ?_; rintro e w' ⟨rfl, rfl⟩)
      | (go_at_call 104; have _t := tok1; refine (c3 _).mono ?_; rintro e w' ⟨rfl, rfl⟩; clear tok1)
      | (go_at_call 104; refine (c4 _).mono ?_; rintro e w' ⟨rfl, rfl⟩))
     go_ret
     exact ⟨ret_bool (by simp <;> exact hm), (Below.refl _ _).alloc (Nat.le_refl _) _⟩
theorem box4_cells {w w' : World} {v0 v1 v2 v3 : Value} {t : TypeId} (hb : Below (w.alloc (.cells #[v0, v1, v2, v3] t)).heap.size (w.alloc (.cells #[v0, v1, v2, v3] t)) w') : Box4 w' w.heap.size v0 v1 v2 v3 :=
 (box4_new w v0 v1 v2 v3 t rfl).below hb
set_option maxHeartbeats 1000000 in
theorem suPut_any (g r m z : Int) (w : World) :
  Calls Tryz.prog 65 #[.agg #[.int .i64 g, .int .i64 r, .int .i64 m, .int .i64 z]] w fun e w' => e = .returned (.tuple #[.string (suS g r m z), .int .i64 (suP g r m z)]) ∧ Below w.heap.size w w' := by
 have c0 := fun W => suRight_any g r m z W
 by_cases h : rightSu g r m z = true
 ·
  obtain ⟨⟨r0, r1⟩, ⟨m0, m1⟩, z0, z1⟩ := rightSu_small h
  have eS : suS g r m z = pageS 4 g (bodySu r m z) := by rw [suS, if_pos h]
  have eE : suP g r m z = 0 := by rw [suP, if_pos h]
  have hz1 := putS_size (small_ok r0 r1)
  have hz2 := putS_size (small_ok m0 m1)
  have hz3 := putS_size (small_ok z0 z1)
  have hR := bodySu_page h
  have hbz := bodySu_size h
  obtain ⟨x, hx⟩ : ∃ x, x = putS r 2 := ⟨_, rfl⟩
  obtain ⟨y, hy⟩ : ∃ y, y = putS m 2 := ⟨_, rfl⟩
  obtain ⟨v, hv⟩ : ∃ z', z' = putS z 2 := ⟨_, rfl⟩
  obtain ⟨t, ht⟩ : ∃ t, t = bodySu r m z := ⟨_, rfl⟩
  have hcat : cat [x, y, v] = t := by rw [ht, hx, hy, hv]; rfl
  have c1 : ∀ W, Calls Tryz.prog 110 #[.int .i64 r, .int .i64 2] W fun e w' => ∃ v, e = .returned (.tuple #[.string x, .int .i64 v]) ∧ Below W.heap.size W w' := by
   intro W; rw [hx]; exact (put_any r 2 W).mono fun e w' ⟨he, hb⟩ => ⟨_, he, hb⟩
  have c2 : ∀ W, Calls Tryz.prog 110 #[.int .i64 m, .int .i64 2] W fun e w' => ∃ v, e = .returned (.tuple #[.string y, .int .i64 v]) ∧ Below W.heap.size W w' := by
   intro W; rw [hy]; exact (put_any m 2 W).mono fun e w' ⟨he, hb⟩ => ⟨_, he, hb⟩
  have c3 : ∀ W, Calls Tryz.prog 110 #[.int .i64 z, .int .i64 2] W fun e w' => ∃ u, e = .returned (.tuple #[.string v, .int .i64 u]) ∧ Below W.heap.size W w' := by
   intro W; rw [hv]; exact (put_any z 2 W).mono fun e w' ⟨he, hb⟩ => ⟨_, he, hb⟩
  have c4 : ∀ W : World, Calls Tryz.prog 111 #[.slice (some ⟨W.heap.size, 0, none⟩) 3 3] (W.alloc (.cells #[.string x, .string y, .string v] 9)) fun e w' => e = .returned (.string t) ∧ Below W.heap.size W w' := by
   intro W
   have := all_three x y v W (by rw [hx, hy, hv]; omega)
   rwa [hcat] at this
  have c5 : ∀ W, Calls Tryz.prog 66 #[.agg #[.int .i64 4, .int .i64 g, .string t]] W fun e w' => e = .returned (.tuple #[.string (suS g r m z), .int .i64 0]) ∧ Below W.heap.size W w' := by
   intro W
   have := pagePut_any 4 g t W (by rw [ht, hbz]; decide)
   rw [ht, ← eS, show pageE 4 g (bodySu r m z) = 0 by rw [pageE, if_pos hR]] at this
   rw [ht]; exact this
  rw [eE]
  rw [h] at c0
  obtain ⟨q, hq⟩ : ∃ q, q = suS g r m z := ⟨_, rfl⟩
  rw [← hq] at c5 ⊢
  have tok1 : True := trivial
  have tok2 : True := trivial
  clear r0 r1 m0 m1 z0 z1 eS eE hz1 hz2 hz3 hR hbz hcat hx hy hv ht hq h
  go_enter Tryz.func65, Tryz.ntmps65
  go_wp2_with (first
   | (go_at_call 55; refine (c0 _).mono ?_; rintro e w1 ⟨rfl, hb⟩; have Q := box4_cells hb; obtain ⟨⟨q0, q1, q2, q3⟩, -⟩ := id Q; have hB := below_box hb; clear hb c0)
   | (go_at_call 110; have _t := tok1; refine (c1 _).mono ?_; rintro e w2 ⟨v1, rfl, hb⟩; replace Q := Q.below hb; obtain ⟨⟨q0, q1, q2, q3⟩, -⟩ := id Q; replace hB := Below.tr hB hb; clear hb tok1)
   | (go_at_call 110; have _t := tok2; refine (c2 _).mono ?_; rintro e w3 ⟨v2, rfl, hb⟩; replace Q := Q.below hb; obtain ⟨⟨q0, q1, q2, q3⟩, -⟩ := id Q; replace hB := Below.tr hB hb; clear hb tok2)
   | (go_at_call 110; refine (c3 _).mono ?_; rintro e w4 ⟨v3, rfl, hb⟩; replace Q := Q.below hb; obtain ⟨⟨q0, q1, q2, q3⟩, -⟩ := id Q; replace hB := Below.tr hB hb; clear hb))
  replace Q := Q.drew
  replace hB := hB.drew
  clear q0 q1 q2 q3
  have c4' : ∀ W : World, Calls Tryz.prog 111 #[.slice (some ⟨W.heap.size, 0, none⟩) 3 3] (W.alloc (.cells #[.string x, .string y, .string v] 9)).drew fun e w' => e = .returned (.string t) ∧ Below W.drew.heap.size W.drew w' := fun W => c4 W.drew
  clear c4
  go_region_held3 (fun V => V.cell? ⟨w.heap.size, 0, none⟩ = some (.int .i64 g)) (first | exact Q.1.1 | exact (Q.alloc _).1.1) (first
   | (go_at_call 111; refine (c4' _).mono ?_; rintro e w5 ⟨rfl, hb⟩; replace hB := Below.tr hB hb; replace Q := Q.below hb; clear hb)
   | (go_at_call 66; refine (c5 _).mono ?_; rintro e w6 ⟨rfl, hb⟩; replace hB := Below.tr hB hb; replace Q := Q.below hb; clear hb))
  go_wp2
  go_ret2
  exact ⟨rfl, hB⟩
 ·
  have h' : rightSu g r m z = false := by simpa using h
  rw [show suS g r m z = ⟨#[]⟩ by rw [suS, if_neg h], show suP g r m z = 1 by rw [suP, if_neg h]]
  rw [h'] at c0
  go_enter Tryz.func65, Tryz.ntmps65
  go_wp2_with (go_at_call 55; refine (c0 _).mono ?_; rintro e w1 ⟨rfl, hb⟩)
  go_ret2
  exact ⟨rfl, below_box hb⟩
set_option maxHeartbeats 400000 in
theorem get_ok (s : ByteArray) (p k : Nat) (w : World) (hs : s.size ≤ maxLen) (h1 : 1 ≤ k) (h6 : k ≤ 6) (hp : p + k ≤ s.size) :
  Calls Tryz.prog 131 #[.string s, .int .i64 p, .int .i64 k] w fun e w' => e = .returned (.tuple #[.int .i64 (getV s p k), .int .i64 (p + k), .int .i64 0]) ∧ w = w' := by
 unfold maxLen at hs
 have hsp : ¬ s.size < p := by omega
 have hp0 : ¬ (p : Int) < 0 := by omega
 have hk1 : 1 ≤ (k : Int) := by omega
 have hk6 : (k : Int) ≤ 6 := by omega
 have hle : ¬ (s.size : Int) - (p : Int) < (k : Int) := by omega
 go_enter Tryz.func131, Tryz.ntmps131
 go_wp2
 go_loop [9, 31] (fun n v => ∃ i : Nat, i ≤ k ∧ v = .int .i64 i ∧ n = .int .i64 (getV s p i)) (fun _ v => k - (intOf v).toNat)
 case atStart => exact ⟨0, by omega, rfl, rfl⟩
 case round =>
  obtain ⟨i, hi, rfl, rfl⟩ := hrel
  obtain ⟨g0, g1⟩ := getV_bd s p i
  have g2 := pw_le i (by omega)
  by_cases hlt : i < k
  ·
   have HS : Hid (getV s p (i + 1) = getV s p i * 256 + (s[p + i].toNat : Int)) := getV_succ s p i (by omega)
   have ho := or_byte (getV s p i) s[p + i] g0 (by omega)
   go_wp2
   go_round
   case rel => exact ⟨i + 1, by omega, by go_num, by rw [HS.out]⟩
   case measure => simp [intOf]; omega
  ·
   obtain rfl : i = k := by omega
   go_wp2
   go_ret3
   exact ⟨rfl, rfl⟩
set_option maxHeartbeats 1000000 in
theorem get_arg (s : ByteArray) (p k : Int) (w : World) (hs : s.size ≤ maxLen) (h : ¬ (1 ≤ k ∧ k ≤ 6 ∧ 0 ≤ p ∧ p ≤ s.size)) :
  Calls Tryz.prog 131 #[.string s, .int .i64 p, .int .i64 k] w fun e w' => e = .returned (.tuple #[.int .i64 0, .int .i64 0, .int .i64 1]) ∧ w = w' := by
 unfold maxLen at hs
 by_cases h1 : 1 ≤ k
 ·
  by_cases h6 : k ≤ 6
  ·
   by_cases h0 : p < 0
   ·
    clear h
    go_enter Tryz.func131, Tryz.ntmps131
    go_wp2
    go_ret3
    exact ⟨rfl, rfl⟩
   ·
    obtain ⟨q, rfl⟩ : ∃ q : Nat, p = q := ⟨p.toNat, by omega⟩
    have hq : s.size < q := by omega
    clear h
    go_enter Tryz.func131, Tryz.ntmps131
    go_wp2
    go_ret3
    exact ⟨rfl, rfl⟩
  ·
   clear h
   go_enter Tryz.func131, Tryz.ntmps131
   go_wp2
   go_ret3
   exact ⟨rfl, rfl⟩
 ·
  clear h
  go_enter Tryz.func131, Tryz.ntmps131
  go_wp2
  go_ret3
  exact ⟨rfl, rfl⟩
set_option maxHeartbeats 400000 in
theorem get_short (s : ByteArray) (p k : Nat) (w : World) (hs : s.size ≤ maxLen) (h1 : 1 ≤ k) (h6 : k ≤ 6) (hp : p ≤ s.size) (hsh : (s.size : Int) - (p : Int) < (k : Int)) :
  Calls Tryz.prog 131 #[.string s, .int .i64 p, .int .i64 k] w fun e w' => e = .returned (.tuple #[.int .i64 0, .int .i64 0, .int .i64 3]) ∧ w = w' := by
 unfold maxLen at hs
 have hsp : ¬ s.size < p := by omega
 have hp0 : ¬ (p : Int) < 0 := by omega
 have hk1 : 1 ≤ (k : Int) := by omega
 have hk6 : (k : Int) ≤ 6 := by omega
 go_enter Tryz.func131, Tryz.ntmps131
 go_wp2
 go_ret3
 exact ⟨rfl, rfl⟩
theorem get_any (s : ByteArray) (p k : Int) (w : World) (hs : s.size ≤ maxLen) :
  Calls Tryz.prog 131 #[.string s, .int .i64 p, .int .i64 k] w fun e w' => e = .returned (.tuple #[.int .i64 (getR s p k), .int .i64 (getT s p k), .int .i64 (getE s p k)]) ∧ w = w' := by
 by_cases h : 1 ≤ k ∧ k ≤ 6 ∧ 0 ≤ p ∧ p ≤ s.size
 ·
  obtain ⟨h1, h6, h0, hp⟩ := h
  obtain ⟨q, rfl⟩ : ∃ q : Nat, p = q := ⟨p.toNat, by omega⟩
  obtain ⟨m, rfl⟩ : ∃ m : Nat, k = m := ⟨k.toNat, by omega⟩
  by_cases h2 : (s.size : Int) - (q : Int) < (m : Int)
  ·
   have e : getE s q m = 3 := by unfold getE; rw [if_pos ⟨h1, h6, h0, hp⟩, if_pos h2]
   rw [getR, getT, e, if_neg (by decide), if_neg (by decide)]
   exact get_short s q m w hs (by omega) (by omega) (by omega) h2
  ·
   have e : getE s q m = 0 := by unfold getE; rw [if_pos ⟨h1, h6, h0, hp⟩, if_neg h2]
   rw [getR, getT, e, if_pos rfl, if_pos rfl]
   exact get_ok s q m w hs (by omega) (by omega) (by omega)
 ·
  have e : getE s p k = 1 := by unfold getE; rw [if_neg h]
  rw [getR, getT, e, if_neg (by decide), if_neg (by decide)]
  exact get_arg s p k w hs h
set_option maxHeartbeats 400000 in
theorem cut_any (s : ByteArray) (p : Int) (w : World) (hs : s.size ≤ maxLen) :
  Calls Tryz.prog 170 #[.string s, .int .i64 p] w fun e w' => e = .returned (.tuple #[.string (cutS s p), .int .i64 (cutT s p), .int .i64 (cutE s p)]) ∧ w = w' := by
 have hs' := hs
 unfold maxLen at hs
 by_cases h : getE s p 2 = 0
 ·
  obtain ⟨-, -, h0, hp⟩ := getE_ok h
  obtain ⟨q, rfl⟩ : ∃ q : Nat, p = q := ⟨p.toNat, by omega⟩
  obtain ⟨g0, g1⟩ := getV_bd s q 2
  have g2 : pw 2 = 65536 := by decide
  have eR : getR s q 2 = getV s q 2 := by rw [getR, if_pos h]; rfl
  have eT : getT s q 2 = q + 2 := by rw [getT, if_pos h]
  obtain ⟨v, hv⟩ : ∃ v : Nat, getV s q 2 = v := ⟨(getV s q 2).toNat, by omega⟩
  have hcE : cutE s q = if (s.size : Int) - ((q : Int) + 2) < (v : Int) then 3 else 0 := by rw [cutE, if_pos h]; simp [hv]
  rw [hv] at eR g0 g1
  by_cases hsh : (s.size : Int) - ((q : Int) + 2) < (v : Int)
  ·
   rw [if_pos hsh] at hcE
   rw [cutS, cutT, hcE, if_neg (by decide), if_neg (by decide)]
   clear hcE hv
   go_enter Tryz.func170, Tryz.ntmps170
   go_wp2_with (go_at_call 131; refine (get_any _ _ _ _ hs').mono ?_; rintro e w' ⟨rfl, rfl⟩)
   go_ret3
   exact ⟨rfl, rfl⟩
  ·
   rw [if_neg hsh] at hcE
   rw [cutS, cutT, hcE, if_pos rfl, if_pos rfl]
   have e1 : ((q : Int) + 2).toNat = q + 2 := by omega
   have e2 : ((q : Int) + 2 + getV s q 2).toNat = q + 2 + v := by rw [hv]; omega
   have e3 : ((q : Int).toNat) = q := rfl
   rw [e3, e1, e2, hv]
   obtain ⟨f, hf⟩ : ∃ f : Nat, q + 2 = f := ⟨_, rfl⟩
   have hf' : (q : Int) + 2 = f := by omega
   have hsh' : f + v ≤ s.size := by omega
   rw [hf'] at eT
   rw [hf, hf']
   have hv' : v < 65536 := by omega
   clear hcE hv e2 e1 e3 hsh hp hf hf' h0 g0 g1 g2
   go_enter Tryz.func170, Tryz.ntmps170
   go_wp2_with (go_at_call 131; refine (get_any _ _ _ _ hs').mono ?_; rintro e w' ⟨rfl, rfl⟩)
   go_ret3
   exact ⟨rfl, rfl⟩
 ·
  have hcE : cutE s p = getE s p 2 := by rw [cutE, if_neg h]
  rw [cutS, cutT, hcE, if_neg h, if_neg h]
  have hne : (getE s p 2 != 0) = true := by simpa using h
  clear h hcE
  go_enter Tryz.func170, Tryz.ntmps170
  go_wp2_with (go_at_call 131; refine (get_any _ _ _ _ hs').mono ?_; rintro e w' ⟨rfl, rfl⟩)
  go_ret3
  exact ⟨rfl, rfl⟩
theorem set3_cells {w1 : World} {h : Nat} {v0 v1 v2 u0 u1 u2 : Value} (q0 : w1.cell? ⟨h, 0, none⟩ = some u0) (q1 : w1.cell? ⟨h, 1, none⟩ = some u1) (q2 : w1.cell? ⟨h, 2, none⟩ = some u2) :
  (((w1.setCell ⟨h, 0, none⟩ v0).setCell ⟨h, 1, none⟩ v1).setCell ⟨h, 2, none⟩ v2).cell? ⟨h, 0, none⟩ = some v0 ∧
  (((w1.setCell ⟨h, 0, none⟩ v0).setCell ⟨h, 1, none⟩ v1).setCell ⟨h, 2, none⟩ v2).cell? ⟨h, 1, none⟩ = some v1 ∧
  (((w1.setCell ⟨h, 0, none⟩ v0).setCell ⟨h, 1, none⟩ v1).setCell ⟨h, 2, none⟩ v2).cell? ⟨h, 2, none⟩ = some v2 := by
 refine ⟨?_, ?_, ?_⟩
 ·
  rw [World.cell?_setCell_other _ _ _ _ (fun hh => by cases hh), World.cell?_setCell_other _ _ _ _ (fun hh => by cases hh)]
  exact World.cell?_setCell_same _ _ _ q0
 ·
  rw [World.cell?_setCell_other _ _ _ _ (fun hh => by cases hh)]
  refine World.cell?_setCell_same _ _ _ (u := u1) ?_
  rw [World.cell?_setCell_other _ _ _ _ (fun hh => by cases hh)]
  exact q1
 ·
  refine World.cell?_setCell_same _ _ _ (u := u2) ?_
  rw [World.cell?_setCell_other _ _ _ _ (fun hh => by cases hh), World.cell?_setCell_other _ _ _ _ (fun hh => by cases hh)]
  exact q2
theorem below_set3 {w w1 : World} {h : Nat} {v0 v1 v2 : Value} (hB : Below w.heap.size w w1) (hh : w.heap.size ≤ h) :
  Below w.heap.size w (((w1.setCell ⟨h, 0, none⟩ v0).setCell ⟨h, 1, none⟩ v1).setCell ⟨h, 2, none⟩ v2) :=
 ((hB.setCell (p := ⟨h, 0, none⟩) hh _).setCell (p := ⟨h, 1, none⟩) hh _).setCell (p := ⟨h, 2, none⟩) hh _
theorem Box3.alloc {w : World} {h : Nat} {v0 v1 v2 : Value} (b : Box3 w h v0 v1 v2) (o : Obj) : Box3 (w.alloc o) h v0 v1 v2 :=
 b.below ((Below.refl _ _).alloc (Nat.le_refl _) _)
set_option maxHeartbeats 400000 in
theorem parts_ok (t : ByteArray) (m : Nat) (w : World) (hm : m ≤ 4000) (ht : t.size = 9 + m) (hv : getV t 7 2 = m) :
  Calls Tryz.prog 158 #[.string t] w fun e w' => e = .returned (.agg #[.int .i64 (getV t 0 1), .int .i64 (getV t 1 6), .string (t.extract 9 (9 + m))]) ∧ Below w.heap.size w w' := by
 have hs : t.size ≤ maxLen := by unfold maxLen; omega
 have c1 : ∀ W, Calls Tryz.prog 131 #[.string t, .int .i64 0, .int .i64 1] W fun e w' => ∃ v, e = .returned (.tuple #[.int .i64 (getV t 0 1), .int .i64 1, .int .i64 v]) ∧ W = w' := by
  intro W
  have e : getE t 0 1 = 0 := getE_zero ⟨by omega, by omega, by omega, by omega⟩
  refine (get_any t 0 1 W hs).mono fun ee w' ⟨he, hb⟩ => ⟨0, ?_, hb⟩
  rw [he, getR, getT, e]; rfl
 have c2 : ∀ W, Calls Tryz.prog 131 #[.string t, .int .i64 1, .int .i64 6] W fun e w' => ∃ v, e = .returned (.tuple #[.int .i64 (getV t 1 6), .int .i64 7, .int .i64 v]) ∧ W = w' := by
  intro W
  have e : getE t 1 6 = 0 := getE_zero ⟨by omega, by omega, by omega, by omega⟩
  refine (get_any t 1 6 W hs).mono fun ee w' ⟨he, hb⟩ => ⟨0, ?_, hb⟩
  rw [he, getR, getT, e]; rfl
 have c3 : ∀ W, Calls Tryz.prog 170 #[.string t, .int .i64 7] W fun e w' => ∃ u v, e = .returned (.tuple #[.string (t.extract 9 (9 + m)), .int .i64 u, .int .i64 v]) ∧ W = w' := by
  intro W
  have e : getE t 7 2 = 0 := getE_zero ⟨by omega, by omega, by omega, by omega⟩
  have hv' : getV t (7 : Int).toNat 2 = m := hv
  have e2 : cutE t 7 = 0 := by
   rw [cutE, if_pos e, hv', if_neg (by omega)]
  have e3 : cutS t 7 = t.extract 9 (9 + m) := by
   rw [cutS, if_pos e2, hv']
   have t1 : ((7 : Int) + 2).toNat = 9 := rfl
   have t2 : ((7 : Int) + 2 + (m : Int)).toNat = 9 + m := by omega
   rw [t1, t2]
  refine (cut_any t 7 W hs).mono fun ee w' ⟨he, hb⟩ => ⟨cutT t 7, 0, ?_, hb⟩
  rw [he, e2, e3]
 obtain ⟨K, hK⟩ : ∃ K, K = getV t 0 1 := ⟨_, rfl⟩
 obtain ⟨G, hG⟩ : ∃ G, G = getV t 1 6 := ⟨_, rfl⟩
 obtain ⟨B, hB⟩ : ∃ B, B = t.extract 9 (9 + m) := ⟨_, rfl⟩
 rw [← hK] at c1 ⊢
 rw [← hG] at c2 ⊢
 rw [← hB] at c3 ⊢
 clear hK hG hB hv ht hs
 have tok1 : True := trivial
 go_enter Tryz.func158, Tryz.ntmps158
 go_wp2_with (first
  | (go_at_call 131; have _t := tok1; refine (c1 _).mono ?_; rintro e w2 ⟨v1, rfl, rfl⟩; clear tok1)
  | (go_at_call 131; refine (c2 _).mono ?_; rintro e w2 ⟨v2, rfl, rfl⟩)
  | (go_at_call 170; refine (c3 _).mono ?_; rintro e w2 ⟨v3, v4, rfl, rfl⟩))
 exact bodyPost_ret (v := .agg #[.int .i64 K, .int .i64 G, .string B]) (by simp [results, Tryz.results158, go_sem]) rfl ⟨rfl, (Below.refl _ _).alloc (Nat.le_refl _) _⟩
theorem str_some {a : ByteArray} (h : ¬ a = ⟨#[]⟩) : a.toList.isEmpty = false := by
 rw [Bool.eq_false_iff]
 intro hh
 have h3 : (⟨#[]⟩ : ByteArray).toList = [] := by simp
 have h2 := str_eq_false h
 rw [List.isEmpty_iff.1 hh, h3] at h2
 exact absurd h2 (by decide)
theorem openE_front {F : ByteArray} (hF : F.size = 4096) (hn : fN F ≤ 4000) :
  openE (F.extract 0 (13 + fN F)) = (if fSealed F then 0 else 41) ∧ (fSealed F → openS (F.extract 0 (13 + fN F)) = F.extract 0 (9 + fN F)) := by
 have hz : (F.extract 0 (13 + fN F)).size = 13 + fN F := by rw [extract_size' _ _ _ (by omega) (by omega)]; omega
 have hh : headS (F.extract 0 (13 + fN F)) = F.extract 0 (9 + fN F) := by
  unfold headS
  rw [hz]
  apply bytes_ext
  rw [extract_data', extract_data', extract_data', List.drop_zero, List.drop_zero, List.take_take]
  congr 1
  omega
 have hk : fSealed F ↔ tailS (F.extract 0 (13 + fN F)) = le4S (ofS (headS (F.extract 0 (13 + fN F)))) := by
  rw [← sealed_head _ (by rw [hz]; omega), hh]
  exact fSealed_iff F
 have he : openE (F.extract 0 (13 + fN F)) = (if fSealed F then 0 else 41) := by
  unfold openE
  rw [if_neg (by rw [hz]; omega)]
  by_cases h : fSealed F
  ·
   rw [if_pos h, if_pos (hk.1 h)]
  ·
   rw [if_neg h, if_neg (fun hh => h (hk.2 hh))]
 refine ⟨he, fun h => ?_⟩
 rw [openS, he, if_pos h, if_pos rfl, hh]
theorem getR_size {F : ByteArray} (hF : F.size = 4096) : getR F 7 2 = fN F := by
 have e : getE F 7 2 = 0 := getE_zero ⟨by omega, by omega, by omega, by omega⟩
 rw [getR, if_pos e]
 show getV F 7 2 = _
 have := (getV_bd F 7 2).1
 unfold fN; omega
def fullK (F : ByteArray) : Int := if fE F = 0 then fK F else 0
def fullG (F : ByteArray) : Int := if fE F = 0 then fG F else 0
def fullB (F : ByteArray) : ByteArray := if fE F = 0 then fB F else ⟨#[]⟩
set_option maxHeartbeats 2000000 in
theorem pageGet_long (s : ByteArray) (w : World) (hs : s.size ≤ maxLen) (h : ¬ s.size ≤ 4096) :
  Calls Tryz.prog 124 #[.string s] w fun e w' => e = .returned (.tuple #[.agg #[.int .i64 0, .int .i64 0, .string ⟨#[]⟩], .int .i64 1]) ∧ Below w.heap.size w w' := by
 have c1 : ∀ W, Calls Tryz.prog 156 #[.string s, .int .i64 4096] W fun e w' => ∃ v, e = .returned (.tuple #[.string v, .int .i64 2]) ∧ Below W.heap.size W w' := by
  intro W
  have e : padE s 4096 = 2 := by
   unfold padE
   rw [if_pos ⟨by omega, by omega⟩, if_neg (by omega)]
  refine (pad_any s 4096 W hs).mono fun ee w' ⟨he, hb⟩ => ⟨padS s 4096, ?_, hb⟩
  rw [he, e]
 go_enter Tryz.func124, Tryz.ntmps124
 go_wp2_with (first
  | (go_at_call 156; refine (c1 _).mono ?_; rintro e w1 ⟨v, rfl, hb⟩; obtain ⟨⟨q0, q1, q2⟩, f0, f1, f2⟩ := (box3_new _ _ _ _ _).below hb; have hB := below_box hb; clear hb))
 obtain ⟨z0, z1, z2⟩ := set3_cells (v0 := .int .i64 0) (v1 := .int .i64 0) (v2 := .string ⟨#[]⟩) q0 q1 q2
 exact bodyPost_ret (v := .tuple #[.agg #[.int .i64 0, .int .i64 0, .string ⟨#[]⟩], .int .i64 1]) (by simp [results, Tryz.results124, go_sem, z0, z1, z2]) rfl ⟨rfl, below_set3 hB (Nat.le_refl _)⟩
set_option maxHeartbeats 4000000 in
theorem pageGet_short (s : ByteArray) (w : World) (h : s.size ≤ 4096) :
  Calls Tryz.prog 124 #[.string s] w fun e w' => e = .returned (.tuple #[.agg #[.int .i64 (fullK (fullS s)), .int .i64 (fullG (fullS s)), .string (fullB (fullS s))], .int .i64 (fE (fullS s))]) ∧ Below w.heap.size w w' := by
 have hs : s.size ≤ maxLen := by unfold maxLen; omega
 have hF := fullS_size h
 obtain ⟨F, hFe⟩ : ∃ F, F = fullS s := ⟨_, rfl⟩
 rw [← hFe] at hF ⊢
 have c1 : ∀ W, Calls Tryz.prog 156 #[.string s, .int .i64 4096] W fun e w' => e = .returned (.tuple #[.string F, .int .i64 0]) ∧ Below W.heap.size W w' := by
  intro W
  have e : padE s 4096 = 0 := by
   unfold padE
   rw [if_pos ⟨by omega, by omega⟩, if_pos (by omega)]
  refine (pad_any s 4096 W hs).mono fun ee w' ⟨he, hb⟩ => ⟨?_, hb⟩
  rw [he, e, hFe, padS, if_pos e]; rfl
 have hFm : F.size ≤ maxLen := by unfold maxLen; omega
 obtain ⟨n, hn⟩ : ∃ n, n = fN F := ⟨_, rfl⟩
 have c2 : ∀ W, Calls Tryz.prog 131 #[.string F, .int .i64 7, .int .i64 2] W fun e w' => ∃ v u, e = .returned (.tuple #[.int .i64 n, .int .i64 v, .int .i64 u]) ∧ W = w' := by
  intro W
  refine (get_any F 7 2 W hFm).mono fun ee w' ⟨he, hb⟩ => ⟨getT F 7 2, getE F 7 2, ?_, hb⟩
  rw [he, getR_size hF, hn]
 by_cases h1 : 4000 < n
 ·
  have hE : Hid (fE F = 4) := by show _ = _; unfold fE; rw [if_pos (by omega)]
  have hK : Hid (fullK F = 0) := by show _ = _; unfold fullK; rw [hE.out]; rfl
  have hG : Hid (fullG F = 0) := by show _ = _; unfold fullG; rw [hE.out]; rfl
  have hBB : Hid (fullB F = ⟨#[]⟩) := by show _ = _; unfold fullB; rw [hE.out]; rfl
  have h1' : (4000 : Int) < n := by omega
  clear hF hn hFe
  go_enter Tryz.func124, Tryz.ntmps124
  go_wp2_with (first
   | (go_at_call 156; refine (c1 _).mono ?_; rintro e w1 ⟨rfl, hb⟩; obtain ⟨⟨q0, q1, q2⟩, f0, f1, f2⟩ := (box3_new _ _ _ _ _).below hb; have hB := below_box hb; clear hb)
   | (go_at_call 131; refine (c2 _).mono ?_; rintro e w2 ⟨v, u, rfl, rfl⟩))
  obtain ⟨z0, z1, z2⟩ := set3_cells (v0 := .int .i64 0) (v1 := .int .i64 0) (v2 := .string ⟨#[]⟩) q0 q1 q2
  exact bodyPost_ret (v := .tuple #[.agg #[.int .i64 0, .int .i64 0, .string ⟨#[]⟩], .int .i64 4]) (by simp [results, Tryz.results124, go_sem, z0, z1, z2]) rfl ⟨by rw [hE.out, hK.out, hG.out, hBB.out], below_set3 hB (Nat.le_refl _)⟩
 ·
  obtain ⟨o1, o2⟩ := openE_front hF (by omega)
  rw [← hn] at o1 o2
  have hT : (F.extract 0 (13 + n)).size ≤ maxLen := by rw [ByteArray.size_extract]; unfold maxLen; omega
  have hn4 : n ≤ 4000 := by omega
  have n13 : 9 + n + 4 = 13 + n := by omega
  by_cases h2 : fSealed F
  ·
   have o3 := o2 h2
   rw [if_pos h2] at o1
   obtain ⟨t, ht⟩ : ∃ t, t = F.extract 0 (9 + n) := ⟨_, rfl⟩
   have c3 : ∀ W, Calls Tryz.prog 157 #[.string (F.extract 0 (9 + n + 4))] W fun e w' => e = .returned (.tuple #[.string t, .int .i64 0]) ∧ Below W.heap.size W w' := by
    intro W
    rw [n13]
    refine (open_any _ W hT).mono fun ee w' ⟨he, hb⟩ => ⟨?_, hb⟩
    rw [he, o1, o3, ht]
   obtain ⟨K, hKe⟩ : ∃ K, K = fK F := ⟨_, rfl⟩
   obtain ⟨G, hGe⟩ : ∃ G, G = fG F := ⟨_, rfl⟩
   obtain ⟨B, hBe⟩ : ∃ B, B = fB F := ⟨_, rfl⟩
   have c4 : ∀ W, Calls Tryz.prog 158 #[.string t] W fun e w' => e = .returned (.agg #[.int .i64 K, .int .i64 G, .string B]) ∧ Below W.heap.size W w' := by
    intro W
    have tz : t.size = 9 + n := by rw [ht, extract_size' _ _ _ (by omega) (by omega)]; omega
    have tv : getV t 7 2 = n := by
     rw [ht, getV_front _ _ _ _ (by omega), hn]
     have := (getV_bd F 7 2).1
     unfold fN; omega
    refine (parts_ok t n W hn4 tz tv).mono fun ee w' ⟨he, hb⟩ => ⟨?_, hb⟩
    rw [he, ht, getV_front _ _ _ _ (by omega), getV_front _ _ _ _ (by omega), hKe, hGe, hBe]
    have : (F.extract 0 (9 + n)).extract 9 (9 + n) = fB F := by
     unfold fB
     rw [← hn]
     apply bytes_ext
     rw [extract_data', extract_data', extract_data', List.drop_zero, Nat.sub_zero, List.drop_take, List.take_take, Nat.min_self]
    rw [this]; rfl
   have c5 := fun W => isKind_any K W
   have c6 := fun W => isGen_any G W
   obtain ⟨R, hRe⟩ : ∃ R, R = trimS (fRest F) := ⟨_, rfl⟩
   have c7 : ∀ W, Calls Tryz.prog 114 #[.string (F.extract (9 + n + 4) F.size)] W fun e w' => e = .returned (.string R) ∧ W = w' := by
    intro W
    rw [n13]
    have := trim_any (fRest F) W (by unfold fRest; rw [ByteArray.size_extract]; unfold maxLen; omega)
    rw [← hRe] at this
    unfold fRest at this
    rwa [← hn] at this
   have hG0 : 0 ≤ G := by rw [hGe]; exact (getV_bd F 1 6).1
   obtain ⟨x, hx⟩ : ∃ x, x = isKind K := ⟨_, rfl⟩
   obtain ⟨y, hy⟩ : ∃ y, y = isGen G := ⟨_, rfl⟩
   have hx' : x = true ↔ (1 ≤ K ∧ K ≤ 5) := by rw [hx]; simp [isKind]
   have hy' : y = true ↔ G ≤ 1099511627776 := by rw [hy]; simp [isGen, hG0]
   rw [← hx] at c5
   rw [← hy] at c6
   have hFE : fE F = if x = true then (if y = true ∧ R = ⟨#[]⟩ then 0 else 4) else 40 := by
    unfold fE
    rw [if_neg (by omega), if_pos h2, ← hKe, ← hGe, ← hRe]
    by_cases a : x = true
    ·
     rw [if_pos (hx'.1 a), if_pos a]
     by_cases b : y = true
     ·
      simp only [b, true_and, hy'.1 b]
     ·
      rw [if_neg (fun hh => b (hy'.2 hh.1)), if_neg (fun hh => b hh.1)]
    ·
     rw [if_neg (fun hh => a (hx'.2 hh)), if_neg a]
   have hB0 : Below w.heap.size w w := Below.refl _ _
   have hFz : Hid (F.size = 4096) := hF
   have hF4 : 4096 ≤ F.size := by omega
   have hFu : F.size ≤ 4096 := by omega
   clear hF hn hFe o1 o2 o3 ht hRe hx hy hx' hy' n13
   have hKF : fullK F = if (if x = true then (if y = true ∧ R = ⟨#[]⟩ then (0 : Int) else 4) else 40) = 0 then K else 0 := by unfold fullK; rw [hFE, hKe]
   have hGF : fullG F = if (if x = true then (if y = true ∧ R = ⟨#[]⟩ then (0 : Int) else 4) else 40) = 0 then G else 0 := by unfold fullG; rw [hFE, hGe]
   have hBF : fullB F = if (if x = true then (if y = true ∧ R = ⟨#[]⟩ then (0 : Int) else 4) else 40) = 0 then B else ⟨#[]⟩ := by unfold fullB; rw [hFE, hBe]
   rw [hFE, hKF, hGF, hBF]
   clear hFE hKF hGF hBF hKe hGe hBe h2 hT
   obtain ⟨rE, hrE⟩ : ∃ r, r = (if x = true then (if y = true ∧ R = ⟨#[]⟩ then (0 : Int) else 4) else 40) := ⟨_, rfl⟩
   rw [← hrE]
   obtain ⟨rK, hrK⟩ : ∃ r, r = if rE = 0 then K else 0 := ⟨_, rfl⟩
   obtain ⟨rG, hrG⟩ : ∃ r, r = if rE = 0 then G else 0 := ⟨_, rfl⟩
   obtain ⟨rB, hrB⟩ : ∃ r, r = if rE = 0 then B else ⟨#[]⟩ := ⟨_, rfl⟩
   rw [← hrK, ← hrG, ← hrB]
   have hFm' : F.size ≤ 9223372036854775807 := hFm
   cases x
   ·
    have e1 : rE = 40 := by rw [hrE]; simp
    have e2 : rK = 0 := by rw [hrK, e1]; rfl
    have e3 : rG = 0 := by rw [hrG, e1]; rfl
    have e4 : rB = ⟨#[]⟩ := by rw [hrB, e1]; rfl
    rw [e1, e2, e3, e4]
    clear hrE hrK hrG hrB e1 e2 e3 e4
    go_enter Tryz.func124, Tryz.ntmps124
    go_wp2_with (first
     | (go_at_call 156; refine (c1 _).mono ?_; rintro e w1 ⟨rfl, hb⟩; have Q := (box3_new _ _ _ _ _).below hb; have hB := below_box hb; clear hb)
     | (go_at_call 131; refine (c2 _).mono ?_; rintro e w2 ⟨v, u, rfl, rfl⟩)
     | (go_at_call 157; refine (c3 _).mono ?_; rintro e w3 ⟨rfl, hb⟩; replace Q := Q.below hb; replace hB := Below.tr hB hb; clear hb)
     | (go_at_call 158; refine (c4 _).mono ?_; rintro e w4 ⟨rfl, hb⟩; replace Q := (Q.below hb).alloc (.cells #[.int .i64 K, .int .i64 G, .string B] 115); obtain ⟨⟨q0, q1, q2⟩, f0, f1, f2⟩ := Q; replace hB := Below.tr hB hb; clear hb)
     | (go_at_call 149; refine (c5 _).mono ?_; rintro e w5 ⟨rfl, rfl⟩)
     | (go_at_call 150; refine (c6 _).mono ?_; rintro e w6 ⟨rfl, rfl⟩)
     | (go_at_call 114; refine (c7 _).mono ?_; rintro e w7 ⟨rfl, rfl⟩))
    obtain ⟨z0, z1, z2⟩ := set3_cells (v0 := .int .i64 0) (v1 := .int .i64 0) (v2 := .string ⟨#[]⟩) q0 q1 q2
    exact bodyPost_ret (v := .tuple #[.agg #[.int .i64 0, .int .i64 0, .string ⟨#[]⟩], .int .i64 40]) (by simp [results, Tryz.results124, go_sem, z0, z1, z2]) rfl ⟨rfl, below_set3 (hB.alloc hB.size _) (Nat.le_refl _)⟩
   ·
    cases y
    ·
     have e1 : rE = 4 := by rw [hrE]; simp
     have e2 : rK = 0 := by rw [hrK, e1]; rfl
     have e3 : rG = 0 := by rw [hrG, e1]; rfl
     have e4 : rB = ⟨#[]⟩ := by rw [hrB, e1]; rfl
     rw [e1, e2, e3, e4]
     clear hrE hrK hrG hrB e1 e2 e3 e4
     go_enter Tryz.func124, Tryz.ntmps124
     go_wp2_with (first
      | (go_at_call 156; refine (c1 _).mono ?_; rintro e w1 ⟨rfl, hb⟩; have Q := (box3_new _ _ _ _ _).below hb; have hB := below_box hb; clear hb)
      | (go_at_call 131; refine (c2 _).mono ?_; rintro e w2 ⟨v, u, rfl, rfl⟩)
      | (go_at_call 157; refine (c3 _).mono ?_; rintro e w3 ⟨rfl, hb⟩; replace Q := Q.below hb; replace hB := Below.tr hB hb; clear hb)
      | (go_at_call 158; refine (c4 _).mono ?_; rintro e w4 ⟨rfl, hb⟩; replace Q := (Q.below hb).alloc (.cells #[.int .i64 K, .int .i64 G, .string B] 115); obtain ⟨⟨q0, q1, q2⟩, f0, f1, f2⟩ := Q; replace hB := Below.tr hB hb; clear hb)
      | (go_at_call 149; refine (c5 _).mono ?_; rintro e w5 ⟨rfl, rfl⟩)
      | (go_at_call 150; refine (c6 _).mono ?_; rintro e w6 ⟨rfl, rfl⟩)
      | (go_at_call 114; refine (c7 _).mono ?_; rintro e w7 ⟨rfl, rfl⟩))
     obtain ⟨z0, z1, z2⟩ := set3_cells (v0 := .int .i64 0) (v1 := .int .i64 0) (v2 := .string ⟨#[]⟩) q0 q1 q2
     exact bodyPost_ret (v := .tuple #[.agg #[.int .i64 0, .int .i64 0, .string ⟨#[]⟩], .int .i64 4]) (by simp [results, Tryz.results124, go_sem, z0, z1, z2]) rfl ⟨rfl, below_set3 (hB.alloc hB.size _) (Nat.le_refl _)⟩
    ·
     by_cases hR : R = ⟨#[]⟩
     ·
      have e1 : rE = 0 := by rw [hrE, hR]; simp
      have e2 : rK = K := by rw [hrK, e1]; rfl
      have e3 : rG = G := by rw [hrG, e1]; rfl
      have e4 : rB = B := by rw [hrB, e1]; rfl
      rw [e1, e2, e3, e4]
      clear hrE hrK hrG hrB e1 e2 e3 e4
      subst hR
      go_enter Tryz.func124, Tryz.ntmps124
      go_wp2_with (first
       | (go_at_call 156; refine (c1 _).mono ?_; rintro e w1 ⟨rfl, hb⟩; have Q := (box3_new _ _ _ _ _).below hb; have hB := below_box hb; clear hb)
       | (go_at_call 131; refine (c2 _).mono ?_; rintro e w2 ⟨v, u, rfl, rfl⟩)
       | (go_at_call 157; refine (c3 _).mono ?_; rintro e w3 ⟨rfl, hb⟩; replace Q := Q.below hb; replace hB := Below.tr hB hb; clear hb)
       | (go_at_call 158; refine (c4 _).mono ?_; rintro e w4 ⟨rfl, hb⟩; replace Q := (Q.below hb).alloc (.cells #[.int .i64 K, .int .i64 G, .string B] 115); obtain ⟨⟨q0, q1, q2⟩, f0, f1, f2⟩ := Q; replace hB := Below.tr hB hb; clear hb)
       | (go_at_call 149; refine (c5 _).mono ?_; rintro e w5 ⟨rfl, rfl⟩)
       | (go_at_call 150; refine (c6 _).mono ?_; rintro e w6 ⟨rfl, rfl⟩)
       | (go_at_call 114; refine (c7 _).mono ?_; rintro e w7 ⟨rfl, rfl⟩))
      obtain ⟨z0, z1, z2⟩ := set3_cells (v0 := .int .i64 K) (v1 := .int .i64 G) (v2 := .string B) q0 q1 q2
      exact bodyPost_ret (v := .tuple #[.agg #[.int .i64 K, .int .i64 G, .string B], .int .i64 0]) (by simp [results, Tryz.results124, go_sem, z0, z1, z2]) rfl ⟨rfl, below_set3 (hB.alloc hB.size _) (Nat.le_refl _)⟩
     ·
      have e1 : rE = 4 := by rw [hrE]; simp [hR]
      have e2 : rK = 0 := by rw [hrK, e1]; rfl
      have e3 : rG = 0 := by rw [hrG, e1]; rfl
      have e4 : rB = ⟨#[]⟩ := by rw [hrB, e1]; rfl
      rw [e1, e2, e3, e4]
      clear hrE hrK hrG hrB e1 e2 e3 e4
      have hR1 := str_some hR
      go_enter Tryz.func124, Tryz.ntmps124
      go_wp2_with (first
       | (go_at_call 156; refine (c1 _).mono ?_; rintro e w1 ⟨rfl, hb⟩; have Q := (box3_new _ _ _ _ _).below hb; have hB := below_box hb; clear hb)
       | (go_at_call 131; refine (c2 _).mono ?_; rintro e w2 ⟨v, u, rfl, rfl⟩)
       | (go_at_call 157; refine (c3 _).mono ?_; rintro e w3 ⟨rfl, hb⟩; replace Q := Q.below hb; replace hB := Below.tr hB hb; clear hb)
       | (go_at_call 158; refine (c4 _).mono ?_; rintro e w4 ⟨rfl, hb⟩; replace Q := (Q.below hb).alloc (.cells #[.int .i64 K, .int .i64 G, .string B] 115); obtain ⟨⟨q0, q1, q2⟩, f0, f1, f2⟩ := Q; replace hB := Below.tr hB hb; clear hb)
       | (go_at_call 149; refine (c5 _).mono ?_; rintro e w5 ⟨rfl, rfl⟩)
       | (go_at_call 150; refine (c6 _).mono ?_; rintro e w6 ⟨rfl, rfl⟩)
       | (go_at_call 114; refine (c7 _).mono ?_; rintro e w7 ⟨rfl, rfl⟩))
      obtain ⟨z0, z1, z2⟩ := set3_cells (v0 := .int .i64 0) (v1 := .int .i64 0) (v2 := .string ⟨#[]⟩) q0 q1 q2
      exact bodyPost_ret (v := .tuple #[.agg #[.int .i64 0, .int .i64 0, .string ⟨#[]⟩], .int .i64 4]) (by simp [results, Tryz.results124, go_sem, z0, z1, z2]) rfl ⟨rfl, below_set3 (hB.alloc hB.size _) (Nat.le_refl _)⟩
  ·
   rw [if_neg h2] at o1
   have c3 : ∀ W, Calls Tryz.prog 157 #[.string (F.extract 0 (9 + n + 4))] W fun e w' => ∃ v, e = .returned (.tuple #[.string v, .int .i64 41]) ∧ Below W.heap.size W w' := by
    intro W
    rw [n13]
    refine (open_any _ W hT).mono fun ee w' ⟨he, hb⟩ => ⟨openS (F.extract 0 (13 + n)), ?_, hb⟩
    rw [he, o1]
   have hE : fE F = 41 := by unfold fE; rw [if_neg (by omega), if_neg h2]
   rw [show fullK F = 0 by unfold fullK; rw [hE]; rfl, show fullG F = 0 by unfold fullG; rw [hE]; rfl, show fullB F = ⟨#[]⟩ by unfold fullB; rw [hE]; rfl, hE]
   have hF4 : 4096 ≤ F.size := by omega
   have hFu : F.size ≤ 4096 := by omega
   have hFm' : F.size ≤ 9223372036854775807 := hFm
   clear hF hn hFe o1 o2 h2 hT hE n13
   go_enter Tryz.func124, Tryz.ntmps124
   go_wp2_with (first
    | (go_at_call 156; refine (c1 _).mono ?_; rintro e w1 ⟨rfl, hb⟩; have Q := (box3_new _ _ _ _ _).below hb; have hB := below_box hb; clear hb)
    | (go_at_call 131; refine (c2 _).mono ?_; rintro e w2 ⟨v, u, rfl, rfl⟩)
    | (go_at_call 157; refine (c3 _).mono ?_; rintro e w3 ⟨z, rfl, hb⟩; replace Q := Q.below hb; obtain ⟨⟨q0, q1, q2⟩, f0, f1, f2⟩ := Q; replace hB := Below.tr hB hb; clear hb))
   obtain ⟨z0, z1, z2⟩ := set3_cells (v0 := .int .i64 0) (v1 := .int .i64 0) (v2 := .string ⟨#[]⟩) q0 q1 q2
   exact bodyPost_ret (v := .tuple #[.agg #[.int .i64 0, .int .i64 0, .string ⟨#[]⟩], .int .i64 41]) (by simp [results, Tryz.results124, go_sem, z0, z1, z2]) rfl ⟨rfl, below_set3 hB (Nat.le_refl _)⟩
theorem pageGet_any (s : ByteArray) (w : World) (hs : s.size ≤ maxLen) :
  Calls Tryz.prog 124 #[.string s] w fun e w' => e = .returned (.tuple #[.agg #[.int .i64 (readK s), .int .i64 (readG s), .string (readB s)], .int .i64 (readE s)]) ∧ Below w.heap.size w w' := by
 by_cases h : s.size ≤ 4096
 ·
  have e : readE s = fE (fullS s) := by rw [readE, if_pos h]
  unfold readK readG readB
  rw [e]
  exact pageGet_short s w h
 ·
  have e : readE s = 1 := by rw [readE, if_neg h]
  unfold readK readG readB
  rw [e]
  exact pageGet_long s w hs h
theorem not_take {ms : List Int} {v x : Int} {j : Nat} (h : ∀ y ∈ ms.take j, ¬ y = v) (hx : ms[j]? = some x) (hne : ¬ v = x) : ∀ y ∈ ms.take (j + 1), ¬ y = v := by
 intro y hy
 rw [List.take_add_one, hx] at hy
 simp at hy
 rcases hy with hy | hy
 ·
  exact h y hy
 ·
  subst hy; exact fun e => hne e.symm
set_option maxHeartbeats 400000 in
theorem index_any (a : Option Addr) (c : Nat) (ms : List Int) (v : Int) (w : World) (hI : IsI w a c ms) :
  Calls Tryz.prog 159 #[.slice a ms.length c, .int .i64 v] w fun e w' => (∃ r : Int, e = .returned (.int .i64 r) ∧ (decide (0 ≤ r) = decide (v ∈ ms))) ∧ w = w' := by
 have hm : ms.length ≤ 9223372036854775807 := Nat.le_trans hI.1 hI.2.1
 have HI : Hid (IsI w a c ms) := hI
 clear hI
 go_enter Tryz.func159, Tryz.ntmps159
 go_wp2
 go_loop [8] (fun u => ∃ j : Nat, j ≤ ms.length ∧ u = .int .i64 j ∧ ∀ y ∈ ms.take j, ¬ y = v) (fun u => ms.length - (intOf u).toNat)
 case atStart => exact ⟨0, by omega, rfl, fun y hy => by simp at hy⟩
 case round =>
  obtain ⟨j, hj, rfl, HA⟩ := hrel
  by_cases hlt : j < ms.length
  ·
   obtain ⟨x, hx⟩ : ∃ x, ms[j]? = some x := ⟨_, List.getElem?_eq_getElem hlt⟩
   obtain ⟨b, o, rfl, hlb, hc⟩ := HI.out.2.2 j x hx
   have hmem : Hid (x ∈ ms) := List.mem_of_getElem? hx
   have hA' : Hid (¬ v = x → ∀ y ∈ ms.take (j + 1), ¬ y = v) := not_take HA hx
   clear HA hx hlb
   have hlt' : (j : Int) < ms.length := by omega
   by_cases he : v = x
   ·
    subst he
    go_wp2
    go_ret
    exact ⟨⟨j, rfl, by simpa using hmem.out⟩, rfl⟩
   ·
    have he' : (v == x) = false := by simpa using he
    go_wp2
    go_round
    case rel => exact ⟨j + 1, by omega, by go_num, hA'.out he⟩
    case measure => simp [intOf]; omega
  ·
   obtain rfl : j = ms.length := by omega
   rw [List.take_length] at HA
   have HB : Hid (¬ v ∈ ms) := fun h => HA v h rfl
   clear HA hj hlt
   go_wp2
   go_ret
   exact ⟨⟨-1, rfl, by simpa using HB.out⟩, rfl⟩
theorem contains_any (a : Option Addr) (c : Nat) (ms : List Int) (v : Int) (w : World) (hI : IsI w a c ms) :
  Calls Tryz.prog 125 #[.slice a ms.length c, .int .i64 v] w fun e w' => e = .returned (.bool (decide (v ∈ ms))) ∧ w = w' := by
 have c1 := index_any a c ms v w hI
 obtain ⟨n, hn⟩ : ∃ n, n = ms.length := ⟨_, rfl⟩
 rw [← hn] at c1 ⊢
 clear hI hn
 go_enter Tryz.func125, Tryz.ntmps125
 go_wp2_with (go_at_call 159; refine c1.mono ?_; rintro e w1 ⟨⟨r, rfl, hr⟩, rfl⟩; have hr' : Hid _ := hr; clear hr)
 go_ret
 exact ⟨ret_bool hr'.out, rfl⟩
def wantE (s : ByteArray) (ms : List Int) : Int := if readE s = 0 then (if readK s ∈ ms then 0 else 40) else readE s
def wantK (s : ByteArray) (ms : List Int) : Int := if wantE s ms = 0 then readK s else 0
def wantG (s : ByteArray) (ms : List Int) : Int := if wantE s ms = 0 then readG s else 0
def wantB (s : ByteArray) (ms : List Int) : ByteArray := if wantE s ms = 0 then readB s else ⟨#[]⟩
set_option maxHeartbeats 1000000 in
theorem want_any (s : ByteArray) (a : Option Addr) (c : Nat) (ms : List Int) (w : World) (hs : s.size ≤ maxLen) (hI : IsI w a c ms) :
  Calls Tryz.prog 74 #[.string s, .slice a ms.length c] w fun e w' => e = .returned (.tuple #[.agg #[.int .i64 (wantK s ms), .int .i64 (wantG s ms), .string (wantB s ms)], .int .i64 (wantE s ms)]) ∧ Below w.heap.size w w' := by
 have c1 := fun W => pageGet_any s W hs
 obtain ⟨E, hE⟩ : ∃ E, E = readE s := ⟨_, rfl⟩
 obtain ⟨K, hK⟩ : ∃ K, K = readK s := ⟨_, rfl⟩
 obtain ⟨G, hG⟩ : ∃ G, G = readG s := ⟨_, rfl⟩
 obtain ⟨B, hB⟩ : ∃ B, B = readB s := ⟨_, rfl⟩
 have c2 : ∀ W, Below w.heap.size w W → Calls Tryz.prog 125 #[.slice a ms.length c, .int .i64 K] W fun e w' => e = .returned (.bool (decide (K ∈ ms))) ∧ W = w' :=
  fun W hW => contains_any a c ms K W (hI.below hW)
 have xE : wantE s ms = if E = 0 then (if K ∈ ms then 0 else 40) else E := by rw [hE, hK]; rfl
 have xK : wantK s ms = if wantE s ms = 0 then K else 0 := by rw [hK]; rfl
 have xG : wantG s ms = if wantE s ms = 0 then G else 0 := by rw [hG]; rfl
 have xB : wantB s ms = if wantE s ms = 0 then B else ⟨#[]⟩ := by rw [hB]; rfl
 rw [← hE, ← hK, ← hG, ← hB] at c1
 clear hE hK hG hB hI
 obtain ⟨n, hn⟩ : ∃ n, n = ms.length := ⟨_, rfl⟩
 rw [← hn] at c2 ⊢
 clear hn
 obtain ⟨rE, hrE⟩ : ∃ r, r = wantE s ms := ⟨_, rfl⟩
 obtain ⟨rK, hrK⟩ : ∃ r, r = wantK s ms := ⟨_, rfl⟩
 obtain ⟨rG, hrG⟩ : ∃ r, r = wantG s ms := ⟨_, rfl⟩
 obtain ⟨rB, hrB⟩ : ∃ r, r = wantB s ms := ⟨_, rfl⟩
 rw [← hrE, ← hrK, ← hrG, ← hrB]
 rw [← hrE] at xE xK xG xB
 rw [← hrK] at xK
 rw [← hrG] at xG
 rw [← hrB] at xB
 clear hrE hrK hrG hrB
 by_cases h0 : E = 0
 ·
  rw [if_pos h0] at xE
  by_cases hm : K ∈ ms
  ·
   rw [if_pos hm] at xE
   rw [xE] at xK xG xB ⊢
   rw [show rK = K from xK, show rG = G from xG, show rB = B from xB]
   have hd : ∀ W, Below w.heap.size w W → Calls Tryz.prog 125 #[.slice a n c, .int .i64 K] W fun e w' => e = .returned (.bool true) ∧ W = w' := by
    intro W hW; have := c2 W hW; rwa [decide_eq_true hm] at this
   clear xE xK xG xB c2 hm
   subst h0
   go_enter Tryz.func74, Tryz.ntmps74
   go_wp2_with (first
    | (go_at_call 124; refine (c1 _).mono ?_; rintro e w1 ⟨rfl, hb⟩; have hB := below_box hb; obtain ⟨⟨q0, q1, q2⟩, f0, f1, f2⟩ := ((box3_new _ _ _ _ _).below hb).alloc (.cells #[.int .i64 K, .int .i64 G, .string B] 115); replace hB := hB.alloc hB.size (.cells #[.int .i64 K, .int .i64 G, .string B] 115); clear hb)
    | (go_at_call 125; refine (hd _ hB).mono ?_; rintro e w2 ⟨rfl, rfl⟩))
   obtain ⟨z0, z1, z2⟩ := set3_cells (v0 := .int .i64 K) (v1 := .int .i64 G) (v2 := .string B) q0 q1 q2
   exact bodyPost_ret (v := .tuple #[.agg #[.int .i64 K, .int .i64 G, .string B], .int .i64 0]) (by simp [results, Tryz.results74, go_sem, z0, z1, z2]) rfl ⟨rfl, below_set3 hB (Nat.le_refl _)⟩
  ·
   rw [if_neg hm] at xE
   rw [xE] at xK xG xB ⊢
   rw [show rK = 0 from xK, show rG = 0 from xG, show rB = ⟨#[]⟩ from xB]
   have hd : ∀ W, Below w.heap.size w W → Calls Tryz.prog 125 #[.slice a n c, .int .i64 K] W fun e w' => e = .returned (.bool false) ∧ W = w' := by
    intro W hW; have := c2 W hW; rwa [decide_eq_false hm] at this
   clear xE xK xG xB c2 hm
   subst h0
   go_enter Tryz.func74, Tryz.ntmps74
   go_wp2_with (first
    | (go_at_call 124; refine (c1 _).mono ?_; rintro e w1 ⟨rfl, hb⟩; have hB := below_box hb; obtain ⟨⟨q0, q1, q2⟩, f0, f1, f2⟩ := ((box3_new _ _ _ _ _).below hb).alloc (.cells #[.int .i64 K, .int .i64 G, .string B] 115); replace hB := hB.alloc hB.size (.cells #[.int .i64 K, .int .i64 G, .string B] 115); clear hb)
    | (go_at_call 125; refine (hd _ hB).mono ?_; rintro e w2 ⟨rfl, rfl⟩))
   obtain ⟨z0, z1, z2⟩ := set3_cells (v0 := .int .i64 0) (v1 := .int .i64 0) (v2 := .string ⟨#[]⟩) q0 q1 q2
   exact bodyPost_ret (v := .tuple #[.agg #[.int .i64 0, .int .i64 0, .string ⟨#[]⟩], .int .i64 40]) (by simp [results, Tryz.results74, go_sem, z0, z1, z2]) rfl ⟨rfl, below_set3 hB (Nat.le_refl _)⟩
 ·
  rw [if_neg h0] at xE
  rw [if_neg (by rw [xE]; exact h0)] at xK xG xB
  rw [xK, xG, xB, xE]
  clear xE xK xG xB c2
  have h0' : (E == 0) = false := by simpa using h0
  go_enter Tryz.func74, Tryz.ntmps74
  go_wp2_with (first
   | (go_at_call 124; refine (c1 _).mono ?_; rintro e w1 ⟨rfl, hb⟩; have hB := below_box hb; obtain ⟨⟨q0, q1, q2⟩, f0, f1, f2⟩ := ((box3_new _ _ _ _ _).below hb).alloc (.cells #[.int .i64 K, .int .i64 G, .string B] 115); replace hB := hB.alloc hB.size (.cells #[.int .i64 K, .int .i64 G, .string B] 115); clear hb))
  obtain ⟨z0, z1, z2⟩ := set3_cells (v0 := .int .i64 0) (v1 := .int .i64 0) (v2 := .string ⟨#[]⟩) q0 q1 q2
  exact bodyPost_ret (v := .tuple #[.agg #[.int .i64 0, .int .i64 0, .string ⟨#[]⟩], .int .i64 E]) (by simp [results, Tryz.results74, go_sem, z0, z1, z2]) rfl ⟨rfl, below_set3 hB (Nat.le_refl _)⟩
theorem Box3.off {w : World} {h k i : Nat} {v0 v1 v2 u : Value} (b : Box3 w h v0 v1 v2) (hn : h ≠ k) : Box3 (w.setCell ⟨k, i, none⟩ u) h v0 v1 v2 := by
 obtain ⟨⟨b0, b1, b2⟩, f0, f1, f2⟩ := b
 exact ⟨⟨cell_set_other (.inl hn) b0, cell_set_other (.inl hn) b1, cell_set_other (.inl hn) b2⟩, by simpa using f0, by simpa using f1, by simpa using f2⟩
set_option maxHeartbeats 1000000 in
theorem told_any (k g : Int) (b : ByteArray) (w : World) (hb : b.size = 6) :
  Calls Tryz.prog 121 #[.agg #[.int .i64 k, .int .i64 g, .string b]] w fun e w' => e = .returned (.agg #[.int .i64 g, .int .i64 (getV b 0 2), .int .i64 (getV b 2 2), .int .i64 (getV b 4 2)]) ∧ Below w.heap.size w w' := by
 have hs : b.size ≤ maxLen := by rw [hb]; decide
 have c : ∀ (p : Nat), p + 2 ≤ 6 → ∀ W, Calls Tryz.prog 131 #[.string b, .int .i64 p, .int .i64 2] W fun e w' => ∃ v, e = .returned (.tuple #[.int .i64 (getV b p 2), .int .i64 (p + 2), .int .i64 v]) ∧ W = w' := by
  intro p hp W
  have e : getE b p 2 = 0 := getE_zero ⟨by omega, by omega, by omega, by omega⟩
  refine (get_any b p 2 W hs).mono fun ee w' ⟨he, hb⟩ => ⟨0, ?_, hb⟩
  rw [he, getR, getT, e]; rfl
 have c1 : ∀ W, Calls Tryz.prog 131 #[.string b, .int .i64 0, .int .i64 2] W fun e w' => ∃ v, e = .returned (.tuple #[.int .i64 (getV b 0 2), .int .i64 2, .int .i64 v]) ∧ W = w' := c 0 (by omega)
 have c2 : ∀ W, Calls Tryz.prog 131 #[.string b, .int .i64 2, .int .i64 2] W fun e w' => ∃ v, e = .returned (.tuple #[.int .i64 (getV b 2 2), .int .i64 4, .int .i64 v]) ∧ W = w' := c 2 (by omega)
 have c3 : ∀ W, Calls Tryz.prog 131 #[.string b, .int .i64 4, .int .i64 2] W fun e w' => ∃ v, e = .returned (.tuple #[.int .i64 (getV b 4 2), .int .i64 6, .int .i64 v]) ∧ W = w' := c 4 (by omega)
 obtain ⟨A, hA⟩ : ∃ A, A = getV b 0 2 := ⟨_, rfl⟩
 obtain ⟨B, hB⟩ : ∃ A, A = getV b 2 2 := ⟨_, rfl⟩
 obtain ⟨C, hC⟩ : ∃ A, A = getV b 4 2 := ⟨_, rfl⟩
 rw [← hA] at c1
 rw [← hB] at c2
 rw [← hC] at c3
 rw [← hA, ← hB, ← hC]
 clear hA hB hC c hs hb
 go_enter Tryz.func121, Tryz.ntmps121
 go_wp2
 have i0 : ∀ (x0 x1 x2 : Value) (W : World), (Instr.index 196 (.agg #[x0, x1, x2]) (.int .i64 0)).run Tryz.prog W = .ok x0 W := fun _ _ _ _ => by kernel_rfl
 have i1 : ∀ (x0 x1 x2 : Value) (W : World), (Instr.index 196 (.agg #[x0, x1, x2]) (.int .i64 1)).run Tryz.prog W = .ok x1 W := fun _ _ _ _ => by kernel_rfl
 have i2 : ∀ (x0 x1 x2 : Value) (W : World), (Instr.index 196 (.agg #[x0, x1, x2]) (.int .i64 2)).run Tryz.prog W = .ok x2 W := fun _ _ _ _ => by kernel_rfl
 go_loopw [4, 14] (fun a i wr => Box3 wr w.heap.size (.int .i64 k) (.int .i64 g) (.string b) ∧ Box4 wr (w.heap.size + 1) (.int .i64 0) (.int .i64 0) (.int .i64 0) (.int .i64 0) ∧ Below w.heap.size w wr ∧
   ((a = .int .i64 0 ∧ i = .int .i64 0 ∧ Box4 wr (w.heap.size + 1 + 1) (.int .i64 g) (.int .i64 0) (.int .i64 0) (.int .i64 0)) ∨
    (a = .int .i64 2 ∧ i = .int .i64 1 ∧ Box4 wr (w.heap.size + 1 + 1) (.int .i64 g) (.int .i64 A) (.int .i64 0) (.int .i64 0)) ∨
    (a = .int .i64 4 ∧ i = .int .i64 2 ∧ Box4 wr (w.heap.size + 1 + 1) (.int .i64 g) (.int .i64 A) (.int .i64 B) (.int .i64 0)) ∨
    (a = .int .i64 6 ∧ i = .int .i64 3 ∧ Box4 wr (w.heap.size + 1 + 1) (.int .i64 g) (.int .i64 A) (.int .i64 B) (.int .i64 C)))) (fun _ i _ => 3 - (intOf i).toNat)
 case atStart =>
  refine ⟨((box3_new w _ _ _ _).alloc _).alloc _, (box4_new _ _ _ _ _ _ (by simp)).alloc _, (((Below.refl _ _).alloc (Nat.le_refl _) _).alloc (by simp) _).alloc (by simp; omega) _, .inl ⟨rfl, rfl, box4_new _ _ _ _ _ _ (by simp)⟩⟩
 case round =>
  obtain ⟨P, R, hB, hrel⟩ := hrel
  obtain ⟨⟨p0, p1, p2⟩, -⟩ := id P
  rcases hrel with ⟨rfl, rfl, T⟩ | ⟨rfl, rfl, T⟩ | ⟨rfl, rfl, T⟩ | ⟨rfl, rfl, T⟩
  ·
   obtain ⟨⟨t0, t1, t2, t3⟩, f0, f1, f2, f3⟩ := id T
   go_wp2_with (go_at_call 131; refine (c1 _).mono ?_; rintro e w' ⟨v, rfl, rfl⟩)
   go_roundw
   case rel => exact ⟨P.off (by omega), R.off (by omega), hB.setCell (p := ⟨_, 1, none⟩) (by show w.heap.size ≤ w.heap.size + 1 + 1; omega) _, .inr (.inl ⟨rfl, rfl, T.put1 _⟩)⟩
   case measure => simp [intOf]
  ·
   obtain ⟨⟨t0, t1, t2, t3⟩, f0, f1, f2, f3⟩ := id T
   go_wp2_with (go_at_call 131; refine (c2 _).mono ?_; rintro e w' ⟨v, rfl, rfl⟩)
   go_roundw
   case rel => exact ⟨P.off (by omega), R.off (by omega), hB.setCell (p := ⟨_, 2, none⟩) (by show w.heap.size ≤ w.heap.size + 1 + 1; omega) _, .inr (.inr (.inl ⟨rfl, rfl, T.put2 _⟩))⟩
   case measure => simp [intOf]
  ·
   obtain ⟨⟨t0, t1, t2, t3⟩, f0, f1, f2, f3⟩ := id T
   go_wp2_with (go_at_call 131; refine (c3 _).mono ?_; rintro e w' ⟨v, rfl, rfl⟩)
   go_roundw
   case rel => exact ⟨P.off (by omega), R.off (by omega), hB.setCell (p := ⟨_, 3, none⟩) (by show w.heap.size ≤ w.heap.size + 1 + 1; omega) _, .inr (.inr (.inr ⟨rfl, rfl, T.put3 _⟩))⟩
   case measure => simp [intOf]
  ·
   obtain ⟨⟨t0, t1, t2, t3⟩, -⟩ := id T
   obtain ⟨⟨r0, r1, r2, r3⟩, e0, e1, e2, e3⟩ := id R
   go_wp2
   obtain ⟨⟨z0, z1, z2, z3⟩, -⟩ := R.puts (.int .i64 g) (.int .i64 A) (.int .i64 B) (.int .i64 C)
   exact bodyPost_ret (v := .agg #[.int .i64 g, .int .i64 A, .int .i64 B, .int .i64 C]) (by simp [results, Tryz.results121, go_sem, z0, z1, z2, z3]) rfl ⟨rfl, below_set4 hB (by omega)⟩
set_option maxHeartbeats 1000000 in
theorem suGet_any (s : ByteArray) (w : World) (hs : s.size ≤ maxLen) :
  Calls Tryz.prog 72 #[.string s] w fun e w' => e = .returned (.tuple #[.agg #[.int .i64 (suG s), .int .i64 (suR s), .int .i64 (suM s), .int .i64 (suZ s)], .int .i64 (suE s)]) ∧ Below w.heap.size w w' := by
 have c1 : ∀ W : World, Calls Tryz.prog 74 #[.string s, .slice (some ⟨W.heap.size, 0, none⟩) 1 1] (W.alloc (.cells #[.int .i64 4] 3)) fun e w' => e = .returned (.tuple #[.agg #[.int .i64 (wantK s [4]), .int .i64 (wantG s [4]), .string (wantB s [4])], .int .i64 (wantE s [4])]) ∧ Below W.heap.size W w' := by
  intro W
  exact (want_any s _ 1 [4] _ hs (isI_one W 4)).mono fun e w' ⟨he, hb⟩ => ⟨he, below_box hb⟩
 have eE : wantE s [4] = if readE s = 0 then (if readK s = 4 then 0 else 40) else readE s := by unfold wantE; simp
 obtain ⟨K, hK⟩ : ∃ x, x = wantK s [4] := ⟨_, rfl⟩
 obtain ⟨G, hG⟩ : ∃ x, x = wantG s [4] := ⟨_, rfl⟩
 obtain ⟨B, hBB⟩ : ∃ x, x = wantB s [4] := ⟨_, rfl⟩
 obtain ⟨E, hE⟩ : ∃ x, x = wantE s [4] := ⟨_, rfl⟩
 rw [← hK, ← hG, ← hBB, ← hE] at c1
 have c1' : ∀ W : World, Calls Tryz.prog 74 #[.string s, .slice (some ⟨W.heap.size + 1, 0, none⟩) 1 1] ((W.alloc (.cells #[.int .i64 0, .int .i64 0, .int .i64 0, .int .i64 0] 35)).alloc (.cells #[.int .i64 4] 3)) fun e w' => e = .returned (.tuple #[.agg #[.int .i64 K, .int .i64 G, .string B], .int .i64 E]) ∧ Below (W.alloc (.cells #[.int .i64 0, .int .i64 0, .int .i64 0, .int .i64 0] 35)).heap.size (W.alloc (.cells #[.int .i64 0, .int .i64 0, .int .i64 0, .int .i64 0] 35)) w' := by
  intro W
  have e : (W.alloc (.cells #[.int .i64 0, .int .i64 0, .int .i64 0, .int .i64 0] 35)).heap.size = W.heap.size + 1 := by simp
  rw [← e]
  exact c1 _
 clear c1
 have c1 := c1'
 clear c1'
 by_cases h0 : E = 0
 ·
  have hr : readE s = 0 ∧ readK s = 4 := by
   rw [hE, eE] at h0
   by_cases a : readE s = 0
   ·
    rw [if_pos a] at h0
    by_cases b : readK s = 4
    ·
     exact ⟨a, b⟩
    ·
     rw [if_neg b] at h0; omega
   ·
    rw [if_neg a] at h0; exact absurd h0 a
  have eB : B = readB s := by rw [hBB, wantB, if_pos (hE.symm.trans h0)]
  have eG : G = readG s := by rw [hG, wantG, if_pos (hE.symm.trans h0)]
  by_cases h6 : (readB s).size = 6
  ·
   have c2 : ∀ W, Calls Tryz.prog 121 #[.agg #[.int .i64 K, .int .i64 G, .string B]] W fun e w' => e = .returned (.agg #[.int .i64 G, .int .i64 (getV B 0 2), .int .i64 (getV B 2 2), .int .i64 (getV B 4 2)]) ∧ Below W.heap.size W w' := fun W => told_any K G B W (by rw [eB]; exact h6)
   have c3 : ∀ W, Calls Tryz.prog 55 #[.agg #[.int .i64 G, .int .i64 (getV B 0 2), .int .i64 (getV B 2 2), .int .i64 (getV B 4 2)]] W fun e w' => e = .returned (.bool (rightSu G (getV B 0 2) (getV B 2 2) (getV B 4 2))) ∧ Below W.heap.size W w' := fun W => suRight_any _ _ _ _ W
   have hE' : suE s = if rightSu G (getV B 0 2) (getV B 2 2) (getV B 4 2) then 0 else 4 := by rw [suE, if_pos hr.1, if_pos hr.2, if_pos h6, eG, eB]
   have h6' : (B.size : Int) = 6 := by rw [eB]; omega
   have zG : suG s = if suE s = 0 then G else 0 := by rw [suG, eG]
   have zR : suR s = if suE s = 0 then getV B 0 2 else 0 := by rw [suR, eB]
   have zM : suM s = if suE s = 0 then getV B 2 2 else 0 := by rw [suM, eB]
   have zZ : suZ s = if suE s = 0 then getV B 4 2 else 0 := by rw [suZ, eB]
   obtain ⟨X, hX⟩ : ∃ x, x = getV B 0 2 := ⟨_, rfl⟩
   obtain ⟨Y, hY⟩ : ∃ x, x = getV B 2 2 := ⟨_, rfl⟩
   obtain ⟨Z, hZ⟩ : ∃ x, x = getV B 4 2 := ⟨_, rfl⟩
   rw [← hX, ← hY, ← hZ] at c2 c3 hE'
   rw [← hX] at zR
   rw [← hY] at zM
   rw [← hZ] at zZ
   clear hX hY hZ eB eG hK hG hBB hE eE h6 hr
   subst h0
   cases hd : rightSu G X Y Z with
   | true =>
    rw [hd, if_pos rfl] at hE'
    rw [if_pos hE'] at zG zR zM zZ
    rw [hE', zG, zR, zM, zZ]
    rw [hd] at c3
    clear hd hE' zG zR zM zZ
    go_enter Tryz.func72, Tryz.ntmps72
    go_wp2_with (first
   | (go_at_call 74; refine (c1 _).mono ?_; rintro e w1 ⟨rfl, hb⟩; have R := (box4_cells hb).alloc (.cells #[.int .i64 K, .int .i64 G, .string B] 115); have hB := below_box hb; replace hB := hB.alloc hB.size (.cells #[.int .i64 K, .int .i64 G, .string B] 115); have P := box3_new w1 (.int .i64 K) (.int .i64 G) (.string B) 115; obtain ⟨⟨p0, p1, p2⟩, -⟩ := id P; obtain ⟨⟨r0, r1, r2, r3⟩, f0, f1, f2, f3⟩ := id R; clear hb)
   | (go_at_call 121; refine (c2 _).mono ?_; rintro e w2 ⟨rfl, hb⟩; replace R := (R.below hb).alloc (.cells #[.int .i64 G, .int .i64 X, .int .i64 Y, .int .i64 Z] 35); replace hB := Below.tr hB hb; replace hB := hB.alloc hB.size (.cells #[.int .i64 G, .int .i64 X, .int .i64 Y, .int .i64 Z] 35); have T := box4_new w2 (.int .i64 G) (.int .i64 X) (.int .i64 Y) (.int .i64 Z) 35 rfl; obtain ⟨⟨t0, t1, t2, t3⟩, -⟩ := id T; clear hb p0 p1 p2 P r0 r1 r2 r3 f0 f1 f2 f3)
   | (go_at_call 55; refine (c3 _).mono ?_; rintro e w3 ⟨rfl, hb⟩; replace R := R.below hb; replace T := T.below hb; replace hB := Below.tr hB hb; obtain ⟨⟨t0, t1, t2, t3⟩, -⟩ := id T; obtain ⟨⟨r0, r1, r2, r3⟩, f0, f1, f2, f3⟩ := id R; clear hb)
     )
    obtain ⟨⟨z0, z1, z2, z3⟩, -⟩ := R.puts (.int .i64 G) (.int .i64 X) (.int .i64 Y) (.int .i64 Z)
    exact bodyPost_ret (v := .tuple #[.agg #[.int .i64 G, .int .i64 X, .int .i64 Y, .int .i64 Z], .int .i64 0]) (by simp [results, Tryz.results72, go_sem, z0, z1, z2, z3]) rfl ⟨rfl, below_set4 hB (Nat.le_refl _)⟩
   | false =>
    rw [hd, if_neg (by decide)] at hE'
    rw [if_neg (by omega)] at zG zR zM zZ
    rw [hE', zG, zR, zM, zZ]
    rw [hd] at c3
    clear hd hE' zG zR zM zZ
    go_enter Tryz.func72, Tryz.ntmps72
    go_wp2_with (first
   | (go_at_call 74; refine (c1 _).mono ?_; rintro e w1 ⟨rfl, hb⟩; have R := (box4_cells hb).alloc (.cells #[.int .i64 K, .int .i64 G, .string B] 115); have hB := below_box hb; replace hB := hB.alloc hB.size (.cells #[.int .i64 K, .int .i64 G, .string B] 115); have P := box3_new w1 (.int .i64 K) (.int .i64 G) (.string B) 115; obtain ⟨⟨p0, p1, p2⟩, -⟩ := id P; obtain ⟨⟨r0, r1, r2, r3⟩, f0, f1, f2, f3⟩ := id R; clear hb)
   | (go_at_call 121; refine (c2 _).mono ?_; rintro e w2 ⟨rfl, hb⟩; replace R := (R.below hb).alloc (.cells #[.int .i64 G, .int .i64 X, .int .i64 Y, .int .i64 Z] 35); replace hB := Below.tr hB hb; replace hB := hB.alloc hB.size (.cells #[.int .i64 G, .int .i64 X, .int .i64 Y, .int .i64 Z] 35); have T := box4_new w2 (.int .i64 G) (.int .i64 X) (.int .i64 Y) (.int .i64 Z) 35 rfl; obtain ⟨⟨t0, t1, t2, t3⟩, -⟩ := id T; clear hb p0 p1 p2 P r0 r1 r2 r3 f0 f1 f2 f3)
   | (go_at_call 55; refine (c3 _).mono ?_; rintro e w3 ⟨rfl, hb⟩; replace R := R.below hb; replace T := T.below hb; replace hB := Below.tr hB hb; obtain ⟨⟨t0, t1, t2, t3⟩, -⟩ := id T; obtain ⟨⟨r0, r1, r2, r3⟩, f0, f1, f2, f3⟩ := id R; clear hb)
     )
    obtain ⟨⟨z0, z1, z2, z3⟩, -⟩ := R.puts (.int .i64 0) (.int .i64 0) (.int .i64 0) (.int .i64 0)
    exact bodyPost_ret (v := .tuple #[.agg #[.int .i64 0, .int .i64 0, .int .i64 0, .int .i64 0], .int .i64 4]) (by simp [results, Tryz.results72, go_sem, z0, z1, z2, z3]) rfl ⟨rfl, below_set4 hB (Nat.le_refl _)⟩
  ·
   have hE' : suE s = 4 := by rw [suE, if_pos hr.1, if_pos hr.2, if_neg h6]
   have h6' : ((B.size : Int) == 6) = false := by rw [beq_eq_false_iff_ne, eB]; omega
   have hl : B.size ≤ 9223372036854775807 := by
    rw [eB, readB, if_pos hr.1]
    have hs4 : s.size ≤ 4096 := by
     by_cases hs : s.size ≤ 4096
     ·
      exact hs
     ·
      have := hr.1; rw [readE, if_neg hs] at this; omega
    unfold fB
    rw [ByteArray.size_extract, fullS_size hs4]
    omega
   rw [suG, suR, suM, suZ, hE', if_neg (by decide), if_neg (by decide), if_neg (by decide), if_neg (by decide)]
   clear hE' eB eG hK hG hBB hE eE h6 hr
   subst h0
   go_enter Tryz.func72, Tryz.ntmps72
   go_wp2_with (first
   | (go_at_call 74; refine (c1 _).mono ?_; rintro e w1 ⟨rfl, hb⟩; have R := (box4_cells hb).alloc (.cells #[.int .i64 K, .int .i64 G, .string B] 115); have hB := below_box hb; replace hB := hB.alloc hB.size (.cells #[.int .i64 K, .int .i64 G, .string B] 115); have P := box3_new w1 (.int .i64 K) (.int .i64 G) (.string B) 115; obtain ⟨⟨p0, p1, p2⟩, -⟩ := id P; obtain ⟨⟨r0, r1, r2, r3⟩, f0, f1, f2, f3⟩ := id R; clear hb)
    )
   obtain ⟨⟨z0, z1, z2, z3⟩, -⟩ := R.puts (.int .i64 0) (.int .i64 0) (.int .i64 0) (.int .i64 0)
   exact bodyPost_ret (v := .tuple #[.agg #[.int .i64 0, .int .i64 0, .int .i64 0, .int .i64 0], .int .i64 4]) (by simp [results, Tryz.results72, go_sem, z0, z1, z2, z3]) rfl ⟨rfl, below_set4 hB (Nat.le_refl _)⟩
 ·
  have hE' : suE s = E := by
   rw [hE, eE, suE]
   rw [hE, eE] at h0
   by_cases a : readE s = 0
   ·
    rw [if_pos a, if_pos a]
    rw [if_pos a] at h0
    by_cases b : readK s = 4
    ·
     rw [if_pos b] at h0; exact absurd rfl h0
    ·
     rw [if_neg b, if_neg b]
   ·
    rw [if_neg a, if_neg a]
  rw [suG, suR, suM, suZ, hE', if_neg h0, if_neg h0, if_neg h0, if_neg h0]
  have h0' : (E == 0) = false := by simpa using h0
  clear hE' hK hG hBB hE eE
  go_enter Tryz.func72, Tryz.ntmps72
  go_wp2_with (first
   | (go_at_call 74; refine (c1 _).mono ?_; rintro e w1 ⟨rfl, hb⟩; have R := (box4_cells hb).alloc (.cells #[.int .i64 K, .int .i64 G, .string B] 115); have hB := below_box hb; replace hB := hB.alloc hB.size (.cells #[.int .i64 K, .int .i64 G, .string B] 115); have P := box3_new w1 (.int .i64 K) (.int .i64 G) (.string B) 115; obtain ⟨⟨p0, p1, p2⟩, -⟩ := id P; obtain ⟨⟨r0, r1, r2, r3⟩, f0, f1, f2, f3⟩ := id R; clear hb)
   )
  obtain ⟨⟨z0, z1, z2, z3⟩, -⟩ := R.puts (.int .i64 0) (.int .i64 0) (.int .i64 0) (.int .i64 0)
  exact bodyPost_ret (v := .tuple #[.agg #[.int .i64 0, .int .i64 0, .int .i64 0, .int .i64 0], .int .i64 E]) (by simp [results, Tryz.results72, go_sem, z0, z1, z2, z3]) rfl ⟨rfl, below_set4 hB (Nat.le_refl _)⟩
end Go.Proofs.YtaobfgplheoefaaGreat
namespace Go.Proofs.YtaobfgplheoefaaGreat.Anylast
open Go
def fit (ops : Array Oper) (n : Nat) : Bool :=
 (List.range ops.size).all fun i => match ops[i]? with
  | none => true
  | some o => (o.after.toList.all fun e => !Region.binds .any e || decide (e.on < i)) &&
   match o.dst with
   | none => true
   | some d => decide (d < n) && (List.range ops.size).all fun j => match ops[j]? with
    | none => true
    | some oj => oj.dst != some d || j == i
theorem fit_spec {ops : Array Oper} {n : Nat} (h : fit ops n = true) {i : Nat} {o : Oper} (hi : ops[i]? = some o) :
  (∀ e ∈ o.after, Region.binds .any e = true → e.on < i) ∧ ∀ d, o.dst = some d → d < n ∧ ∀ j oj, ops[j]? = some oj → oj.dst = some d → j = i := by
 have hlt : i < ops.size := (Array.getElem?_eq_some_iff.1 hi).1
 unfold fit at h
 rw [List.all_eq_true] at h
 have h1 := h i (List.mem_range.2 hlt)
 rw [hi] at h1
 simp only [Bool.and_eq_true, List.all_eq_true] at h1
 obtain ⟨ha, hb⟩ := h1
 refine ⟨fun e he hbn => ?_, fun d hd => ?_⟩
 ·
  have h3 := ha e (Array.mem_toList_iff.2 he)
  rw [hbn] at h3
  simpa using h3
 rw [hd] at hb
 simp only [Bool.and_eq_true, List.all_eq_true, decide_eq_true_eq] at hb
 refine ⟨hb.1, fun j oj hj hdj => ?_⟩
 have hjlt : j < ops.size := (Array.getElem?_eq_some_iff.1 hj).1
 have h2 := hb.2 j (List.mem_range.2 hjlt)
 rw [hj] at h2
 simp only [hdj] at h2
 simpa using h2
def waits (o : Oper) (j : Nat) : Bool := o.after.toList.any fun e => Region.binds .any e && e.on == j
theorem waits_spec {o : Oper} {j : Nat} : waits o j = true ↔ ∃ e ∈ o.after, Region.binds .any e = true ∧ e.on = j := by
 unfold waits
 rw [List.any_eq_true]
 constructor
 ·
  rintro ⟨e, he, h⟩
  rw [Bool.and_eq_true, beq_iff_eq] at h
  exact ⟨e, Array.mem_toList_iff.1 he, h.1, h.2⟩
 ·
  rintro ⟨e, he, h1, h2⟩
  exact ⟨e, Array.mem_toList_iff.2 he, by rw [Bool.and_eq_true, beq_iff_eq]; exact ⟨h1, h2⟩⟩
def free (ops : Array Oper) (i d : Nat) : Bool :=
 (List.range ops.size).all fun j => match ops[j]? with
  | none => true
  | some oj => oj.dst != some d || j == i || waits oj i
theorem free_spec {ops : Array Oper} {i d : Nat} (h : free ops i d = true) {j : Nat} {oj : Oper} (hj : ops[j]? = some oj) (hd : oj.dst = some d) : j = i ∨ ∃ e ∈ oj.after, Region.binds .any e = true ∧ e.on = i := by
 unfold free at h
 rw [List.all_eq_true] at h
 have h1 := h j (List.mem_range.2 (Array.getElem?_eq_some_iff.1 hj).1)
 rw [hj] at h1
 simp only [hd] at h1
 rw [← waits_spec]
 simpa using h1
def Amid (ops : Array Oper) (a0 : Act) (V : Nat → Value → World → Prop) (S : Array Bool → World → Prop) (listed : Array Bool) (a : Act) (w : World) : Prop :=
 (S listed w) ∧
 (a.defers = a0.defers) ∧
 (a.tmps.size = a0.tmps.size) ∧
 (listed.size = ops.size) ∧
 (∀ (j : Nat) (oj : Oper), ops[j]? = some oj → listed.getD j false = true → ∀ e ∈ oj.after, Region.binds .any e = true → listed.getD e.on false = true) ∧
 (∀ d : Nat, (∀ (j : Nat) (oj : Oper), ops[j]? = some oj → oj.dst = some d → listed.getD j false = false) → a.tmps[d]? = a0.tmps[d]?) ∧
 (∀ (j : Nat) (oj : Oper) (d : Nat), ops[j]? = some oj → oj.dst = some d → listed.getD j false = true → ∃ v, a.tmps[d]? = some v ∧ V j v w)
theorem Amid.held {ops : Array Oper} {a0 : Act} {V : Nat → Value → World → Prop} {S : Array Bool → World → Prop} {listed : Array Bool} {a : Act} {w : World} (h : Amid ops a0 V S listed a w) : S listed w := h.1
theorem Amid.defers {ops : Array Oper} {a0 : Act} {V : Nat → Value → World → Prop} {S : Array Bool → World → Prop} {listed : Array Bool} {a : Act} {w : World} (h : Amid ops a0 V S listed a w) : a.defers = a0.defers := h.2.1
theorem Amid.size {ops : Array Oper} {a0 : Act} {V : Nat → Value → World → Prop} {S : Array Bool → World → Prop} {listed : Array Bool} {a : Act} {w : World} (h : Amid ops a0 V S listed a w) : a.tmps.size = a0.tmps.size := h.2.2.1
theorem Amid.lsize {ops : Array Oper} {a0 : Act} {V : Nat → Value → World → Prop} {S : Array Bool → World → Prop} {listed : Array Bool} {a : Act} {w : World} (h : Amid ops a0 V S listed a w) : listed.size = ops.size := h.2.2.2.1
theorem Amid.closed {ops : Array Oper} {a0 : Act} {V : Nat → Value → World → Prop} {S : Array Bool → World → Prop} {listed : Array Bool} {a : Act} {w : World} (h : Amid ops a0 V S listed a w) : ∀ (j : Nat) (oj : Oper), ops[j]? = some oj → listed.getD j false = true → ∀ e ∈ oj.after, Region.binds .any e = true → listed.getD e.on false = true := h.2.2.2.2.1
theorem Amid.same {ops : Array Oper} {a0 : Act} {V : Nat → Value → World → Prop} {S : Array Bool → World → Prop} {listed : Array Bool} {a : Act} {w : World} (h : Amid ops a0 V S listed a w) : ∀ d : Nat, (∀ (j : Nat) (oj : Oper), ops[j]? = some oj → oj.dst = some d → listed.getD j false = false) → a.tmps[d]? = a0.tmps[d]? := h.2.2.2.2.2.1
theorem Amid.val {ops : Array Oper} {a0 : Act} {V : Nat → Value → World → Prop} {S : Array Bool → World → Prop} {listed : Array Bool} {a : Act} {w : World} (h : Amid ops a0 V S listed a w) : ∀ (j : Nat) (oj : Oper) (d : Nat), ops[j]? = some oj → oj.dst = some d → listed.getD j false = true → ∃ v, a.tmps[d]? = some v ∧ V j v w := h.2.2.2.2.2.2
theorem getD_set (listed : Array Bool) (i j : Nat) (hi : i < listed.size) (b : Bool) : (listed.setIfInBounds i true).getD j b = if j = i then true else listed.getD j b := by
 simp only [Array.getD_eq_getD_getElem?, Array.getElem?_setIfInBounds]
 by_cases h : i = j
 ·
  subst h; simp [hi]
 ·
  rw [if_neg h, if_neg (fun e => h e.symm)]
def left (listed : Array Bool) : Nat := listed.toList.countP (fun b => !b)
theorem left_set (listed : Array Bool) (i : Nat) (hi : i < listed.size) (h : listed.getD i true = false) : left (listed.setIfInBounds i true) + 1 = left listed := by
 unfold left
 rw [Array.toList_setIfInBounds]
 have hl : i < listed.toList.length := by simpa using hi
 have hv : listed.toList[i] = false := by
  simp only [Array.getD_eq_getD_getElem?, Array.getElem?_eq_getElem hi, Option.getD_some] at h
  simpa using h
 have hpos : 0 < listed.toList.countP (fun b => !b) := by
  rw [List.countP_pos_iff]
  exact ⟨false, by rw [← hv]; exact List.getElem_mem hl, rfl⟩
 rw [List.countP_set hl, hv]
 have e1 : (!false) = true := rfl
 have e2 : (!true) = false := rfl
 simp only [e1, e2, if_true, Bool.false_eq_true, if_false, Nat.add_zero]
 omega
theorem getD_both {listed : Array Bool} {i : Nat} (hi : i < listed.size) (b c : Bool) : listed.getD i b = listed.getD i c := by
 simp [Array.getD_eq_getD_getElem?, hi]
theorem any_inv {P : Program} {ops : Array Oper} {Q : Exit → Act → World → Prop} {a0 : Act} (V : Nat → Value → World → Prop) (S : Array Bool → World → Prop) (R : World → World → Prop)
  (hfit : fit ops a0.tmps.size = true)
  (hmono : ∀ i v w w', R w w' → V i v w → V i v w')
  (hstep : ∀ i o, ops[i]? = some o → ∀ listed a w, i < listed.size → listed.getD i false = false → (∀ (j : Nat) (oj : Oper), ops[j]? = some oj → listed.getD j false = true → ∀ e ∈ oj.after, Region.binds .any e = true → listed.getD e.on false = true) → (∀ e ∈ o.after, Region.binds .any e = true → listed.getD e.on false = true) → S listed w → a.defers = a0.defers → a.tmps.size = a0.tmps.size →
   (∀ j oj d, ops[j]? = some oj → oj.dst = some d → waits o j = true → ∃ v, a.tmps[d]? = some v ∧ V j v w) →
   (∀ d, free ops i d = true → a.tmps[d]? = a0.tmps[d]?) →
   wpOp P ops Q i (fun a' w' => ∃ v, a' = a.put o.dst v ∧ V i v w' ∧ S (listed.setIfInBounds i true) w' ∧ R w w') a w)
  (hdone : ∀ listed a w, (∀ i, i < ops.size → listed.getD i false = true) → S listed w → a.defers = a0.defers → a.tmps.size = a0.tmps.size →
   (∀ d, (∀ (j : Nat) (oj : Oper), ops[j]? = some oj → oj.dst ≠ some d) → a.tmps[d]? = a0.tmps[d]?) →
   (∀ j oj d, ops[j]? = some oj → oj.dst = some d → ∃ v, a.tmps[d]? = some v ∧ V j v w) → Q .normal a w) :
  ∀ (fuel : Nat) (listed : Array Bool) (a : Act) (w : World), left listed = fuel → Amid ops a0 V S listed a w → wpAny P .any ops Q fuel listed a w := by
 have hend : ∀ (listed : Array Bool) (a : Act) (w : World), Amid ops a0 V S listed a w → Region.ready .any ops listed = [] → Q .normal a w := by
  intro listed a w hI hr
  have hall : ∀ i, i < ops.size → listed.getD i false = true := by
   intro i
   induction i using Nat.strongRecOn with
   | _ i ih =>
    intro hi
    have hi' : i < listed.size := by rw [hI.lsize]; exact hi
    cases hc : listed.getD i false with
    | true => rfl
    | false =>
     exfalso
     have hm : i ∈ Region.ready .any ops listed := by
      rw [mem_ready]
      refine ⟨by rw [getD_both hi' true false]; exact hc, _, Array.getElem?_eq_getElem hi, fun e he hbn => ?_⟩
      have hlt := (fit_spec hfit (Array.getElem?_eq_getElem hi)).1 e he hbn
      exact ih e.on hlt (by omega)
     rw [hr] at hm
     cases hm
  refine hdone listed a w hall hI.held hI.defers hI.size (fun d hd => hI.same d fun j oj hj hdj => absurd hdj (hd j oj hj)) fun j oj d hj hd => hI.val j oj d hj hd (hall j (Array.getElem?_eq_some_iff.1 hj).1)
 have hone : ∀ (listed : Array Bool) (a : Act) (w : World) (i : Nat), Amid ops a0 V S listed a w → i ∈ Region.ready .any ops listed → wpOp P ops Q i (Amid ops a0 V S (listed.setIfInBounds i true)) a w := by
  intro listed a w i hI hi
  obtain ⟨h0, o, ho, hall⟩ := mem_ready.1 hi
  have hlt : i < ops.size := (Array.getElem?_eq_some_iff.1 ho).1
  have hlt' : i < listed.size := by rw [hI.lsize]; exact hlt
  have h0' : listed.getD i false = false := by rw [getD_both hlt' false true]; exact h0
  obtain ⟨_, hdst⟩ := fit_spec hfit ho
  refine wpOp_mono ?_ (hstep i o ho listed a w hlt' h0' hI.closed hall hI.held hI.defers hI.size ?_ ?_)
  ·
   rintro a' w' ⟨v, rfl, hV, hS, hR⟩
   refine ⟨hS, ?_, ?_, by rw [Array.size_setIfInBounds]; exact hI.lsize, ?_, ?_, ?_⟩
   ·
    cases hd : o.dst <;> exact hI.defers
   ·
    cases hd : o.dst with
    | none => exact hI.size
    | some d => simpa [Act.put] using hI.size
   ·
    intro j oj hj hl e he hb
    rw [getD_set _ _ _ hlt']
    by_cases hji : j = i
    ·
     subst hji
     rw [ho] at hj
     cases hj
     have := hall e he hb
     split
     ·
      rfl
     ·
      exact this
    ·
     rw [getD_set _ _ _ hlt', if_neg hji] at hl
     split
     ·
      rfl
     ·
      exact hI.closed j oj hj hl e he hb
   ·
    intro d hd
    have hne : o.dst ≠ some d := by
     intro e
     have := hd i o ho e
     rw [getD_set _ _ _ hlt', if_pos rfl] at this
     cases this
    have hs := hI.same d fun j oj hj hdj => by
     have h := hd j oj hj hdj
     rw [getD_set _ _ _ hlt'] at h
     split at h
     ·
      cases h
     ·
      exact h
    cases hdd : o.dst with
    | none => exact hs
    | some d' =>
     have : d' ≠ d := fun e => hne (by rw [hdd, e])
     simp only [Act.put]
     rw [Array.getElem?_setIfInBounds_ne this]
     exact hs
   ·
    intro j oj d hj hd hl
    by_cases hji : j = i
    ·
     subst hji
     rw [ho] at hj
     cases hj
     refine ⟨v, ?_, hV⟩
     rw [hd]
     have := (hdst d hd).1
     simp only [Act.put]
     rw [Array.getElem?_setIfInBounds_self_of_lt (by rw [hI.size]; exact this)]
    ·
     rw [getD_set _ _ _ hlt', if_neg hji] at hl
     obtain ⟨u, hu, hVu⟩ := hI.val j oj d hj hd hl
     refine ⟨u, ?_, hmono j u _ _ hR hVu⟩
     cases hdd : o.dst with
     | none => exact hu
     | some d' =>
      have : d' ≠ d := fun e => hji ((hdst d' hdd).2 j oj hj (by rw [hd, e]))
      simp only [Act.put]
      rw [Array.getElem?_setIfInBounds_ne this]
      exact hu
  ·
   intro j oj d hj hd hwt
   obtain ⟨e, he, hb, rfl⟩ := waits_spec.1 hwt
   exact hI.val _ oj d hj hd (hall e he hb)
  ·
   intro d hd
   refine hI.same d fun j oj hj hdj => ?_
   cases hc : listed.getD j false with
   | false => rfl
   | true =>
    exfalso
    rcases free_spec hd hj hdj with hji | ⟨e, he, hb, hei⟩
    ·
     subst hji
     rw [h0'] at hc
     cases hc
    ·
     have := hI.closed j oj hj hc e he hb
     rw [hei, h0'] at this
     cases this
 intro fuel
 induction fuel with
 | zero =>
  intro listed a w hl hI
  have hr : Region.ready .any ops listed = [] := by
   cases hr : Region.ready .any ops listed with
   | nil => rfl
   | cons i r =>
    exfalso
    have hi : i ∈ Region.ready .any ops listed := by rw [hr]; exact List.mem_cons_self
    obtain ⟨h0, o, ho, _⟩ := mem_ready.1 hi
    have hlt : i < listed.size := by rw [hI.lsize]; exact (Array.getElem?_eq_some_iff.1 ho).1
    have := left_set listed i hlt h0
    omega
  exact ⟨hr, hend listed a w hI hr⟩
 | succ fuel ih =>
  intro listed a w hl hI
  refine ⟨hend listed a w hI, fun i hi => ?_⟩
  obtain ⟨h0, o, ho, _⟩ := mem_ready.1 hi
  have hlt : i < listed.size := by rw [hI.lsize]; exact (Array.getElem?_eq_some_iff.1 ho).1
  have hls := left_set listed i hlt h0
  exact wpOp_mono (fun a' w' h' => ih _ a' w' (by omega) h') (hone listed a w i hI hi)
theorem region_inv {P : Program} {ops : Array Oper} {Q : Exit → Act → World → Prop} {id : Nat} {a0 : Act} {w0 : World} (hm : P.follows .mixedOrders = true) (V : Nat → Value → World → Prop) (S : Array Bool → World → Prop) (R : World → World → Prop)
  (hfit : fit ops a0.tmps.size = true)
  (hmono : ∀ i v w w', R w w' → V i v w → V i v w')
  (hS : S (Array.replicate ops.size false) w0.drew)
  (hstep : ∀ i o, ops[i]? = some o → ∀ listed a w, i < listed.size → listed.getD i false = false → (∀ (j : Nat) (oj : Oper), ops[j]? = some oj → listed.getD j false = true → ∀ e ∈ oj.after, Region.binds .any e = true → listed.getD e.on false = true) → (∀ e ∈ o.after, Region.binds .any e = true → listed.getD e.on false = true) → S listed w → a.defers = a0.defers → a.tmps.size = a0.tmps.size →
   (∀ j oj d, ops[j]? = some oj → oj.dst = some d → waits o j = true → ∃ v, a.tmps[d]? = some v ∧ V j v w) →
   (∀ d, free ops i d = true → a.tmps[d]? = a0.tmps[d]?) →
   wpOp P ops Q i (fun a' w' => ∃ v, a' = a.put o.dst v ∧ V i v w' ∧ S (listed.setIfInBounds i true) w' ∧ R w w') a w)
  (hdone : ∀ listed a w, (∀ i, i < ops.size → listed.getD i false = true) → S listed w → a.defers = a0.defers → a.tmps.size = a0.tmps.size →
   (∀ d, (∀ (j : Nat) (oj : Oper), ops[j]? = some oj → oj.dst ≠ some d) → a.tmps[d]? = a0.tmps[d]?) →
   (∀ j oj d, ops[j]? = some oj → oj.dst = some d → ∃ v, a.tmps[d]? = some v ∧ V j v w) → Q .normal a w) :
  (Code.region id ops true).wp P Q a0 w0 := by
 refine wp_region_any hm (any_inv V S R hfit hmono hstep hdone ops.size (Array.replicate ops.size false) a0 _ ?_ ?_)
 ·
  unfold left
  rw [Array.toList_replicate, List.countP_replicate]
  simp
 ·
  have hf : ∀ j, (Array.replicate ops.size false).getD j false = false := by
   intro j
   simp only [Array.getD_eq_getD_getElem?, Array.getElem?_replicate]
   split <;> rfl
  refine ⟨hS, rfl, rfl, by simp, ?_, fun d _ => rfl, ?_⟩
  ·
   intro j oj _ hl
   rw [hf] at hl
   cases hl
  ·
   intro j oj d _ _ hl
   rw [hf] at hl
   cases hl
theorem wanted_free {ops : Array Oper} {o : Oper} {tmps : Array Value} (h : o.guard = none) : Region.wanted o (yielded ops tmps) = true := by
 unfold Region.wanted
 rw [h]
theorem eval_tmp {a : Act} {d : Nat} {v : Value} (h : a.tmps[d]? = some v) : a.eval (.tmp d) = v := by
 simp [Act.eval, h]
def filledN (ops : Array Oper) (val : Nat → Value) (tmps : Array Value) : Nat → Array Value
 | 0 => tmps
 | n + 1 =>
  match (ops[n]?).bind (·.dst) with
  | some d => (filledN ops val tmps n).setIfInBounds d (val n)
  | none => filledN ops val tmps n
theorem filledN_size (ops : Array Oper) (val : Nat → Value) (tmps : Array Value) (n : Nat) : (filledN ops val tmps n).size = tmps.size := by
 induction n with
 | zero => rfl
 | succ n ih =>
  unfold filledN
  split
  ·
   rw [Array.size_setIfInBounds]; exact ih
  ·
   exact ih
theorem filledN_none {ops : Array Oper} {val : Nat → Value} {tmps : Array Value} {d : Nat} (n : Nat) (h : ∀ (j : Nat) (oj : Oper), j < n → ops[j]? = some oj → oj.dst ≠ some d) : (filledN ops val tmps n)[d]? = tmps[d]? := by
 induction n with
 | zero => rfl
 | succ n ih =>
  have ih' := ih fun j oj hj => h j oj (by omega)
  unfold filledN
  split
  ·
   rename_i d' hd'
   obtain ⟨o, ho, hod⟩ := Option.bind_eq_some_iff.1 hd'
   rw [Array.getElem?_setIfInBounds_ne (fun e => h n o (by omega) ho (by rw [hod, e]))]
   exact ih'
  ·
   exact ih'
theorem filledN_some {ops : Array Oper} {val : Nat → Value} {tmps : Array Value} {d j : Nat} {oj : Oper} (hj : ops[j]? = some oj) (hd : oj.dst = some d) (hlt : d < tmps.size) (hun : ∀ (i : Nat) (oi : Oper), ops[i]? = some oi → oi.dst = some d → i = j) (n : Nat) (hn : j < n) :
  (filledN ops val tmps n)[d]? = some (val j) := by
 induction n with
 | zero => omega
 | succ n ih =>
  unfold filledN
  by_cases hjn : j = n
  ·
   subst hjn
   have e : (ops[j]?).bind (·.dst) = some d := by rw [hj]; exact hd
   rw [e]
   simp only
   rw [Array.getElem?_setIfInBounds_self_of_lt (by rw [filledN_size]; exact hlt)]
  ·
   have ih' := ih (by omega)
   split
   ·
    rename_i d' hd'
    obtain ⟨o, ho, hod⟩ := Option.bind_eq_some_iff.1 hd'
    rw [Array.getElem?_setIfInBounds_ne (fun e => hjn (hun n o ho (by rw [hod, e])).symm)]
    exact ih'
   ·
    exact ih'
theorem val_op {P : Program} {ops : Array Oper} {Q : Exit → Act → World → Prop} {i : Nat} {o : Oper} {a : Act} {w w' : World} {v u : Value} {S : World → Prop} (hi : ops[i]? = some o) (hw : Region.wanted o (yielded ops a.tmps) = true)
  (hr : (execOp a.eval o).run P w = .ok (.value v) w') (hv : v = u) (hS : S w') :
  wpOp P ops Q i (fun a' w' => ∃ v, a' = a.put o.dst v ∧ (o.dst.isSome = true → v = u) ∧ S w' ∧ True) a w := by
 unfold wpOp
 simp only [hi, hw, if_true]
 refine .inl ?_
 unfold Oper.wp
 rw [hr]
 exact ⟨v, rfl, fun _ => hv, hS, trivial⟩
theorem val_skip {P : Program} {ops : Array Oper} {Q : Exit → Act → World → Prop} {i : Nat} {o : Oper} {a : Act} {w w' : World} {u : Value} {S : World → Prop} (hi : ops[i]? = some o) (hw : Region.wanted o (yielded ops a.tmps) = true) (hd : o.dst = none)
  (hr : (execOp a.eval o).run P w = .ok .skip w') (hS : S w') :
  wpOp P ops Q i (fun a' w' => ∃ v, a' = a.put o.dst v ∧ (o.dst.isSome = true → v = u) ∧ S w' ∧ True) a w := by
 unfold wpOp
 simp only [hi, hw, if_true]
 refine .inl ?_
 unfold Oper.wp
 rw [hr]
 refine ⟨undef, ?_, (fun h => by rw [hd] at h; cases h), hS, trivial⟩
 rw [hd]
theorem val_call {P : Program} {ops : Array Oper} {Q : Exit → Act → World → Prop} {i : Nat} {o : Oper} {a : Act} {w w' : World} {f : FuncId} {args : Array Value} {u : Value} {S : World → Prop} (hi : ops[i]? = some o) (hw : Region.wanted o (yielded ops a.tmps) = true)
  (hr : (execOp a.eval o).run P w = .ok (.enter f args) w')
  (hc : Calls P f args w' fun e w'' => e = .returned u ∧ S w'') :
  wpOp P ops Q i (fun a' w' => ∃ v, a' = a.put o.dst v ∧ (o.dst.isSome = true → v = u) ∧ S w' ∧ True) a w := by
 unfold wpOp
 simp only [hi, hw, if_true]
 refine .inl ?_
 unfold Oper.wp
 rw [hr]
 refine Calls.mono hc ?_
 rintro e w'' ⟨rfl, hS⟩
 exact ⟨u, rfl, fun _ => rfl, hS, trivial⟩
def chained (ops : Array Oper) (cs : List Nat) : Bool :=
 (List.range cs.length).all fun j => match cs[j]? with
  | none => true
  | some c => match ops[c]? with
   | none => false
   | some o => (j == 0 || (match cs[j - 1]? with | some c' => waits o c' | none => true)) && ((List.range cs.length).all fun i => i == j || cs[i]? != some c)
theorem chained_spec {ops : Array Oper} {cs : List Nat} (h : chained ops cs = true) {j c : Nat} (hj : cs[j]? = some c) :
  ∃ o, ops[c]? = some o ∧ (∀ c', 0 < j → cs[j - 1]? = some c' → waits o c' = true) ∧ ∀ i, cs[i]? = some c → i = j := by
 have hlt : j < cs.length := (List.getElem?_eq_some_iff.1 hj).1
 unfold chained at h
 rw [List.all_eq_true] at h
 have h1 := h j (List.mem_range.2 hlt)
 rw [hj] at h1
 simp only at h1
 cases ho : ops[c]? with
 | none => rw [ho] at h1; cases h1
 | some o =>
  rw [ho] at h1
  simp only [Bool.and_eq_true, Bool.or_eq_true, List.all_eq_true] at h1
  refine ⟨o, rfl, fun c' h0 hc' => ?_, fun i hi => ?_⟩
  ·
   rw [hc'] at h1
   rcases h1.1 with h2 | h2
   ·
    rw [beq_iff_eq] at h2; omega
   ·
    exact h2
  ·
   have h2 := h1.2 i (List.mem_range.2 (List.getElem?_eq_some_iff.1 hi).1)
   rw [hi] at h2
   simpa using h2
def mayAt (ops : Array Oper) (cs : List Nat) (i k : Nat) : Bool :=
 if cs.contains i then cs[k]? == some i
 else (List.range k).all fun j => match cs[j]? with
  | none => true
  | some c => match ops[c]? with
   | none => true
   | some o => !waits o i
theorem region_chain {P : Program} {ops : Array Oper} {Q : Exit → Act → World → Prop} {id : Nat} {a0 : Act} {w0 : World} (hm : P.follows .mixedOrders = true) (cs : List Nat) (V : Nat → Value → World → Prop) (S : Nat → World → Prop) (R : World → World → Prop)
  (hfit : fit ops a0.tmps.size = true) (hch : chained ops cs = true)
  (hmono : ∀ i v w w', R w w' → V i v w → V i v w')
  (hS : S 0 w0.drew)
  (hstep : ∀ i o, ops[i]? = some o → ∀ k a w, k ≤ cs.length → mayAt ops cs i k = true → S k w → a.defers = a0.defers → a.tmps.size = a0.tmps.size →
   (∀ j oj d, ops[j]? = some oj → oj.dst = some d → waits o j = true → ∃ v, a.tmps[d]? = some v ∧ V j v w) →
   (∀ d, free ops i d = true → a.tmps[d]? = a0.tmps[d]?) →
   wpOp P ops Q i (fun a' w' => ∃ v, a' = a.put o.dst v ∧ V i v w' ∧ S (if cs.contains i = true then k + 1 else k) w' ∧ R w w') a w)
  (n : Nat) (hn : ops.size = n)
  (hdone : ∀ (val : Nat → Value) (w : World), S cs.length w → (∀ j oj, ops[j]? = some oj → oj.dst.isSome = true → V j (val j) w) → Q .normal ⟨filledN ops val a0.tmps n, a0.defers⟩ w) :
  (Code.region id ops true).wp P Q a0 w0 := by
 refine region_inv hm V (fun listed w => ∃ k, k ≤ cs.length ∧ S k w ∧ ∀ j c, cs[j]? = some c → (listed.getD c false = true ↔ j < k)) R hfit hmono ?_ ?_ ?_
 ·
  refine ⟨0, Nat.zero_le _, hS, fun j c _ => ?_⟩
  have hf : (Array.replicate ops.size false).getD c false = false := by
   simp only [Array.getD_eq_getD_getElem?, Array.getElem?_replicate]
   split <;> rfl
  rw [hf]
  simp
 ·
  rintro i o ho listed a w hil h0 hcl hall ⟨k, hk, hs, hlist⟩ hdf hsz hdep hsame
  by_cases hc : i ∈ cs
  ·
   obtain ⟨j, hj⟩ := List.mem_iff_getElem?.1 hc
   obtain ⟨oc, hoc, hw, hun⟩ := chained_spec hch hj
   rw [ho] at hoc
   cases hoc
   have h1 : ¬ j < k := fun h => by rw [(hlist j i hj).2 h] at h0; cases h0
   have h2 : j ≤ k := by
    rcases Nat.eq_zero_or_pos j with hz | hz
    ·
     omega
    ·
     have hjl := (List.getElem?_eq_some_iff.1 hj).1
     have hp : cs[j - 1]? = some cs[j - 1] := List.getElem?_eq_getElem (by omega)
     obtain ⟨e, he, hb, hei⟩ := waits_spec.1 (hw _ hz hp)
     have := hall e he hb
     rw [hei] at this
     have := (hlist _ _ hp).1 this
     omega
   obtain rfl : j = k := by omega
   have hjl := (List.getElem?_eq_some_iff.1 hj).1
   have hcc : cs.contains i = true := by simpa using hc
   refine wpOp_mono ?_ (hstep i o ho j a w hk (by unfold mayAt; rw [if_pos hcc, hj]; simp) hs hdf hsz hdep hsame)
   rintro a' w' ⟨v, e1, e2, e3, e4⟩
   rw [if_pos hcc] at e3
   refine ⟨v, e1, e2, ⟨j + 1, by omega, e3, fun j' c hc' => ?_⟩, e4⟩
   rw [getD_set _ _ _ hil]
   by_cases hci : c = i
   ·
    subst hci
    rw [if_pos rfl]
    have := hun j' hc'
    constructor
    ·
     intro _; omega
    ·
     intro _; rfl
   ·
    rw [if_neg hci, hlist j' c hc']
    have hne : j' ≠ j := fun e => by rw [e, hj] at hc'; cases hc'; exact hci rfl
    omega
  ·
   have hcc : cs.contains i = false := by simpa using hc
   refine wpOp_mono ?_ (hstep i o ho k a w hk ?_ hs hdf hsz hdep hsame)
   ·
    rintro a' w' ⟨v, e1, e2, e3, e4⟩
    rw [if_neg (by rw [hcc]; decide)] at e3
    refine ⟨v, e1, e2, ⟨k, hk, e3, fun j' c hc' => ?_⟩, e4⟩
    rw [getD_set _ _ _ hil, if_neg (fun e => hc (by rw [← e]; exact List.mem_of_getElem? hc'))]
    exact hlist j' c hc'
   ·
    unfold mayAt
    rw [if_neg (by rw [hcc]; decide), List.all_eq_true]
    intro j hj
    have hjk := List.mem_range.1 hj
    have hjc : cs[j]? = some cs[j] := List.getElem?_eq_getElem (by omega)
    obtain ⟨oc, hoc, -, -⟩ := chained_spec hch hjc
    rw [hjc]
    simp only [hoc]
    cases hw : waits oc i with
    | false => rfl
    | true =>
     exfalso
     obtain ⟨e, he, hb, hei⟩ := waits_spec.1 hw
     have := hcl _ oc hoc ((hlist j _ hjc).2 hjk) e he hb
     rw [hei, h0] at this
     cases this
 ·
  rintro listed a w hall ⟨k, hk, hs, hlist⟩ hdf hsz hsame hval
  have hke : k = cs.length := by
   rcases Nat.lt_or_ge k cs.length with h | h
   ·
    exfalso
    have hp : cs[k]? = some cs[k] := List.getElem?_eq_getElem h
    obtain ⟨oc, hoc, -, -⟩ := chained_spec hch hp
    have := (hlist k _ hp).1 (hall _ (Array.getElem?_eq_some_iff.1 hoc).1)
    omega
   ·
    omega
  subst hke
  obtain ⟨val, hv⟩ : ∃ val : Nat → Value, ∀ j oj d, ops[j]? = some oj → oj.dst = some d → a.tmps[d]? = some (val j) ∧ V j (val j) w := by
   refine ⟨fun j => ((ops[j]?).bind (·.dst)).bind (fun d => a.tmps[d]?) |>.getD undef, fun j oj d hj hd => ?_⟩
   obtain ⟨v, h1, h2⟩ := hval j oj d hj hd
   have e : (((ops[j]?).bind (·.dst)).bind (fun d => a.tmps[d]?)).getD undef = v := by rw [hj]; simp [hd, h1]
   show a.tmps[d]? = some ((((ops[j]?).bind (·.dst)).bind (fun d => a.tmps[d]?)).getD undef) ∧ V j ((((ops[j]?).bind (·.dst)).bind (fun d => a.tmps[d]?)).getD undef) w
   rw [e]
   exact ⟨h1, h2⟩
  have e : a = ⟨filledN ops val a0.tmps ops.size, a0.defers⟩ := by
   obtain ⟨tm, df⟩ := a
   simp only at hdf hsz hsame hv
   subst hdf
   congr 1
   apply Array.ext_getElem?
   intro d
   by_cases hx : ∃ (j : Nat) (oj : Oper), ops[j]? = some oj ∧ oj.dst = some d
   ·
    obtain ⟨j, oj, hj, hd⟩ := hx
    rw [(hv j oj d hj hd).1]
    obtain ⟨hdl, hun⟩ := (fit_spec hfit hj).2 d hd
    exact (filledN_some hj hd hdl (fun i oi hi hdi => hun i oi hi hdi) _ (Array.getElem?_eq_some_iff.1 hj).1).symm
   ·
    rw [hsame d fun j oj hj hd => hx ⟨j, oj, hj, hd⟩]
    exact (filledN_none _ fun j oj _ hj hd => hx ⟨j, oj, hj, hd⟩).symm
  rw [e, hn]
  refine hdone val w hs fun j oj hj hd => ?_
  obtain ⟨d, hd'⟩ := Option.isSome_iff_exists.1 hd
  exact (hv j oj d hj hd').2
theorem filledN_congr {ops : Array Oper} {f g : Nat → Value} {tmps : Array Value} (n : Nat) (h : ∀ j oj, ops[j]? = some oj → oj.dst.isSome = true → f j = g j) : filledN ops f tmps n = filledN ops g tmps n := by
 induction n with
 | zero => rfl
 | succ n ih =>
  unfold filledN
  cases hd : (ops[n]?).bind (·.dst) with
  | none => exact ih
  | some d =>
   obtain ⟨o, ho, hod⟩ := Option.bind_eq_some_iff.1 hd
   simp only
   rw [ih, h n o ho (by rw [hod]; rfl)]
theorem region_worlds {P : Program} {ops : Array Oper} {Q : Exit → Act → World → Prop} {id : Nat} {a0 : Act} {w0 : World} (hm : P.follows .mixedOrders = true) (cs : List Nat) (val : Nat → Value) (Wd : Nat → World)
  (hfit : fit ops a0.tmps.size = true) (hch : chained ops cs = true)
  (hS : w0.drew = Wd 0)
  (hstep : ∀ i o, ops[i]? = some o → ∀ k a, k ≤ cs.length → mayAt ops cs i k = true → a.defers = a0.defers → a.tmps.size = a0.tmps.size →
   (∀ j oj d, ops[j]? = some oj → oj.dst = some d → waits o j = true → a.tmps[d]? = some (val j)) →
   (∀ d, free ops i d = true → a.tmps[d]? = a0.tmps[d]?) →
   wpOp P ops Q i (fun a' w' => ∃ v, a' = a.put o.dst v ∧ (o.dst.isSome = true → v = val i) ∧ w' = Wd (if cs.contains i = true then k + 1 else k) ∧ True) a (Wd k))
  (n : Nat) (hn : ops.size = n)
  (hdone : Q .normal ⟨filledN ops val a0.tmps n, a0.defers⟩ (Wd cs.length)) :
  (Code.region id ops true).wp P Q a0 w0 := by
 refine region_chain hm cs (fun i v _ => ∀ o, ops[i]? = some o → o.dst.isSome = true → v = val i) (fun k w => w = Wd k) (fun _ _ => True) hfit hch (fun i v w w' _ h => h) hS ?_ n hn ?_
 ·
  rintro i o ho k a w hk hmay rfl hdf hsz hdep hsame
  refine wpOp_mono ?_ (hstep i o ho k a hk hmay hdf hsz ?_ hsame)
  ·
   rintro a' w' ⟨v, h1, h2, h3, _⟩
   refine ⟨v, h1, fun o' ho' hd' => ?_, h3, trivial⟩
   rw [ho] at ho'
   cases ho'
   exact h2 hd'
  ·
   intro j oj d hj hd hw
   obtain ⟨v, hv, hV⟩ := hdep j oj d hj hd hw
   rw [hv, hV oj hj (by rw [hd]; rfl)]
 ·
  rintro val' w rfl hV
  rw [filledN_congr n fun j oj hj hd => hV j oj hj hd oj hj hd]
  exact hdone
theorem val_append {P : Program} {ops : Array Oper} {Q : Exit → Act → World → Prop} {i : Nat} {o : Oper} {a : Act} {w w' : World} {v u vs vx : Value} {S : World → Prop} {s x : Operand} {t t' : TypeId} (hi : ops[i]? = some o) (hw : Region.wanted o (yielded ops a.tmps) = true)
  (ho : o.op = .call { callee := .builtin .append, args := #[s, x], argTypes := #[t, t'] }) (hs : a.eval s = vs) (hx : a.eval x = vx)
  (hr : (Builtin.append_ #[t, t'] o.type #[vs, vx]).run P w = .ok v w') (hv : v = u) (hS : S w') :
  wpOp P ops Q i (fun a' w' => ∃ v, a' = a.put o.dst v ∧ (o.dst.isSome = true → v = u) ∧ S w' ∧ True) a w := by
 unfold wpOp
 simp only [hi, hw, if_true]
 refine .inl ?_
 unfold Oper.wp execOp
 simp only [ho, resolve, invoke, builtin, Sem.run_bind, Sem.run_pure, Result.andThen_ok, List.map_toArray, List.map_cons, List.map_nil, hs, hx, hr]
 exact ⟨v, rfl, fun _ => hv, hS, trivial⟩
end Go.Proofs.YtaobfgplheoefaaGreat.Anylast
namespace Go.Proofs.YtaobfgplheoefaaGreat
open Go.RowKit Plain Anylast
set_option linter.unusedVariables false
theorem body_six {r m z : Nat} (hr : r ≤ 2048) (hm : m ≤ 2048) (hz : z ≤ 2048) :
  (((bodySu r m z).data.toList).map cellOf).toArray = #[.int .u8 ((r : Int) / 256), .int .u8 ((r : Int) % 256), .int .u8 ((m : Int) / 256), .int .u8 ((m : Int) % 256), .int .u8 ((z : Int) / 256), .int .u8 ((z : Int) % 256)] := by
 have e1 := put_two r (by omega)
 have e2 := put_two m (by omega)
 have e3 := put_two z (by omega)
 rw [bodySu, cat_data, putS_ok (small_ok (by omega) (by omega)), putS_ok (small_ok (by omega) (by omega)), putS_ok (small_ok (by omega) (by omega))]
 show (List.map cellOf [putL r 2, putL m 2, putL z 2].flatten).toArray = _
 apply Array.ext'
 have f1 := congrArg Array.toList e1
 have f2 := congrArg Array.toList e2
 have f3 := congrArg Array.toList e3
 simp only [List.flatten_cons, List.flatten_nil, List.append_nil, List.map_append] at *
 rw [f1, f2, f3]
 rfl
theorem bytes_again (b : ByteArray) : (⟨b.data.toList.toArray⟩ : ByteArray) = b := bytes_ext rfl
set_option maxHeartbeats 1000000 in
theorem refSuPut_any (g r m z : Int) (w : World) (h : rightSu g r m z = true) :
  Calls Tryz.prog 29 #[.agg #[.int .i64 g, .int .i64 r, .int .i64 m, .int .i64 z]] w fun e w' => e = .returned (.string (suS g r m z)) ∧ Below w.heap.size w w' := by
 obtain ⟨⟨r0, r1⟩, ⟨m0, m1⟩, z0, z1⟩ := rightSu_small h
 obtain ⟨r, rfl⟩ : ∃ n : Nat, r = n := ⟨r.toNat, by omega⟩
 obtain ⟨m, rfl⟩ : ∃ n : Nat, m = n := ⟨m.toNat, by omega⟩
 obtain ⟨z, rfl⟩ : ∃ n : Nat, z = n := ⟨z.toNat, by omega⟩
 have eS : suS g r m z = pageS 4 g (bodySu r m z) := by rw [suS, if_pos h]
 have c1 : ∀ W, Calls Tryz.prog 68 #[.agg #[.int .i64 4, .int .i64 g, .string (bodySu r m z)]] W fun e w' => e = .returned (.string (suS g r m z)) ∧ Below W.heap.size W w' := by
  intro W
  have := refPagePut_any 4 g (bodySu r m z) W (bodySu_page h)
  rwa [← eS] at this
 have hb6 : (bodySu r m z).data.toList.length = 6 := by rw [size_list]; exact bodySu_size h
 have hcv := fun W => conv_row W (bodySu r m z).data.toList 6 hb6 6
 rw [body_six (by omega) (by omega) (by omega)] at hcv
 obtain ⟨q, hq⟩ : ∃ q, q = suS g r m z := ⟨_, rfl⟩
 rw [← hq] at c1 ⊢
 rw [show (⟨(bodySu r m z).data.toList.toArray⟩ : ByteArray) = bodySu r m z from bytes_again _] at hcv
 obtain ⟨b, hb⟩ : ∃ b, b = bodySu r m z := ⟨_, rfl⟩
 rw [← hb] at c1 hcv
 clear hq eS h hb hb6
 replace hcv := hcv (w.alloc (.cells #[.int .i64 g, .int .i64 r, .int .i64 m, .int .i64 z] 35))
 simp only [World.size_alloc] at hcv
 go_enter Tryz.func29, Tryz.ntmps29
 go_wp2_with (go_at_call 68; refine (c1 _).mono ?_; rintro e w1 ⟨rfl, hb⟩)
 go_ret
 exact ⟨rfl, below_box (below_box hb)⟩
end Go.Proofs.YtaobfgplheoefaaGreat
