/-
  Plain facts: rows of yes and no as bytes; how many places rows have in common; the first free one; places set. Nothing of any program.
-/
import Derived.Test.YtmjhapkhfelbpaaPlainB
import Derived.Lib.Strings
namespace Go.Proofs.Ytmjhapkhfelbpaa.Plain
open Go.RowKit

/-! Eight places as a byte -/

def bn (b : Bool) : Nat := if b then 1 else 0

theorem bn_lt (b : Bool) : bn b < 2 := by cases b <;> decide

def atB (l : List Bool) (i : Nat) : Bool := l[i]?.getD false

theorem atB_past {l : List Bool} {i : Nat} (h : l.length ≤ i) : atB l i = false := by
  unfold atB; rw [List.getElem?_eq_none h]; rfl

theorem atB_some {l : List Bool} {i : Nat} {x : Bool} (h : l[i]? = some x) : atB l i = x := by unfold atB; rw [h]; rfl

/-- The first k of the eight places from a place on, the lowest first. -/
def lowB (l : List Bool) (p : Nat) : Nat → Nat
  | 0 => 0
  | k + 1 => lowB l p k + 2 ^ k * bn (atB l (p + k))

theorem lowB_lt (l : List Bool) (p k : Nat) : lowB l p k < 2 ^ k := by
  induction k with
  | zero => exact Nat.zero_lt_one
  | succ k ih =>
    rw [lowB, Nat.pow_succ]
    have := bn_lt (atB l (p + k))
    have h2 : 2 ^ k * bn (atB l (p + k)) ≤ 2 ^ k * 1 := Nat.mul_le_mul_left _ (by omega)
    omega

theorem lowB_bit (l : List Bool) (p k j : Nat) (h : j < k) : lowB l p k / 2 ^ j % 2 = bn (atB l (p + j)) := by
  induction k with
  | zero => omega
  | succ k ih =>
    rw [lowB]
    by_cases e : j = k
    · subst e
      rw [Nat.add_mul_div_left _ _ (Nat.two_pow_pos j), Nat.div_eq_of_lt (lowB_lt l p j), Nat.zero_add]
      exact Nat.mod_eq_of_lt (bn_lt _)
    · have hj : j < k := by omega
      have e2 : 2 ^ k = 2 ^ j * (2 * 2 ^ (k - j - 1)) := by
        rw [← Nat.mul_assoc, ← Nat.pow_succ, ← Nat.pow_add]; congr 1; omega
      rw [e2, Nat.mul_assoc, Nat.add_mul_div_left _ _ (Nat.two_pow_pos j), Nat.mul_assoc, Nat.add_mul_mod_self_left]
      exact ih hj

def byteB (l : List Bool) (i : Nat) : UInt8 := UInt8.ofNat (lowB l (8 * i) 8)

theorem byteB_nat (l : List Bool) (i : Nat) : (byteB l i).toNat = lowB l (8 * i) 8 := by
  unfold byteB
  have := lowB_lt l (8 * i) 8
  rw [UInt8.toNat_ofNat']
  omega

/-! Packed -/

def sizeB (n : Nat) : Nat := (n + 7) / 8
def packL (l : List Bool) : List UInt8 := (List.range (sizeB l.length)).map (byteB l)
def packS (l : List Bool) : ByteArray := ⟨(packL l).toArray⟩

theorem packS_size (l : List Bool) : (packS l).size = sizeB l.length := by
  show (packL l).length = _
  simp [packL]

/-- A place of bytes. -/
def bitAt (s : ByteArray) (i : Nat) : Bool := decide ((s.data.toList[i / 8]?.getD 0).toNat / 2 ^ (i % 8) % 2 = 1)

theorem bitAt_past {s : ByteArray} {i : Nat} (h : 8 * s.size ≤ i) : bitAt s i = false := by
  unfold bitAt
  rw [List.getElem?_eq_none (by rw [size_list]; omega)]
  simp

theorem bitAt_pack (l : List Bool) (i : Nat) : bitAt (packS l) i = atB l i := by
  by_cases h : i / 8 < sizeB l.length
  · unfold bitAt
    have e : (packS l).data.toList[i / 8]? = some (byteB l (i / 8)) := by
      show (packL l)[i / 8]? = _
      unfold packL
      rw [List.getElem?_map, List.getElem?_range h]; rfl
    rw [e, Option.getD_some, byteB_nat, lowB_bit _ _ _ _ (Nat.mod_lt _ (by decide)), show 8 * (i / 8) + i % 8 = i by omega]
    cases atB l i <;> rfl
  · have h1 : l.length ≤ i := by unfold sizeB at h; omega
    rw [atB_past h1, bitAt_past]
    rw [packS_size]; unfold sizeB at h ⊢; omega

def unpackL (s : ByteArray) (n : Nat) : List Bool := (List.range n).map (bitAt s)

theorem unpackL_length (s : ByteArray) (n : Nat) : (unpackL s n).length = n := by simp [unpackL]

theorem unpackL_get (s : ByteArray) (n i : Nat) (h : i < n) : (unpackL s n)[i]? = some (bitAt s i) := by
  unfold unpackL; rw [List.getElem?_map, List.getElem?_range h]; rfl

theorem unpackL_at (s : ByteArray) (n i : Nat) : atB (unpackL s n) i = (decide (i < n) && bitAt s i) := by
  by_cases h : i < n
  · rw [atB_some (unpackL_get s n i h), decide_eq_true h, Bool.true_and]
  · rw [atB_past (by rw [unpackL_length]; omega), decide_eq_false h, Bool.false_and]

/-- WHAT IS PACKED IS UNPACKED AGAIN. -/
theorem unpack_pack (l : List Bool) : unpackL (packS l) l.length = l := by
  apply List.ext_getElem?
  intro i
  by_cases h : i < l.length
  · rw [unpackL_get _ _ _ h, bitAt_pack]
    unfold atB
    rw [List.getElem?_eq_getElem h]; rfl
  · rw [List.getElem?_eq_none (by rw [unpackL_length]; omega), List.getElem?_eq_none (by omega)]

/-! A byte is its bits -/

theorem byte_bits {a b : Nat} (n : Nat) (ha : a < 2 ^ n) (hb : b < 2 ^ n) (h : ∀ k, k < n → a / 2 ^ k % 2 = b / 2 ^ k % 2) : a = b := by
  induction n generalizing a b with
  | zero => omega
  | succ n ih =>
    have h0 := h 0 (by omega)
    simp at h0
    have hp : 2 ^ (n + 1) = 2 * 2 ^ n := by rw [Nat.pow_succ]; omega
    have hd : a / 2 = b / 2 := by
      apply ih (by omega) (by omega)
      intro k hk
      have := h (k + 1) (by omega)
      rwa [Nat.pow_succ, Nat.mul_comm, ← Nat.div_div_eq_div_mul, ← Nat.div_div_eq_div_mul] at this
    omega

theorem bitAt_byte (s : ByteArray) (j k : Nat) (hk : k < 8) : bitAt s (8 * j + k) = decide ((s.data.toList[j]?.getD 0).toNat / 2 ^ k % 2 = 1) := by
  unfold bitAt
  rw [show (8 * j + k) / 8 = j by omega, show (8 * j + k) % 8 = k by omega]

theorem bits_ext {s t : ByteArray} (hz : s.size = t.size) (h : ∀ i, i < 8 * s.size → bitAt s i = bitAt t i) : s = t := by
  apply bytes_ext
  apply List.ext_getElem?
  intro j
  by_cases hj : j < s.size
  · rw [List.getElem?_eq_getElem (by rw [size_list]; omega), List.getElem?_eq_getElem (by rw [size_list]; omega), Option.some_inj]
    apply UInt8.toNat_inj.1
    apply byte_bits 8 (UInt8.toNat_lt _) (UInt8.toNat_lt _)
    intro k hk
    have hb := h (8 * j + k) (by omega)
    rw [bitAt_byte _ _ _ hk, bitAt_byte _ _ _ hk, List.getElem?_eq_getElem (by rw [size_list]; omega), List.getElem?_eq_getElem (by rw [size_list]; omega), Option.getD_some, Option.getD_some, decide_eq_decide] at hb
    have m1 := Nat.mod_lt ((s.data.toList[j]'(by rw [size_list]; omega)).toNat / 2 ^ k) (by decide : 2 > 0)
    have m2 := Nat.mod_lt ((t.data.toList[j]'(by rw [size_list]; omega)).toNat / 2 ^ k) (by decide : 2 > 0)
    omega
  · rw [List.getElem?_eq_none (by rw [size_list]; omega), List.getElem?_eq_none (by rw [size_list]; omega)]

/-- Bytes are the packed places just where there are as many as the places need, and no bit beyond them is 1. -/
theorem pack_unpack (s : ByteArray) (n : Nat) : packS (unpackL s n) = s ↔ s.size = sizeB n ∧ ∀ i, n ≤ i → bitAt s i = false := by
  constructor
  · intro h
    refine ⟨by rw [← h, packS_size, unpackL_length], fun i hi => ?_⟩
    rw [← h, bitAt_pack, atB_past (by rw [unpackL_length]; omega)]
  · rintro ⟨hz, hb⟩
    apply bits_ext
    · rw [packS_size, unpackL_length, hz]
    · intro i _
      rw [bitAt_pack, unpackL_at]
      by_cases h : i < n
      · rw [decide_eq_true h, Bool.true_and]
      · rw [hb i (by omega), Bool.and_false]

/-- What Unpack hands back. -/
def unE (s : ByteArray) (n : Int) : Int :=
  if 0 ≤ n ∧ n ≤ 2048 then (if (s.size : Int) < sizeB n.toNat then 3 else if packS (unpackL s n.toNat) = s then 0 else 4) else 1
def unL (s : ByteArray) (n : Int) : List Bool := if unE s n = 0 then unpackL s n.toNat else []

/-! Several rows -/

def longest : List (List Bool) → Nat
  | [] => 0
  | l :: ls => max l.length (longest ls)

theorem longest_le {ls : List (List Bool)} {l : List Bool} (h : l ∈ ls) : l.length ≤ longest ls := by
  induction ls with
  | nil => cases h
  | cons x xs ih =>
    rw [longest]
    rcases List.mem_cons.1 h with rfl | h
    · omega
    · have := ih h; omega

theorem longest_append (xs ys : List (List Bool)) : longest (xs ++ ys) = max (longest xs) (longest ys) := by
  induction xs with
  | nil => simp [longest]
  | cons x xs ih => rw [List.cons_append, longest, longest, ih]; omega

/-- How many rows have yes at a place. -/
def howB (ls : List (List Bool)) (i : Nat) : Nat := ls.countP (fun l => atB l i)

theorem howB_all {ls : List (List Bool)} {i : Nat} : howB ls i = ls.length ↔ ∀ l ∈ ls, atB l i = true := List.countP_eq_length

theorem howB_none {ls : List (List Bool)} {i : Nat} : howB ls i = 0 ↔ ∀ l ∈ ls, ¬ atB l i = true := by
  unfold howB; rw [List.countP_eq_zero]

/-- How many of the first n places all rows have. -/
def countN (ls : List (List Bool)) : Nat → Nat
  | 0 => 0
  | n + 1 => countN ls n + bn (decide (howB ls n = ls.length))
def countB (ls : List (List Bool)) : Nat := countN ls (longest ls)

theorem countN_le (ls : List (List Bool)) (n : Nat) : countN ls n ≤ n := by
  induction n with
  | zero => exact Nat.le_refl _
  | succ n ih => rw [countN]; have := bn_lt (decide (howB ls n = ls.length)); omega

/-- Places beyond one of the rows count nothing. -/
theorem countN_past {ls : List (List Bool)} {l : List Bool} (hl : l ∈ ls) (n : Nat) (h : l.length ≤ n) : countN ls n = countN ls l.length := by
  induction n with
  | zero => congr 1; omega
  | succ n ih =>
    by_cases e : l.length = n + 1
    · rw [e]
    · rw [countN, ih (by omega), decide_eq_false, bn]
      · rfl
      · rw [howB_all]
        intro hh
        have := hh l hl
        rw [atB_past (by omega)] at this
        cases this

/-- The first of the places from i on, of n of them, at which no row has yes. -/
def firstN (ls : List (List Bool)) (i : Nat) : Nat → Int
  | 0 => -1
  | n + 1 => if howB ls i = 0 then i else firstN ls (i + 1) n
def firstB (fr : Int) (ls : List (List Bool)) : Int := firstN ls fr.toNat (longest ls - fr.toNat)

theorem firstN_spec (ls : List (List Bool)) (i n : Nat) :
    (firstN ls i n = -1 ∧ ∀ j, i ≤ j → j < i + n → howB ls j ≠ 0) ∨
    (∃ p : Nat, firstN ls i n = p ∧ i ≤ p ∧ p < i + n ∧ howB ls p = 0 ∧ ∀ j, i ≤ j → j < p → howB ls j ≠ 0) := by
  induction n generalizing i with
  | zero => exact .inl ⟨rfl, fun j h1 h2 => by omega⟩
  | succ n ih =>
    rw [firstN]
    by_cases h : howB ls i = 0
    · rw [if_pos h]
      exact .inr ⟨i, rfl, Nat.le_refl _, by omega, h, fun j h1 h2 => by omega⟩
    · rw [if_neg h]
      rcases ih (i + 1) with ⟨e, hn⟩ | ⟨p, e, h1, h2, h3, h4⟩
      · refine .inl ⟨e, fun j a b => ?_⟩
        by_cases hj : j = i
        · subst hj; exact h
        · exact hn j (by omega) (by omega)
      · refine .inr ⟨p, e, by omega, by omega, h3, fun j a b => ?_⟩
        by_cases hj : j = i
        · subst hj; exact h
        · exact h4 j (by omega) b

/-- The first free place, told by what it is. -/
theorem firstB_spec (fr : Int) (ls : List (List Bool)) :
    (firstB fr ls = -1 ∧ ∀ j : Nat, fr ≤ j → j < longest ls → howB ls j ≠ 0) ∨
    (∃ p : Nat, firstB fr ls = p ∧ fr ≤ p ∧ p < longest ls ∧ howB ls p = 0 ∧ ∀ j : Nat, fr ≤ j → j < p → howB ls j ≠ 0) := by
  unfold firstB
  rcases firstN_spec ls fr.toNat (longest ls - fr.toNat) with ⟨e, hn⟩ | ⟨p, e, h1, h2, h3, h4⟩
  · exact .inl ⟨e, fun j a b => hn j (by omega) (by omega)⟩
  · exact .inr ⟨p, e, by omega, by omega, h3, fun j a b => h4 j (by omega) b⟩

theorem firstB_none {fr : Int} {ls : List (List Bool)} (h : ∀ j : Nat, fr ≤ j → j < longest ls → howB ls j ≠ 0) : firstB fr ls = -1 := by
  rcases firstB_spec fr ls with ⟨e, _⟩ | ⟨p, _, h1, h2, h3, _⟩
  · exact e
  · exact absurd h3 (h p h1 h2)

theorem firstB_is {fr : Int} {ls : List (List Bool)} {p : Nat} (h1 : fr ≤ p) (h2 : p < longest ls) (h3 : howB ls p = 0) (h4 : ∀ j : Nat, fr ≤ j → j < p → howB ls j ≠ 0) : firstB fr ls = p := by
  rcases firstB_spec fr ls with ⟨_, hn⟩ | ⟨q, e, g1, g2, g3, g4⟩
  · exact absurd h3 (hn p h1 h2)
  · rw [e]
    rcases Nat.lt_trichotomy p q with h | h | h
    · exact absurd h3 (g4 p h1 h)
    · rw [h]
    · exact absurd g3 (h4 q g1 h)

/-- The order of the rows is nothing to it. -/
theorem firstB_swap (fr : Int) (a b : List Bool) : firstB fr [a, b] = firstB fr [b, a] := by
  have hl : longest [a, b] = longest [b, a] := by simp [longest]; omega
  have hh : ∀ j, howB [a, b] j = howB [b, a] j := by
    intro j; unfold howB; simp [List.countP_cons]; omega
  rcases firstB_spec fr [b, a] with ⟨e, hn⟩ | ⟨p, e, h1, h2, h3, h4⟩
  · rw [e]; exact firstB_none fun j x y => by rw [hh]; exact hn j x (by omega)
  · rw [e]; exact firstB_is h1 (by omega) (by rw [hh]; exact h3) fun j x y => by rw [hh]; exact h4 j x y

/-! Places set -/

def placesOk (l : List Bool) (ps : List Int) : Bool := ps.all fun p => decide (0 ≤ p) && decide (p < l.length)
/-- The row with these places set, one behind the other. -/
def setB (l : List Bool) (is : Bool) : List Int → List Bool
  | [] => l
  | p :: ps => setB (l.set p.toNat is) is ps
def withE (l : List Bool) (ps : List Int) : Int := if placesOk l ps then 0 else 1
def withL (l : List Bool) (is : Bool) (ps : List Int) : List Bool := if placesOk l ps then setB l is ps else []

theorem setB_length (l : List Bool) (is : Bool) (ps : List Int) : (setB l is ps).length = l.length := by
  induction ps generalizing l with
  | nil => rfl
  | cons p ps ih => rw [setB, ih, List.length_set]

theorem setB_append (l : List Bool) (is : Bool) (ps qs : List Int) : setB l is (ps ++ qs) = setB (setB l is ps) is qs := by
  induction ps generalizing l with
  | nil => rfl
  | cons p ps ih => rw [List.cons_append, setB, setB, ih]

/-- What stands at a place behind it. -/
theorem setB_get (l : List Bool) (is : Bool) (ps : List Int) (h : placesOk l ps = true) (i : Nat) (hi : i < l.length) :
    (setB l is ps)[i]? = some (if (i : Int) ∈ ps then is else l[i]) := by
  induction ps generalizing l with
  | nil => simp [setB, List.getElem?_eq_getElem hi]
  | cons p ps ih =>
    simp only [placesOk, List.all_cons, Bool.and_eq_true, decide_eq_true_eq] at h
    obtain ⟨⟨h0, h1⟩, h2⟩ := h
    have h2' : placesOk (l.set p.toNat is) ps = true := by
      unfold placesOk; rw [List.length_set]; exact h2
    rw [setB, ih _ h2' (by rw [List.length_set]; exact hi), Option.some_inj, List.getElem_set]
    by_cases hm : (i : Int) ∈ ps
    · rw [if_pos hm, if_pos (List.mem_cons_of_mem _ hm)]
    · rw [if_neg hm]
      by_cases e : p.toNat = i
      · rw [if_pos e, if_pos]
        exact List.mem_cons.2 (.inl (by omega))
      · rw [if_neg e, if_neg]
        intro hh
        rcases List.mem_cons.1 hh with hh | hh
        · omega
        · exact hm hh

/-! One row counted -/

theorem howB_one (l : List Bool) (i : Nat) : (howB [l] i = 1) ↔ atB l i = true := by
  unfold howB; simp

theorem countN_one (l : List Bool) (n : Nat) : countN [l] n = (l.take n).countP id := by
  induction n with
  | zero => simp [countN]
  | succ n ih =>
    rw [countN, ih]
    by_cases h : n < l.length
    · rw [List.take_add_one, List.getElem?_eq_getElem h, List.countP_append]
      congr 1
      have : decide (howB [l] n = [l].length) = l[n] := by
        have e := howB_one l n
        rw [atB_some (List.getElem?_eq_getElem h)] at e
        show decide (howB [l] n = 1) = _
        rw [Bool.eq_iff_iff, decide_eq_true_eq, e]
      rw [this]
      cases l[n] <;> rfl
    · rw [List.take_of_length_le (by omega), List.take_of_length_le (by omega), decide_eq_false, bn]
      · rfl
      · show ¬ howB [l] n = 1
        rw [howB_one, atB_past (by omega)]
        exact Bool.false_ne_true

theorem countB_one (l : List Bool) : countB [l] = l.countP id := by
  unfold countB
  rw [show longest [l] = l.length by simp [longest], countN_one, List.take_length]

theorem count_set (l : List Bool) (i : Nat) (h : i < l.length) : (l.set i true).countP id = (l.set i false).countP id + 1 := by
  induction l generalizing i with
  | nil => simp at h
  | cons x xs ih =>
    cases i with
    | zero => simp
    | succ i =>
      simp only [List.set_cons_succ, List.countP_cons]
      rw [ih i (by simpa using h)]
      omega

/-- A row beside itself with less: what that has. -/
theorem countB_less {l m : List Bool} (hl : l.length = m.length) (h : ∀ i, atB m i = true → atB l i = true) : countB [l, m] = countB [m] := by
  unfold countB
  have e1 : longest [l, m] = m.length := by simp [longest]; omega
  have e2 : longest [m] = m.length := by simp [longest]
  rw [e1, e2]
  have : ∀ n, countN [l, m] n = countN [m] n := by
    intro n
    induction n with
    | zero => rfl
    | succ n ih =>
      rw [countN, countN, ih]
      congr 2
      rw [decide_eq_decide, howB_all, howB_all]
      constructor
      · intro hh x hx; exact hh x (by simp at hx ⊢; exact .inr hx)
      · intro hh x hx
        have hm := hh m (by simp)
        simp at hx
        rcases hx with rfl | rfl
        · exact h n hm
        · exact hm
  exact this _

/-- The first free place of one row. -/
theorem firstB_one (l : List Bool) : (firstB 0 [l] = -1 ∧ ∀ i, i < l.length → atB l i = true) ∨ ∃ p : Nat, firstB 0 [l] = p ∧ p < l.length ∧ atB l p = false ∧ ∀ i, i < p → atB l i = true := by
  have hL : longest [l] = l.length := by simp [longest]
  have h0 : ∀ j, howB [l] j ≠ 0 ↔ atB l j = true := by
    intro j
    unfold howB
    cases h : atB l j <;> simp [h]
  rcases firstB_spec 0 [l] with ⟨e, hn⟩ | ⟨p, e, h1, h2, h3, h4⟩
  · exact .inl ⟨e, fun i hi => (h0 i).1 (hn i (by omega) (by omega))⟩
  · refine .inr ⟨p, e, by omega, ?_, fun i hi => (h0 i).1 (h4 i (by omega) hi)⟩
    cases h : atB l p with
    | false => rfl
    | true => exact absurd h3 ((h0 p).2 h)

end Go.Proofs.Ytmjhapkhfelbpaa.Plain
