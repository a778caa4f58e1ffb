/-
  Plain facts: which blocks are used, by what counts and by what is being made; taken, given, committed. Nothing of any program.
-/
import Derived.Test.YtomjajmjooaegaaBitsPlain
namespace Go.Proofs.Ytomjajmjooaegaa.Plain
open Go.RowKit
set_option linter.unusedVariables false

/-! Which may be; which blocks are free -/

def rightA (b n : List Bool) : Bool := decide (b.length = n.length) && decide (24 ≤ n.length) && decide (n.length ≤ 2048) && (List.range 10).all fun i => atB b i && atB n i

theorem rightA_iff (b n : List Bool) : rightA b n = true ↔ b.length = n.length ∧ 24 ≤ n.length ∧ n.length ≤ 2048 ∧ ∀ i, i < 10 → atB b i = true ∧ atB n i = true := by
  unfold rightA
  simp only [Bool.and_eq_true, decide_eq_true_eq, List.all_eq_true, List.mem_range]
  constructor
  · rintro ⟨⟨⟨h1, h2⟩, h3⟩, h4⟩; exact ⟨h1, h2, h3, h4⟩
  · rintro ⟨h1, h2, h3, h4⟩; exact ⟨⟨⟨h1, h2⟩, h3⟩, h4⟩

def freeB (b n : List Bool) (i : Nat) : Bool := decide (i < n.length) && (!atB n i && !atB b i)

theorem freeB_iff (b n : List Bool) (i : Nat) : freeB b n i = true ↔ i < n.length ∧ atB n i = false ∧ atB b i = false := by
  unfold freeB
  simp

theorem freeB_how {b n : List Bool} {i : Nat} (hi : i < n.length) : freeB b n i = true ↔ howB [b, n] i = 0 := by
  rw [freeB_iff, howB_none]
  constructor
  · rintro ⟨_, h1, h2⟩ l hl
    simp at hl
    rcases hl with rfl | rfl
    · rw [h2]; simp
    · rw [h1]; simp
  · intro h
    exact ⟨hi, by simpa using h n (by simp), by simpa using h b (by simp)⟩

theorem free_ten {b n : List Bool} (h : rightA b n = true) {i : Nat} (hf : freeB b n i = true) : 10 ≤ i := by
  refine Nat.le_of_not_lt fun hl => ?_
  have := (((rightA_iff b n).1 h).2.2.2 i hl).2
  rw [((freeB_iff b n i).1 hf).2.1] at this
  cases this

/-- How many of the first so many blocks are so. -/
def howN (f : Nat → Bool) : Nat → Nat
  | 0 => 0
  | k + 1 => howN f k + bn (f k)

theorem howN_le (f : Nat → Bool) (k : Nat) : howN f k ≤ k := by
  induction k with
  | zero => exact Nat.le_refl _
  | succ k ih => rw [howN]; have := bn_lt (f k); omega

theorem howN_congr {f g : Nat → Bool} {k : Nat} (h : ∀ i, i < k → f i = g i) : howN f k = howN g k := by
  induction k with
  | zero => rfl
  | succ k ih => rw [howN, howN, ih fun i hi => h i (by omega), h k (by omega)]

theorem howN_filter (f : Nat → Bool) (k : Nat) : howN f k = ((List.range k).filter f).length := by
  induction k with
  | zero => rfl
  | succ k ih =>
    rw [howN, ih, List.range_succ, List.filter_append, List.length_append]
    congr 1
    cases h : f k <;> simp [h, bn]

theorem howN_zero {f : Nat → Bool} {k : Nat} : howN f k = 0 ↔ ∀ i, i < k → f i = false := by
  induction k with
  | zero => exact ⟨fun _ i hi => by omega, fun _ => rfl⟩
  | succ k ih =>
    rw [howN]
    constructor
    · intro h i hi
      by_cases e : i = k
      · subst e
        cases hf : f i with
        | false => rfl
        | true => rw [hf] at h; simp [bn] at h
      · exact ih.1 (by omega) i (by omega)
    · intro h
      rw [ih.2 fun i hi => h i (by omega), h k (by omega)]; rfl

/-- One more that is so. -/
theorem howN_one {f g : Nat → Bool} {k p : Nat} (hp : p < k) (hf : f p = true) (hg : g p = false) (h : ∀ i, i < k → i ≠ p → f i = g i) : howN f k = howN g k + 1 := by
  induction k with
  | zero => omega
  | succ k ih =>
    rw [howN, howN]
    by_cases e : p = k
    · subst e
      rw [hf, hg, howN_congr fun i hi => h i (by omega) (by omega)]
      simp [bn]
    · rw [ih (by omega) fun i hi hn => h i (by omega) hn, h k (by omega) (fun hh => e hh.symm)]
      omega

/-- What is one or the other, never both. -/
theorem howN_or {f g h : Nat → Bool} {k : Nat} (hh : ∀ i, i < k → h i = (f i || g i) ∧ ¬ (f i = true ∧ g i = true)) : howN h k = howN f k + howN g k := by
  induction k with
  | zero => rfl
  | succ k ih =>
    rw [howN, howN, howN, ih fun i hi => hh i (by omega), (hh k (by omega)).1]
    have := (hh k (by omega)).2
    cases hf : f k <;> cases hg : g k <;> simp_all [bn] <;> omega

theorem howN_all {f : Nat → Bool} {k : Nat} (h : ∀ i, i < k → f i = true) : howN f k = k := by
  induction k with
  | zero => rfl
  | succ k ih => rw [howN, ih fun i hi => h i (by omega), h k (by omega)]; rfl

def freeC (b n : List Bool) : Nat := if rightA b n = true then howN (freeB b n) n.length else 0

/-! A new one -/

def newL (k : Nat) : List Bool := (List.range k).map fun i => decide (i < 10)

theorem newL_length (k : Nat) : (newL k).length = k := by simp [newL]
theorem newL_at {k i : Nat} (h : i < k) : atB (newL k) i = decide (i < 10) := by
  apply atB_some
  unfold newL
  rw [List.getElem?_map, List.getElem?_range h]; rfl
theorem newL_succ (k : Nat) : newL (k + 1) = newL k ++ [decide (k < 10)] := by unfold newL; rw [List.range_succ, List.map_append]; rfl

theorem newL_right {k : Nat} (h1 : 24 ≤ k) (h2 : k ≤ 2048) : rightA (newL k) (newL k) = true := by
  rw [rightA_iff, newL_length]
  refine ⟨rfl, h1, h2, fun i hi => ?_⟩
  rw [newL_at (by omega)]
  exact ⟨decide_eq_true hi, decide_eq_true hi⟩

/-! Taken -/

def takeP (b n : List Bool) : Int := firstB 0 [b, n]
def takeE (b n : List Bool) : Int := if rightA b n = true then (if takeP b n = -1 then 60 else 0) else 1
def takeK (b n : List Bool) : Int := if takeE b n = 0 then takeP b n else 0
def takeB (b n : List Bool) : List Bool := if takeE b n = 0 then b else []
def takeN (b n : List Bool) : List Bool := if takeE b n = 0 then n.set (takeP b n).toNat true else []

theorem takeP_spec {b n : List Bool} (h : b.length = n.length) :
    (takeP b n = -1 ∧ ∀ i, i < n.length → freeB b n i = false) ∨ ∃ p : Nat, takeP b n = p ∧ p < n.length ∧ freeB b n p = true ∧ ∀ i, i < p → freeB b n i = false := by
  have hL : longest [b, n] = n.length := by simp [longest]; omega
  have hno : ∀ i, i < n.length → howB [b, n] i ≠ 0 → freeB b n i = false := by
    intro i hi hh
    cases hf : freeB b n i with
    | false => rfl
    | true => exact absurd ((freeB_how hi).1 hf) hh
  unfold takeP
  rcases firstB_spec 0 [b, n] with ⟨e, hn⟩ | ⟨p, e, h1, h2, h3, h4⟩
  · exact .inl ⟨e, fun i hi => hno i hi (hn i (by omega) (by omega))⟩
  · refine .inr ⟨p, e, by omega, (freeB_how (by omega)).2 h3, fun i hi => hno i (by omega) (h4 i (by omega) hi)⟩

theorem takeP_is {b n : List Bool} (h : b.length = n.length) {p : Nat} (hp : freeB b n p = true) (hlo : ∀ i, i < p → freeB b n i = false) : takeP b n = p := by
  have hl := ((freeB_iff b n p).1 hp).1
  rcases takeP_spec h with ⟨_, hn⟩ | ⟨q, e, hq, hf, hlo'⟩
  · rw [hn p hl] at hp; cases hp
  · rw [e]
    rcases Nat.lt_trichotomy p q with h | h | h
    · rw [hlo' p h] at hp; cases hp
    · rw [h]
    · rw [hlo q h] at hf; cases hf

theorem takeP_none {b n : List Bool} (h : b.length = n.length) : takeP b n = -1 ↔ howN (freeB b n) n.length = 0 := by
  rw [howN_zero]
  rcases takeP_spec h with ⟨e, hn⟩ | ⟨p, e, hp, hf, _⟩
  · exact ⟨fun _ => hn, fun _ => e⟩
  · constructor
    · intro hh; rw [e] at hh; omega
    · intro hh; rw [hh p hp] at hf; cases hf

theorem atB_setB (l : List Bool) (p i : Nat) (x : Bool) : atB (l.set p x) i = if p = i ∧ i < l.length then x else atB l i := by
  unfold atB
  rw [List.getElem?_set]
  by_cases e : p = i
  · subst e
    by_cases hl : p < l.length
    · rw [if_pos rfl, if_pos hl, if_pos ⟨rfl, hl⟩]; rfl
    · rw [if_pos rfl, if_neg hl, if_neg (fun h => hl h.2), List.getElem?_eq_none (by omega)]
  · rw [if_neg e, if_neg (fun h => e h.1)]

theorem right_set {b n : List Bool} (h : rightA b n = true) {p : Nat} (hp : 10 ≤ p) (x : Bool) : rightA b (n.set p x) = true := by
  rw [rightA_iff] at h ⊢
  rw [List.length_set]
  refine ⟨h.1, h.2.1, h.2.2.1, fun i hi => ⟨(h.2.2.2 i hi).1, ?_⟩⟩
  rw [atB_setB, if_neg (fun hh => by omega)]
  exact (h.2.2.2 i hi).2

theorem set_back {n : List Bool} {p : Nat} (hp : p < n.length) (h : atB n p = false) (x : Bool) : (n.set p x).set p false = n := by
  rw [List.set_set]
  apply List.ext_getElem?
  intro i
  by_cases e : p = i
  · subst e
    rw [List.getElem?_set_self hp, List.getElem?_eq_getElem hp]
    rw [atB_some (List.getElem?_eq_getElem hp)] at h
    rw [h]
  · rw [List.getElem?_set_ne e]

/-- Behind a take: the block is free no more, all others as before; one less is free. -/
theorem free_taken {b n : List Bool} {p : Nat} (hp : freeB b n p = true) : freeB b (n.set p true) p = false ∧ (∀ i, i ≠ p → freeB b (n.set p true) i = freeB b n i) ∧ howN (freeB b n) n.length = howN (freeB b (n.set p true)) n.length + 1 := by
  have hl := ((freeB_iff b n p).1 hp).1
  have h1 : freeB b (n.set p true) p = false := by
    unfold freeB
    rw [atB_setB, if_pos ⟨rfl, hl⟩]; simp
  have h2 : ∀ i, i ≠ p → freeB b (n.set p true) i = freeB b n i := by
    intro i hi
    unfold freeB
    rw [List.length_set, atB_setB, if_neg (fun h => hi h.1.symm)]
  exact ⟨h1, h2, howN_one hl hp h1 fun i _ hn => (h2 i hn).symm⟩

/-! Given -/

/-- What is being made behind blocks that are given, block by block. -/
def giveR (n : List Bool) : List Int → Option (List Bool)
  | [] => some n
  | x :: xs => if 10 ≤ x ∧ x < n.length ∧ atB n x.toNat = true then giveR (n.set x.toNat false) xs else none

theorem giveR_append (n : List Bool) (xs ys : List Int) : giveR n (xs ++ ys) = (giveR n xs).bind fun m => giveR m ys := by
  induction xs generalizing n with
  | nil => rfl
  | cons x xs ih =>
    rw [List.cons_append, giveR, giveR]
    split
    · exact ih _
    · rfl

theorem giveR_length {n m : List Bool} {xs : List Int} (h : giveR n xs = some m) : m.length = n.length := by
  induction xs generalizing n with
  | nil => cases h; rfl
  | cons x xs ih =>
    rw [giveR] at h
    split at h
    · rw [ih h, List.length_set]
    · cases h

theorem giveR_right {b n m : List Bool} {xs : List Int} (hr : rightA b n = true) (h : giveR n xs = some m) : rightA b m = true := by
  induction xs generalizing n with
  | nil => cases h; exact hr
  | cons x xs ih =>
    rw [giveR] at h
    split at h
    · rename_i hx
      exact ih (right_set hr (by omega) false) h
    · cases h

theorem giveR_take {n m : List Bool} {xs : List Int} {j : Nat} {x : Int} (h : giveR n (xs.take j) = some m) (hx : xs[j]? = some x) :
    giveR n (xs.take (j + 1)) = if 10 ≤ x ∧ x < m.length ∧ atB m x.toNat = true then some (m.set x.toNat false) else none := by
  rw [List.take_add_one, hx, giveR_append, h]
  show giveR m [x] = _
  rw [giveR]
  split <;> rfl

theorem giveR_stop {n : List Bool} {xs : List Int} {j : Nat} (h : giveR n (xs.take j) = none) : giveR n xs = none := by
  rw [← List.take_append_drop j xs, giveR_append, h]; rfl

/-- Blocks that are all used, none twice, are given. -/
theorem giveR_all {n : List Bool} {xs : List Int} (hnd : xs.Nodup) (h : ∀ x ∈ xs, 10 ≤ x ∧ x < n.length ∧ atB n x.toNat = true) : giveR n xs = some (setB n false xs) := by
  induction xs generalizing n with
  | nil => rfl
  | cons x xs ih =>
    obtain ⟨h1, h2, h3⟩ := h x (by simp)
    rw [giveR, if_pos ⟨h1, h2, h3⟩, setB]
    rw [List.nodup_cons] at hnd
    refine ih hnd.2 fun y hy => ?_
    obtain ⟨g1, g2, g3⟩ := h y (by simp [hy])
    refine ⟨g1, by rw [List.length_set]; exact g2, ?_⟩
    rw [atB_setB, if_neg]
    · exact g3
    · intro hh
      have : x = y := by omega
      exact hnd.1 (this ▸ hy)

def giveE (b n : List Bool) (xs : List Int) : Int := if rightA b n = true then (if (giveR n xs).isSome = true then 0 else 30) else 1
def giveB (b n : List Bool) (xs : List Int) : List Bool := if giveE b n xs = 0 then b else []
def giveN (b n : List Bool) (xs : List Int) : List Bool := if giveE b n xs = 0 then (giveR n xs).getD [] else []

/-! Committed -/

def commitE (b n : List Bool) : Int := if rightA b n = true then 0 else 1
def commitL (b n : List Bool) : List Bool := if rightA b n = true then n else []

theorem right_commit {b n : List Bool} (h : rightA b n = true) : rightA n n = true := by
  rw [rightA_iff] at h ⊢
  exact ⟨rfl, h.2.1, h.2.2.1, fun i hi => ⟨(h.2.2.2 i hi).2, (h.2.2.2 i hi).2⟩⟩

/-! All that are free, taken one behind the other -/

/-- The free blocks, in their order. -/
def freesL (b n : List Bool) : List Nat := (List.range n.length).filter (freeB b n)

theorem freesL_length {b n : List Bool} : (freesL b n).length = howN (freeB b n) n.length := (howN_filter _ _).symm
theorem freesL_mem {b n : List Bool} {i : Nat} : i ∈ freesL b n ↔ freeB b n i = true := by
  unfold freesL
  rw [List.mem_filter, List.mem_range]
  exact ⟨fun h => h.2, fun h => ⟨((freeB_iff b n i).1 h).1, h⟩⟩
theorem freesL_sorted (b n : List Bool) : (freesL b n).Pairwise (· < ·) := (List.pairwise_lt_range).filter _
theorem freesL_nodup (b n : List Bool) : (freesL b n).Nodup := (freesL_sorted b n).imp (fun h => Nat.ne_of_lt h)

/-- What is being made when the first so many of them have been taken. -/
def fillN (b n : List Bool) (k : Nat) : List Bool := (List.range n.length).map fun i => atB n i || decide (i ∈ (freesL b n).take k)

theorem fillN_length (b n : List Bool) (k : Nat) : (fillN b n k).length = n.length := by simp [fillN]

theorem fillN_at {b n : List Bool} {k i : Nat} (h : i < n.length) : atB (fillN b n k) i = (atB n i || decide (i ∈ (freesL b n).take k)) := by
  apply atB_some
  unfold fillN
  rw [List.getElem?_map, List.getElem?_range h]; rfl

theorem row_ext {l m : List Bool} (hl : l.length = m.length) (h : ∀ i, i < l.length → atB l i = atB m i) : l = m := by
  apply List.ext_getElem?
  intro i
  by_cases hi : i < l.length
  · have := h i hi
    rw [atB_some (List.getElem?_eq_getElem hi), atB_some (List.getElem?_eq_getElem (hl ▸ hi))] at this
    rw [List.getElem?_eq_getElem hi, List.getElem?_eq_getElem (hl ▸ hi), this]
  · rw [List.getElem?_eq_none (by omega), List.getElem?_eq_none (by omega)]

theorem fillN_zero (b n : List Bool) : fillN b n 0 = n := by
  apply row_ext (fillN_length b n 0)
  intro i hi
  rw [fillN_length] at hi
  rw [fillN_at hi]; simp

theorem fillN_free {b n : List Bool} {k i : Nat} (hi : i < n.length) : freeB b (fillN b n k) i = (freeB b n i && !decide (i ∈ (freesL b n).take k)) := by
  unfold freeB
  rw [fillN_length, fillN_at hi]
  cases atB n i <;> cases decide (i ∈ (freesL b n).take k) <;> simp [hi]

/-- The next one that is taken. -/
theorem fillN_take {b n : List Bool} (h : b.length = n.length) {k : Nat} {p : Nat} (hp : (freesL b n)[k]? = some p) : takeP b (fillN b n k) = p ∧ (fillN b n k).set p true = fillN b n (k + 1) := by
  have hpf := freesL_mem.1 (List.mem_of_getElem? hp)
  have hpl := ((freeB_iff b n p).1 hpf).1
  have hk := (List.getElem?_eq_some_iff.1 hp).1
  have hs := freesL_sorted b n
  have hdrop : (freesL b n).drop k = p :: (freesL b n).drop (k + 1) := by
    rw [List.drop_eq_getElem_cons hk]
    congr 1
    exact (List.getElem?_eq_some_iff.1 hp).2
  have hsplit : ((freesL b n).take k ++ p :: (freesL b n).drop (k + 1)).Pairwise (· < ·) := by
    rw [← hdrop, List.take_append_drop]; exact hs
  rw [List.pairwise_append] at hsplit
  obtain ⟨_, h2, h3⟩ := hsplit
  have hpn : p ∉ (freesL b n).take k := fun hh => by have := h3 p hh p (by simp); omega
  constructor
  · refine takeP_is (by rw [fillN_length]; exact h) ?_ ?_
    · rw [fillN_free hpl, hpf, decide_eq_false hpn]; rfl
    · intro i hi
      rw [fillN_free (by omega)]
      cases hf : freeB b n i with
      | false => rfl
      | true =>
        have hm := freesL_mem.2 hf
        rw [← List.take_append_drop k (freesL b n), hdrop, List.mem_append, List.mem_cons] at hm
        rcases hm with hm | rfl | hm
        · rw [decide_eq_true hm]; rfl
        · omega
        · rw [List.pairwise_cons] at h2
          have := h2.1 i hm
          omega
  · apply row_ext (by rw [List.length_set, fillN_length, fillN_length])
    intro i hi
    rw [List.length_set, fillN_length] at hi
    rw [atB_setB, fillN_length, fillN_at hi, fillN_at hi, List.take_add_one, hp]
    by_cases e : p = i
    · subst e
      rw [if_pos ⟨rfl, hi⟩]; simp
    · rw [if_neg (fun hh => e hh.1)]
      congr 1
      rw [decide_eq_decide, List.mem_append]
      constructor
      · exact .inl
      · rintro (hh | hh)
        · exact hh
        · simp at hh; exact absurd hh.symm e

/-- When all are taken none is free. -/
theorem fillN_full {b n : List Bool} (h : b.length = n.length) : takeP b (fillN b n (freesL b n).length) = -1 ∧ howN (freeB b (fillN b n (freesL b n).length)) n.length = 0 := by
  have hz : howN (freeB b (fillN b n (freesL b n).length)) n.length = 0 := by
    rw [howN_zero]
    intro i hi
    rw [fillN_free hi, List.take_length]
    cases hf : freeB b n i with
    | false => rfl
    | true => rw [decide_eq_true (freesL_mem.2 hf)]; rfl
  refine ⟨(takeP_none (by rw [fillN_length]; exact h)).2 ?_, hz⟩
  rw [fillN_length]; exact hz

theorem fillN_right {b n : List Bool} (h : rightA b n = true) (k : Nat) : rightA b (fillN b n k) = true := by
  rw [rightA_iff] at h ⊢
  rw [fillN_length]
  refine ⟨h.1, h.2.1, h.2.2.1, fun i hi => ⟨(h.2.2.2 i hi).1, ?_⟩⟩
  rw [fillN_at (by omega), (h.2.2.2 i hi).2]; rfl

/-- Given back, in whatever order, they are free as before. -/
theorem fill_back {b n : List Bool} (h : rightA b n = true) {xs : List Int} (hnd : xs.Nodup) (hm : ∀ x : Int, x ∈ xs ↔ ∃ i ∈ freesL b n, x = (i : Nat)) : giveR (fillN b n (freesL b n).length) xs = some n := by
  have hfr : ∀ i ∈ freesL b n, 10 ≤ i ∧ i < n.length ∧ atB n i = false := by
    intro i hi
    have hf := freesL_mem.1 hi
    exact ⟨free_ten h hf, ((freeB_iff b n i).1 hf).1, ((freeB_iff b n i).1 hf).2.1⟩
  have hall : ∀ x ∈ xs, 10 ≤ x ∧ x < (fillN b n (freesL b n).length).length ∧ atB (fillN b n (freesL b n).length) x.toNat = true := by
    intro x hx
    obtain ⟨i, hi, rfl⟩ := (hm x).1 hx
    obtain ⟨h1, h2, h3⟩ := hfr i hi
    refine ⟨by omega, by rw [fillN_length]; omega, ?_⟩
    rw [Int.toNat_natCast, fillN_at h2, List.take_length, decide_eq_true hi, Bool.or_true]
  rw [giveR_all hnd hall, Option.some_inj]
  apply row_ext (by rw [setB_length, fillN_length])
  intro i hi
  rw [setB_length, fillN_length] at hi
  have hok : placesOk (fillN b n (freesL b n).length) xs = true := by
    unfold placesOk
    rw [List.all_eq_true]
    intro x hx
    obtain ⟨h1, h2, _⟩ := hall x hx
    simp
    omega
  rw [atB_some (setB_get _ _ _ hok i (by rw [fillN_length]; exact hi))]
  by_cases hx : (i : Int) ∈ xs
  · rw [if_pos hx]
    obtain ⟨j, hj, e⟩ := (hm i).1 hx
    obtain rfl : i = j := by omega
    exact (hfr i hj).2.2.symm
  · rw [if_neg hx]
    have hnf : i ∉ freesL b n := fun hh => hx ((hm i).2 ⟨i, hh, rfl⟩)
    have := fillN_at (b := b) (k := (freesL b n).length) hi
    rw [atB_some (List.getElem?_eq_getElem (by rw [fillN_length]; exact hi)), List.take_length, decide_eq_false hnf, Bool.or_false] at this
    exact this

/-! Sets of blocks: which are used by what is being made, which by what counts -/

/-- How many blocks are free, told by how many are used. -/
theorem free_count {b n : List Bool} (h : rightA b n = true) :
    howN (freeB b n) n.length + 10 + howN (fun i => decide (10 ≤ i) && atB n i) n.length + howN (fun i => decide (10 ≤ i) && atB b i && !atB n i) n.length = n.length := by
  obtain ⟨h1, h2, h3, h4⟩ := (rightA_iff b n).1 h
  have e10 : howN (fun i => decide (i < 10)) n.length = 10 := by
    have : ∀ m, 10 ≤ m → howN (fun i => decide (i < 10)) m = 10 := by
      intro m hm
      induction m with
      | zero => omega
      | succ m ih =>
        rw [howN]
        by_cases hm' : 10 ≤ m
        · rw [ih hm', decide_eq_false (by omega)]; rfl
        · obtain rfl : m = 9 := by omega
          rfl
    exact this _ (by omega)
  have a1 : howN (fun i => decide (i < 10) || (decide (10 ≤ i) && atB n i)) n.length = 10 + howN (fun i => decide (10 ≤ i) && atB n i) n.length := by
    rw [howN_or (f := fun i => decide (i < 10)) (g := fun i => decide (10 ≤ i) && atB n i), e10]
    intro i hi
    refine ⟨rfl, ?_⟩
    simp
    omega
  have a2 : howN (fun i => freeB b n i || (decide (10 ≤ i) && atB b i && !atB n i)) n.length = howN (freeB b n) n.length + howN (fun i => decide (10 ≤ i) && atB b i && !atB n i) n.length := by
    refine howN_or fun i hi => ⟨rfl, ?_⟩
    rintro ⟨g1, g2⟩
    have := ((freeB_iff b n i).1 g1).2.2
    simp [this] at g2
  have a3 : howN (fun _ => true) n.length = n.length := howN_all fun i hi => rfl
  have a4 : howN (fun _ => true) n.length = howN (fun i => decide (i < 10) || (decide (10 ≤ i) && atB n i)) n.length + howN (fun i => freeB b n i || (decide (10 ≤ i) && atB b i && !atB n i)) n.length := by
    refine howN_or fun i hi => ?_
    by_cases h10 : i < 10
    · have hb := (h4 i h10).1
      have hn := (h4 i h10).2
      simp [freeB, h10, hb, hn]
    · have h10' : 10 ≤ i := by omega
      cases hn : atB n i <;> cases hb : atB b i <;> simp [freeB, h10, h10', hb, hn, hi]
  omega

end Go.Proofs.Ytomjajmjooaegaa.Plain
