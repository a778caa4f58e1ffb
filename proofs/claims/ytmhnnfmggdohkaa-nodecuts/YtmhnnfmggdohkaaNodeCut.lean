/-
  Plain facts: where a key stands, which child it belongs to; a node cut in two, two joined. Nothing of any program.
-/
import Derived.Test.YtmhnnfmggdohkaaNodePlain
namespace Go.Proofs.Ytmhnnfmggdohkaa.Plain
open Go.RowKit
set_option linter.unusedVariables false

/-! Where a key stands -/

def findN (key : ByteArray) : List ByteArray → Nat
  | [] => 0
  | k :: ks => if ltB k key = true then findN key ks + 1 else 0

def isN (ks : List ByteArray) (key : ByteArray) : Bool := decide (ks[findN key ks]? = some key)
def kidN (ks : List ByteArray) (key : ByteArray) : Nat := ks.countP fun k => !ltB key k

theorem findN_le (key : ByteArray) (ks : List ByteArray) : findN key ks ≤ ks.length := by
  induction ks with
  | nil => exact Nat.le_refl _
  | cons k ks ih =>
    rw [findN]
    split
    · simp; omega
    · simp

/-- All keys ahead of it are below the key. -/
theorem findN_ahead {key : ByteArray} {ks : List ByteArray} {j : Nat} {x : ByteArray} (hx : ks[j]? = some x) (hj : j < findN key ks) : ltB x key = true := by
  induction ks generalizing j with
  | nil => simp at hx
  | cons k ks ih =>
    rw [findN] at hj
    split at hj
    · rename_i hk
      cases j with
      | zero => simp at hx; rw [← hx]; exact hk
      | succ j => exact ih (by simpa using hx) (by omega)
    · omega

/-- The one there is not. -/
theorem findN_at {key : ByteArray} {ks : List ByteArray} {x : ByteArray} (hx : ks[findN key ks]? = some x) : ltB x key = false := by
  induction ks with
  | nil => simp at hx
  | cons k ks ih =>
    rw [findN] at hx
    split at hx
    · exact ih (by simpa using hx)
    · rename_i hk
      simp at hx
      rw [← hx]; simpa using hk

/-- None from there on is. -/
theorem findN_behind {key : ByteArray} {ks : List ByteArray} (hr : risingK ks = true) {j : Nat} {x : ByteArray} (hx : ks[j]? = some x) (hj : findN key ks ≤ j) : ltB x key = false := by
  rcases Nat.lt_or_eq_of_le hj with h | h
  · obtain ⟨y, hy⟩ : ∃ y, ks[findN key ks]? = some y := ⟨_, List.getElem?_eq_getElem (by have := (List.getElem?_eq_some_iff.1 hx).1; omega)⟩
    have h1 := findN_at hy
    have h2 := rising_iff.1 hr _ _ _ _ h hy hx
    cases hc : ltB x key with
    | false => rfl
    | true => rw [ltB_trans h2 hc] at h1; cases h1
  · rw [← h] at hx; exact findN_at hx

/-- It is the first place whose key is not below. -/
theorem findN_is {key : ByteArray} {ks : List ByteArray} {i : Nat} {x : ByteArray} (hx : ks[i]? = some x) (h : ltB x key = false) (hall : ∀ j y, j < i → ks[j]? = some y → ltB y key = true) : findN key ks = i := by
  rcases Nat.lt_trichotomy (findN key ks) i with hl | hl | hl
  · obtain ⟨y, hy⟩ : ∃ y, ks[findN key ks]? = some y := ⟨_, List.getElem?_eq_getElem (by have := (List.getElem?_eq_some_iff.1 hx).1; omega)⟩
    have := findN_at hy
    rw [hall _ _ hl hy] at this
    cases this
  · exact hl
  · have := findN_ahead hx hl
    rw [h] at this; cases this

theorem findN_all {key : ByteArray} {ks : List ByteArray} (hall : ∀ (j : Nat) (y : ByteArray), ks[j]? = some y → ltB y key = true) : findN key ks = ks.length := by
  rcases Nat.lt_or_eq_of_le (findN_le key ks) with h | h
  · obtain ⟨y, hy⟩ : ∃ y, ks[findN key ks]? = some y := ⟨_, List.getElem?_eq_getElem h⟩
    have := findN_at hy
    rw [hall _ _ hy] at this
    cases this
  · exact h

/-- A key that is there stands there. -/
theorem findN_there {key : ByteArray} {ks : List ByteArray} (hr : risingK ks = true) {j : Nat} (hx : ks[j]? = some key) : findN key ks = j :=
  findN_is hx (ltB_irrefl key) fun i y hi hy => rising_iff.1 hr i j y key hi hy hx

theorem isN_iff {key : ByteArray} {ks : List ByteArray} : isN ks key = true ↔ ks[findN key ks]? = some key := by unfold isN; simp

/-- How many are not above a key. -/
theorem kidN_find {key : ByteArray} {ks : List ByteArray} (hr : risingK ks = true) : kidN ks key = findN key ks + (if isN ks key = true then 1 else 0) := by
  have hgen : ∀ n, n ≤ ks.length → (∀ j y, ks[j]? = some y → ((!ltB key y) = decide (j < n))) → kidN ks key = n := by
    intro n hn h
    unfold kidN
    have hp : ks.countP (fun k => !ltB key k) = ((ks.take n).countP fun k => !ltB key k) + ((ks.drop n).countP fun k => !ltB key k) := by
      rw [← List.countP_append, List.take_append_drop]
    have h1 : ((ks.take n).countP fun k => !ltB key k) = n := by
      rw [List.countP_eq_length.2, List.length_take]
      · omega
      · intro x hx
        obtain ⟨j, hj⟩ := List.getElem?_of_mem hx
        have hjl := (List.getElem?_eq_some_iff.1 hj).1
        rw [List.length_take] at hjl
        rw [List.getElem?_take_of_lt (by omega)] at hj
        rw [h j x hj]; simp; omega
    have h2 : ((ks.drop n).countP fun k => !ltB key k) = 0 := by
      rw [List.countP_eq_zero]
      intro x hx
      obtain ⟨j, hj⟩ := List.getElem?_of_mem hx
      rw [List.getElem?_drop] at hj
      rw [h (n + j) x hj]; simp
    rw [hp, h1, h2]; omega
  by_cases hi : isN ks key = true
  · rw [if_pos hi]
    have hat := isN_iff.1 hi
    have hl := (List.getElem?_eq_some_iff.1 hat).1
    refine hgen _ (by omega) fun j y hy => ?_
    rcases Nat.lt_trichotomy j (findN key ks) with h | h | h
    · rw [ltB_asymm (findN_ahead hy h), decide_eq_true (by omega)]; rfl
    · rw [h, hat] at hy
      cases hy
      rw [ltB_irrefl, decide_eq_true (by omega)]; rfl
    · rw [rising_iff.1 hr _ _ _ _ h hat hy, decide_eq_false (by omega)]; rfl
  · rw [if_neg hi, Nat.add_zero]
    refine hgen _ (findN_le _ _) fun j y hy => ?_
    by_cases h : j < findN key ks
    · rw [ltB_asymm (findN_ahead hy h), decide_eq_true h]; rfl
    · rw [decide_eq_false h]
      have h1 := findN_behind (key := key) hr hy (by omega)
      cases hc : ltB key y with
      | true => rfl
      | false =>
        have hyk : y = key := ltB_total h1 hc
        rw [hyk] at hy
        exact absurd (isN_iff.2 (by rw [findN_there hr hy]; exact hy)) hi

/-! Cut in two, and joined -/

theorem rising_take {ks : List ByteArray} (h : risingK ks = true) (n : Nat) : risingK (ks.take n) = true := by
  rw [rising_iff] at h ⊢
  intro i j x y hij hx hy
  rw [List.getElem?_take] at hx hy
  split at hx
  · split at hy
    · exact h i j x y hij hx hy
    · cases hy
  · cases hx

theorem rising_drop {ks : List ByteArray} (h : risingK ks = true) (n : Nat) : risingK (ks.drop n) = true := by
  rw [rising_iff] at h ⊢
  intro i j x y hij hx hy
  rw [List.getElem?_drop] at hx hy
  exact h (n + i) (n + j) x y (by omega) hx hy

/-- Both parts of a leaf of nine keys. -/
theorem cut_leaf {ks vs : List ByteArray} (h : standsN true ks vs [] = true) (h9 : ks.length = 9) :
    rightN true (ks.take 4) (vs.take 4) [] false = true ∧ rightN true (ks.drop 4) (vs.drop 4) [] false = true ∧ ks.take 4 ++ ks.drop 4 = ks ∧ vs.take 4 ++ vs.drop 4 = vs := by
  obtain ⟨_, hk, hr, hv, _, hs⟩ := standsN_iff.1 h
  obtain ⟨hl, _⟩ := shape_leaf.1 hs
  refine ⟨?_, ?_, List.take_append_drop _ _, List.take_append_drop _ _⟩
  · refine rightN_iff.2 ⟨standsN_iff.2 ⟨by rw [List.length_take]; omega, fun k hm => hk k (List.mem_of_mem_take hm), rising_take hr 4, fun v hm => hv v (List.mem_of_mem_take hm), fun c hm => (by cases hm), shape_leaf.2 ⟨by rw [List.length_take, List.length_take]; omega, rfl⟩⟩, by rw [List.length_take]; omega, .inr (by rw [List.length_take]; omega)⟩
  · refine rightN_iff.2 ⟨standsN_iff.2 ⟨by rw [List.length_drop]; omega, fun k hm => hk k (List.mem_of_mem_drop hm), rising_drop hr 4, fun v hm => hv v (List.mem_of_mem_drop hm), fun c hm => (by cases hm), shape_leaf.2 ⟨by rw [List.length_drop, List.length_drop]; omega, rfl⟩⟩, by rw [List.length_drop]; omega, .inr (by rw [List.length_drop]; omega)⟩

/-- Both parts of an inner one. -/
theorem cut_inner {ks : List ByteArray} {cs : List Int} (h : standsN false ks [] cs = true) (h9 : ks.length = 9) {mid : ByteArray} (hm : ks[4]? = some mid) :
    rightN false (ks.take 4) [] (cs.take 5) false = true ∧ rightN false (ks.drop 5) [] (cs.drop 5) false = true ∧ ks.take 4 ++ mid :: ks.drop 5 = ks ∧ cs.take 5 ++ cs.drop 5 = cs := by
  obtain ⟨_, hk, hr, _, hc, hs⟩ := standsN_iff.1 h
  obtain ⟨_, _, hl⟩ := shape_inner.1 hs
  refine ⟨?_, ?_, ?_, List.take_append_drop _ _⟩
  · refine rightN_iff.2 ⟨standsN_iff.2 ⟨by rw [List.length_take]; omega, fun k hm => hk k (List.mem_of_mem_take hm), rising_take hr 4, fun v hm => (by cases hm), fun c hm => hc c (List.mem_of_mem_take hm), shape_inner.2 ⟨rfl, by rw [List.length_take]; omega, by rw [List.length_take, List.length_take]; omega⟩⟩, by rw [List.length_take]; omega, .inr (by rw [List.length_take]; omega)⟩
  · refine rightN_iff.2 ⟨standsN_iff.2 ⟨by rw [List.length_drop]; omega, fun k hm => hk k (List.mem_of_mem_drop hm), rising_drop hr 5, fun v hm => (by cases hm), fun c hm => hc c (List.mem_of_mem_drop hm), shape_inner.2 ⟨rfl, by rw [List.length_drop]; omega, by rw [List.length_drop, List.length_drop]; omega⟩⟩, by rw [List.length_drop]; omega, .inr (by rw [List.length_drop]; omega)⟩
  · obtain ⟨hj, e⟩ := List.getElem?_eq_some_iff.1 hm
    rw [← e, ← List.drop_eq_getElem_cons hj, List.take_append_drop]

/-- Which side of the key between them the keys of both parts are. -/
theorem cut_sides {ks : List ByteArray} (hr : risingK ks = true) {mid : ByteArray} (hm : ks[4]? = some mid) : (∀ k ∈ ks.take 4, ltB k mid = true) ∧ (∀ k ∈ ks.drop 4, ltB k mid = false) ∧ ∀ k ∈ ks.drop 5, ltB k mid = false := by
  have hb : ∀ j x, 4 ≤ j → ks[j]? = some x → ltB x mid = false := by
    intro j x hj hx
    rcases Nat.lt_or_eq_of_le hj with h | h
    · exact ltB_asymm (rising_iff.1 hr 4 j mid x h hm hx)
    · rw [← h, hm] at hx
      cases hx
      exact ltB_irrefl _
  refine ⟨fun k hk => ?_, fun k hk => ?_, fun k hk => ?_⟩
  · obtain ⟨j, hj⟩ := List.getElem?_of_mem hk
    have hl := (List.getElem?_eq_some_iff.1 hj).1
    rw [List.length_take] at hl
    rw [List.getElem?_take_of_lt (by omega)] at hj
    exact rising_iff.1 hr j 4 k mid (by omega) hj hm
  · obtain ⟨j, hj⟩ := List.getElem?_of_mem hk
    rw [List.getElem?_drop] at hj
    exact hb (4 + j) k (by omega) hj
  · obtain ⟨j, hj⟩ := List.getElem?_of_mem hk
    rw [List.getElem?_drop] at hj
    exact hb (5 + j) k (by omega) hj

/-- Two nodes side by side. -/
def joinK (l : Bool) (ks : List ByteArray) (key : ByteArray) (ks' : List ByteArray) : List ByteArray := if l = true then ks ++ ks' else ks ++ key :: ks'
def joinE (l : Bool) (ks vs : List ByteArray) (cs : List Int) (key : ByteArray) (l' : Bool) (ks' vs' : List ByteArray) (cs' : List Int) : Int :=
  if standsN l ks vs cs = true ∧ standsN l' ks' vs' cs' = true ∧ l = l' ∧ standsN l (joinK l ks key ks') (vs ++ vs') (cs ++ cs') = true then 0 else 1
def joinKs (l : Bool) (ks vs : List ByteArray) (cs : List Int) (key : ByteArray) (l' : Bool) (ks' vs' : List ByteArray) (cs' : List Int) : List ByteArray := if joinE l ks vs cs key l' ks' vs' cs' = 0 then joinK l ks key ks' else []
def joinVs (l : Bool) (ks vs : List ByteArray) (cs : List Int) (key : ByteArray) (l' : Bool) (ks' vs' : List ByteArray) (cs' : List Int) : List ByteArray := if joinE l ks vs cs key l' ks' vs' cs' = 0 then vs ++ vs' else []
def joinCs (l : Bool) (ks vs : List ByteArray) (cs : List Int) (key : ByteArray) (l' : Bool) (ks' vs' : List ByteArray) (cs' : List Int) : List Int := if joinE l ks vs cs key l' ks' vs' cs' = 0 then cs ++ cs' else []
def joinL (l : Bool) (ks vs : List ByteArray) (cs : List Int) (key : ByteArray) (l' : Bool) (ks' vs' : List ByteArray) (cs' : List Int) : Bool := if joinE l ks vs cs key l' ks' vs' cs' = 0 then l else false

/-- The error of cutting, and what is cut. -/
def cutNE (l : Bool) (ks vs : List ByteArray) (cs : List Int) : Int := if standsN l ks vs cs = true ∧ ks.length = 9 then 0 else 1
/-- From which key on the second part has them. -/
def cutFrom (l : Bool) : Nat := if l = true then 4 else 5

/-- What is cut, joined, is the node. -/
theorem cut_join {l : Bool} {ks vs : List ByteArray} {cs : List Int} (h : standsN l ks vs cs = true) (h9 : ks.length = 9) {mid : ByteArray} (hm : ks[4]? = some mid) :
    rightN l (ks.take 4) (vs.take 4) (cs.take 5) false = true ∧ rightN l (ks.drop (cutFrom l)) (vs.drop 4) (cs.drop 5) false = true ∧ joinK l (ks.take 4) mid (ks.drop (cutFrom l)) = ks ∧ vs.take 4 ++ vs.drop 4 = vs ∧ cs.take 5 ++ cs.drop 5 = cs := by
  obtain ⟨_, _, _, _, _, hs⟩ := standsN_iff.1 h
  cases l with
  | true =>
    obtain rfl : cs = [] := List.length_eq_zero_iff.1 (shape_leaf.1 hs).2
    obtain ⟨a, b, c, d⟩ := cut_leaf h h9
    exact ⟨a, b, c, d, rfl⟩
  | false =>
    obtain rfl : vs = [] := List.length_eq_zero_iff.1 (shape_inner.1 hs).1
    obtain ⟨a, b, c, d⟩ := cut_inner h h9 hm
    exact ⟨a, b, c, rfl, d⟩

/-- Where a key stands in a node, and whether it is there: 0 and no of one that may not stand. -/
def findR (l : Bool) (ks vs : List ByteArray) (cs : List Int) (key : ByteArray) : Int := if standsN l ks vs cs = true then (findN key ks : Nat) else 0
def findI (l : Bool) (ks vs : List ByteArray) (cs : List Int) (key : ByteArray) : Bool := standsN l ks vs cs && isN ks key
def kidR (l : Bool) (ks vs : List ByteArray) (cs : List Int) (key : ByteArray) : Int := if standsN l ks vs cs = true ∧ l = false then (kidN ks key : Nat) else 0

end Go.Proofs.Ytmhnnfmggdohkaa.Plain
