/-
  Plain facts: texts in order; nodes of a tree: which may stand, which may be; their bytes; where a key stands; cut and joined. Nothing of any program.
-/
import Derived.Test.YtnipikdlfmcheaaPlainE
namespace Go.Proofs.Ytnipikdlfmcheaa.Plain
open Go.RowKit
set_option linter.unusedVariables false

/-! Texts in order, byte by byte -/

theorem bl_irrefl (x : List UInt8) : Op.bytesLess x x = false := by
  induction x with
  | nil => rfl
  | cons a x ih => simp [Op.bytesLess, ih]

theorem bl_total {x y : List UInt8} (h1 : Op.bytesLess x y = false) (h2 : Op.bytesLess y x = false) : x = y := by
  induction x generalizing y with
  | nil =>
    cases y with
    | nil => rfl
    | cons b y => simp [Op.bytesLess] at h1
  | cons a x ih =>
    cases y with
    | nil => simp [Op.bytesLess] at h2
    | cons b y =>
      simp only [Op.bytesLess, Bool.or_eq_false_iff, Bool.and_eq_false_iff, decide_eq_false_iff_not, beq_eq_false_iff_ne] at h1 h2
      have hab : a = b := by
        apply UInt8.toNat_inj.1
        have g1 := h1.1
        have g2 := h2.1
        rw [UInt8.lt_iff_toNat_lt] at g1 g2
        omega
      subst hab
      rcases h1.2 with h | h
      · exact absurd rfl h
      · rcases h2.2 with g | g
        · exact absurd rfl g
        · rw [ih h g]

theorem bl_trans {x y z : List UInt8} (h1 : Op.bytesLess x y = true) (h2 : Op.bytesLess y z = true) : Op.bytesLess x z = true := by
  induction x generalizing y z with
  | nil =>
    cases z with
    | nil => cases y <;> simp [Op.bytesLess] at h2
    | cons c z => rfl
  | cons a x ih =>
    cases y with
    | nil => simp [Op.bytesLess] at h1
    | cons b y =>
      cases z with
      | nil => simp [Op.bytesLess] at h2
      | cons c z =>
        simp only [Op.bytesLess, Bool.or_eq_true, Bool.and_eq_true, decide_eq_true_eq, beq_iff_eq] at h1 h2 ⊢
        rcases h1 with h1 | ⟨rfl, h1⟩
        · rcases h2 with h2 | ⟨rfl, h2⟩
          · left
            rw [UInt8.lt_iff_toNat_lt] at *
            omega
          · exact .inl h1
        · rcases h2 with h2 | ⟨rfl, h2⟩
          · exact .inl h2
          · exact .inr ⟨rfl, ih h1 h2⟩

theorem toList_inj {a b : ByteArray} (h : a.toList = b.toList) : a = b := by
  apply bytes_ext
  rw [← ByteArray.toList_eq, ← ByteArray.toList_eq]; exact h

def ltB (a b : ByteArray) : Bool := Op.bytesLess a.toList b.toList

theorem ltB_irrefl (a : ByteArray) : ltB a a = false := bl_irrefl _
theorem ltB_trans {a b c : ByteArray} (h1 : ltB a b = true) (h2 : ltB b c = true) : ltB a c = true := bl_trans h1 h2
theorem ltB_total {a b : ByteArray} (h1 : ltB a b = false) (h2 : ltB b a = false) : a = b := toList_inj (bl_total h1 h2)
theorem ltB_asymm {a b : ByteArray} (h : ltB a b = true) : ltB b a = false := by
  cases hb : ltB b a with
  | false => rfl
  | true => have := ltB_trans h hb; rw [ltB_irrefl] at this; cases this
/-- What is not below a text is, where another is below it, not below that one. -/
theorem ltB_le {a b c : ByteArray} (h1 : ltB a b = true) (h2 : ltB c b = false) : ltB a c = true := by
  cases hc : ltB a c with
  | true => rfl
  | false =>
    cases hd : ltB c a with
    | true => rw [ltB_trans hd h1] at h2; cases h2
    | false =>
      rw [ltB_total hc hd] at h1
      rw [h1] at h2; cases h2

/-! Keys that rise -/

def headUp (x : ByteArray) : List ByteArray → Bool
  | [] => true
  | y :: _ => ltB x y

def risingK : List ByteArray → Bool
  | [] => true
  | x :: r => headUp x r && risingK r

theorem rising_pair {ks : List ByteArray} (h : risingK ks = true) : ks.Pairwise fun x y => ltB x y = true := by
  induction ks with
  | nil => exact .nil
  | cons x r ih =>
    rw [risingK, Bool.and_eq_true] at h
    have hr := ih h.2
    refine .cons ?_ hr
    cases r with
    | nil => intro y hy; cases hy
    | cons z r =>
      intro y hy
      rcases List.mem_cons.1 hy with rfl | hy
      · exact h.1
      · exact ltB_trans h.1 ((List.pairwise_cons.1 hr).1 y hy)

theorem rising_of {ks : List ByteArray} (h : ks.Pairwise fun x y => ltB x y = true) : risingK ks = true := by
  induction ks with
  | nil => rfl
  | cons x r ih =>
    rw [List.pairwise_cons] at h
    rw [risingK, Bool.and_eq_true]
    refine ⟨?_, ih h.2⟩
    cases r with
    | nil => rfl
    | cons z r => exact h.1 z (by simp)

theorem rising_iff {ks : List ByteArray} : risingK ks = true ↔ ∀ (i j : Nat) (x y : ByteArray), i < j → ks[i]? = some x → ks[j]? = some y → ltB x y = true := by
  constructor
  · intro h i j x y hij hx hy
    have hp := rising_pair h
    rw [List.pairwise_iff_getElem] at hp
    obtain ⟨h1, e1⟩ := List.getElem?_eq_some_iff.1 hx
    obtain ⟨h2, e2⟩ := List.getElem?_eq_some_iff.1 hy
    rw [← e1, ← e2]
    exact hp i j h1 h2 hij
  · intro h
    apply rising_of
    rw [List.pairwise_iff_getElem]
    intro i j h1 h2 hij
    exact h i j _ _ hij (List.getElem?_eq_getElem h1) (List.getElem?_eq_getElem h2)

/-- Neighbour by neighbour, as a loop asks. -/
theorem rising_next {ks : List ByteArray} : risingK ks = true ↔ ∀ (i : Nat) (x y : ByteArray), ks[i]? = some x → ks[i + 1]? = some y → ltB x y = true := by
  constructor
  · intro h i x y hx hy
    exact rising_iff.1 h i (i + 1) x y (by omega) hx hy
  · intro h
    induction ks with
    | nil => rfl
    | cons x r ih =>
      rw [risingK, Bool.and_eq_true]
      refine ⟨?_, ih fun i a b ha hb => h (i + 1) a b (by simpa using ha) (by simpa using hb)⟩
      cases r with
      | nil => rfl
      | cons z r => exact h 0 x z rfl rfl

/-! Which nodes may stand, which may be -/

def keyOk (k : ByteArray) : Bool := decide (1 ≤ k.size) && decide (k.size ≤ 32)
def valOk (v : ByteArray) : Bool := decide (v.size ≤ 200)
def kidOk (c : Int) : Bool := decide (10 ≤ c) && decide (c ≤ 2047)
def shapeN (l : Bool) (k v c : Nat) : Bool := if l = true then decide (v = k) && decide (c = 0) else decide (v = 0) && decide (1 ≤ k) && decide (c = k + 1)

def standsN (l : Bool) (ks vs : List ByteArray) (cs : List Int) : Bool :=
  decide (ks.length ≤ 9) && ks.all keyOk && risingK ks && vs.all valOk && cs.all kidOk && shapeN l ks.length vs.length cs.length

def rightN (l : Bool) (ks vs : List ByteArray) (cs : List Int) (root : Bool) : Bool := standsN l ks vs cs && decide (ks.length ≤ 8) && (root || decide (4 ≤ ks.length))

theorem standsN_iff {l : Bool} {ks vs : List ByteArray} {cs : List Int} : standsN l ks vs cs = true ↔
    ks.length ≤ 9 ∧ (∀ k ∈ ks, 1 ≤ k.size ∧ k.size ≤ 32) ∧ risingK ks = true ∧ (∀ v ∈ vs, v.size ≤ 200) ∧ (∀ c ∈ cs, 10 ≤ c ∧ c ≤ 2047) ∧ shapeN l ks.length vs.length cs.length = true := by
  unfold standsN keyOk valOk kidOk
  simp only [Bool.and_eq_true, List.all_eq_true, decide_eq_true_eq]
  constructor
  · rintro ⟨⟨⟨⟨⟨h1, h2⟩, h3⟩, h4⟩, h5⟩, h6⟩; exact ⟨h1, h2, h3, h4, h5, h6⟩
  · rintro ⟨h1, h2, h3, h4, h5, h6⟩; exact ⟨⟨⟨⟨⟨h1, h2⟩, h3⟩, h4⟩, h5⟩, h6⟩

theorem shape_leaf {k v c : Nat} : shapeN true k v c = true ↔ v = k ∧ c = 0 := by unfold shapeN; simp
theorem shape_inner {k v c : Nat} : shapeN false k v c = true ↔ v = 0 ∧ 1 ≤ k ∧ c = k + 1 := by unfold shapeN; simp [and_assoc]

theorem rightN_iff {l : Bool} {ks vs : List ByteArray} {cs : List Int} {root : Bool} : rightN l ks vs cs root = true ↔ standsN l ks vs cs = true ∧ ks.length ≤ 8 ∧ (root = true ∨ 4 ≤ ks.length) := by
  unfold rightN
  simp only [Bool.and_eq_true, Bool.or_eq_true, decide_eq_true_eq, and_assoc]

/-! A node's bytes -/

def leafP : List ByteArray → List ByteArray → List ByteArray
  | k :: ks, v :: vs => textS k :: textS v :: leafP ks vs
  | _, _ => []

def innP : List ByteArray → List Int → List ByteArray
  | k :: ks, c :: cs => putS c 2 :: textS k :: innP ks cs
  | _, _ => []

theorem leafP_snoc {ks vs : List ByteArray} (h : ks.length = vs.length) (k v : ByteArray) : leafP (ks ++ [k]) (vs ++ [v]) = leafP ks vs ++ [textS k, textS v] := by
  induction ks generalizing vs with
  | nil =>
    cases vs with
    | nil => rfl
    | cons y vs => simp at h
  | cons x ks ih =>
    cases vs with
    | nil => simp at h
    | cons y vs =>
      simp only [List.cons_append, leafP]
      rw [ih (by simpa using h)]

theorem innP_snoc {ks : List ByteArray} {cs : List Int} (h : ks.length = cs.length) (k : ByteArray) (c : Int) : innP (ks ++ [k]) (cs ++ [c]) = innP ks cs ++ [putS c 2, textS k] := by
  induction ks generalizing cs with
  | nil =>
    cases cs with
    | nil => rfl
    | cons y cs => simp at h
  | cons x ks ih =>
    cases cs with
    | nil => simp at h
    | cons y cs =>
      simp only [List.cons_append, innP]
      rw [ih (by simpa using h)]

theorem innP_more (ks : List ByteArray) (cs ds : List Int) (h : ks.length ≤ cs.length) : innP ks (cs ++ ds) = innP ks cs := by
  induction ks generalizing cs with
  | nil => cases cs <;> cases ds <;> rfl
  | cons x ks ih =>
    cases cs with
    | nil => simp at h
    | cons c cs =>
      simp only [List.cons_append, innP]
      rw [ih cs (by simpa using h)]

def nodeP (l : Bool) (ks vs : List ByteArray) (cs : List Int) : List ByteArray := putS ks.length 1 :: (if l = true then leafP ks vs else innP ks cs ++ [putS (cs.getD ks.length 0) 2])
def nodeS (l : Bool) (ks vs : List ByteArray) (cs : List Int) : ByteArray := cat (nodeP l ks vs cs)

theorem cat_three (xs : List ByteArray) (y : ByteArray) (zs : List ByteArray) : cat (xs ++ y :: zs) = cat [cat xs, y, cat zs] := by
  rw [show xs ++ y :: zs = xs ++ ([y] ++ zs) by simp, cat_append, cat_append, cat_one]
  rw [show [cat xs, y, cat zs] = [cat xs] ++ ([y] ++ [cat zs]) by rfl, cat_append, cat_append, cat_one, cat_one, cat_one]

theorem cut_at {s a t c : ByteArray} {p : Int} (hs : s = cat [a, textS t, c]) (ht : t.size ≤ 65535) (hp : p = a.size) : cutE s p = 0 ∧ cutS s p = t ∧ cutT s p = ((a ++ textS t).size : Nat) := by
  subst hs hp
  have h := mid_cut a t c ht
  refine ⟨h.1, h.2.1, ?_⟩
  rw [h.2.2, ByteArray.size_append, textS_size ht]
  omega

theorem get_at {s a c : ByteArray} {n p : Int} {k : Nat} (hs : s = cat [a, putS n k, c]) (hok : putOk n k = true) (hp : p = a.size) : getE s p k = 0 ∧ getR s p k = n ∧ getT s p k = ((a ++ putS n k).size : Nat) := by
  subst hs hp
  have h := mid_get a c n k hok
  refine ⟨h.1, h.2.1, ?_⟩
  rw [h.2.2, ByteArray.size_append]
  have := putS_size hok
  omega

end Go.Proofs.Ytnipikdlfmcheaa.Plain
