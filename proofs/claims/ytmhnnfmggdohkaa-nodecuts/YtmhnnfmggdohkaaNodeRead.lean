/-
  Plain facts: what is read of bytes as a node; what is put is read again, what is read, put, is the bytes. Nothing of any program.
-/
import Derived.Test.YtmhnnfmggdohkaaNodePlain
namespace Go.Proofs.Ytmhnnfmggdohkaa.Plain
open Go.RowKit
set_option linter.unusedVariables false

/-- A leaf's reading behind so many pairs: an error, or where it stands and what it has. -/
def leafSt (s : ByteArray) : Nat → Int ⊕ (Int × List ByteArray × List ByteArray)
  | 0 => .inr (1, [], [])
  | j + 1 => match leafSt s j with
    | .inl e => .inl e
    | .inr (p, ks, vs) => if cutE s p = 0 then (if cutE s (cutT s p) = 0 then .inr (cutT s (cutT s p), ks ++ [cutS s p], vs ++ [cutS s (cutT s p)]) else .inl (cutE s (cutT s p))) else .inl (cutE s p)

/-- An inner one's. -/
def innSt (s : ByteArray) : Nat → Int ⊕ (Int × List ByteArray × List Int)
  | 0 => .inr (1, [], [])
  | j + 1 => match innSt s j with
    | .inl e => .inl e
    | .inr (p, ks, cs) => if getE s p 2 = 0 then (if cutE s (getT s p 2) = 0 then .inr (cutT s (getT s p 2), ks ++ [cutS s (getT s p 2)], cs ++ [getR s p 2]) else .inl (cutE s (getT s p 2))) else .inl (getE s p 2)

/-- What is read of a leaf's bytes, of an inner one's, of any. -/
def leafR (s : ByteArray) : Int ⊕ (Bool × List ByteArray × List ByteArray × List Int) :=
  if getE s 0 1 = 0 then (match leafSt s (getR s 0 1).toNat with
    | .inl e => .inl e
    | .inr (p, ks, vs) => if p = s.size ∧ rightN true ks vs [] true = true then .inr (true, ks, vs, []) else .inl 4) else .inl (getE s 0 1)

def innR (s : ByteArray) : Int ⊕ (Bool × List ByteArray × List ByteArray × List Int) :=
  if getE s 0 1 = 0 then (match innSt s (getR s 0 1).toNat with
    | .inl e => .inl e
    | .inr (p, ks, cs) => if getE s p 2 = 0 then (if getT s p 2 = s.size ∧ rightN false ks [] (cs ++ [getR s p 2]) true = true then .inr (false, ks, [], cs ++ [getR s p 2]) else .inl 4) else .inl (getE s p 2)) else .inl (getE s 0 1)

def nodeR (kind : Int) (s : ByteArray) : Int ⊕ (Bool × List ByteArray × List ByteArray × List Int) := if kind = 1 then leafR s else if kind = 2 then innR s else .inl 81

/-- An error, once there, stays. -/
theorem leafSt_stuck {s : ByteArray} {j : Nat} {e : Int} (h : leafSt s j = .inl e) (d : Nat) : leafSt s (j + d) = .inl e := by
  induction d with
  | zero => exact h
  | succ d ih => rw [← Nat.add_assoc, leafSt, ih]

theorem innSt_stuck {s : ByteArray} {j : Nat} {e : Int} (h : innSt s j = .inl e) (d : Nat) : innSt s (j + d) = .inl e := by
  induction d with
  | zero => exact h
  | succ d ih => rw [← Nat.add_assoc, innSt, ih]

theorem leafSt_length {s : ByteArray} {j : Nat} {p : Int} {ks vs : List ByteArray} (h : leafSt s j = .inr (p, ks, vs)) : ks.length = j ∧ vs.length = j := by
  induction j generalizing p ks vs with
  | zero => cases h; exact ⟨rfl, rfl⟩
  | succ j ih =>
    rw [leafSt] at h
    split at h
    · cases h
    · rename_i q xs ys hj
      split at h
      · split at h
        · cases h
          have := ih hj
          simp; omega
        · cases h
      · cases h

theorem innSt_length {s : ByteArray} {j : Nat} {p : Int} {ks : List ByteArray} {cs : List Int} (h : innSt s j = .inr (p, ks, cs)) : ks.length = j ∧ cs.length = j := by
  induction j generalizing p ks cs with
  | zero => cases h; exact ⟨rfl, rfl⟩
  | succ j ih =>
    rw [innSt] at h
    split at h
    · cases h
    · rename_i q xs ys hj
      split at h
      · split at h
        · cases h
          have := ih hj
          simp; omega
        · cases h
      · cases h

theorem one_ok {n : Nat} (h : n ≤ 255) : putOk n 1 = true := (putOk_iff _ _).2 ⟨by decide, by decide, by omega, by show (n : Int) < 256; omega⟩
theorem two_ok {c : Int} (h0 : 0 ≤ c) (h : c ≤ 65535) : putOk c 2 = true := (putOk_iff _ _).2 ⟨by decide, by decide, by omega, by show c < 65536; omega⟩

theorem drop_at {α : Type} {l : List α} {j : Nat} {x : α} (h : l[j]? = some x) : l.drop j = x :: l.drop (j + 1) := by
  obtain ⟨hj, e⟩ := List.getElem?_eq_some_iff.1 h
  rw [List.drop_eq_getElem_cons hj, e]

theorem take_at' {α : Type} {l : List α} {j : Nat} {x : α} (h : l[j]? = some x) : l.take (j + 1) = l.take j ++ [x] := by
  rw [List.take_add_one, h]; rfl

theorem leafP_split (xs ys : List ByteArray) (i : Nat) (hl : xs.length = ys.length) : leafP xs ys = leafP (xs.take i) (ys.take i) ++ leafP (xs.drop i) (ys.drop i) := by
  induction xs generalizing ys i with
  | nil =>
    cases ys with
    | nil => cases i <;> rfl
    | cons y ys => simp at hl
  | cons x xs ih =>
    cases ys with
    | nil => simp at hl
    | cons y ys =>
      cases i with
      | zero => rfl
      | succ i =>
        simp only [List.take_succ_cons, List.drop_succ_cons, leafP, List.cons_append]
        rw [← ih ys i (by simpa using hl)]

theorem innP_split (xs : List ByteArray) (ys : List Int) (i : Nat) (hl : xs.length ≤ ys.length) : innP xs ys = innP (xs.take i) (ys.take i) ++ innP (xs.drop i) (ys.drop i) := by
  induction xs generalizing ys i with
  | nil => cases i <;> cases ys <;> simp [innP]
  | cons x xs ih =>
    cases ys with
    | nil => simp at hl
    | cons y ys =>
      cases i with
      | zero => simp [innP]
      | succ i =>
        simp only [List.take_succ_cons, List.drop_succ_cons, innP, List.cons_append]
        rw [← ih ys i (by simpa using hl)]

theorem head_size {n : Nat} (h : n ≤ 255) : (cat [putS (n : Int) 1]).size = 1 := by
  rw [cat_one]
  have := putS_size (one_ok h)
  omega

theorem cat_two_more (xs : List ByteArray) (y z : ByteArray) (zs : List ByteArray) : cat (xs ++ y :: z :: zs) = cat [cat xs, y, cat (z :: zs)] ∧ cat (xs ++ y :: z :: zs) = cat [cat xs ++ y, z, cat zs] ∧ cat (xs ++ [y, z]) = cat xs ++ y ++ z := by
  refine ⟨cat_three _ _ _, ?_, ?_⟩
  · have h := cat_three (xs ++ [y]) z zs
    have e : cat (xs ++ [y]) = cat xs ++ y := by rw [cat_append, cat_one]
    rw [e] at h
    rw [← h]; simp
  · rw [show xs ++ [y, z] = xs ++ ([y] ++ [z]) by rfl, cat_append, cat_append, cat_one, cat_one, ByteArray.append_assoc]

/-- WHAT IS PUT IS READ AGAIN: a leaf. -/
theorem leaf_back {ks vs : List ByteArray} (h : rightN true ks vs [] true = true) : leafR (nodeS true ks vs []) = .inr (true, ks, vs, []) := by
  obtain ⟨hst, h8, _⟩ := rightN_iff.1 h
  obtain ⟨_, hk, _, hv, _, hs⟩ := standsN_iff.1 hst
  obtain ⟨hlen, _⟩ := shape_leaf.1 hs
  obtain ⟨s, hS⟩ : ∃ s, s = nodeS true ks vs [] := ⟨_, rfl⟩
  have hcat : s = cat (putS ks.length 1 :: leafP ks vs) := by rw [hS]; rfl
  have h1 := get_at (s := s) (a := cat []) (n := ks.length) (k := 1) (c := cat (leafP ks vs)) (p := 0) (by rw [hcat]; exact cat_three [] _ _) (one_ok (by omega)) rfl
  have key : ∀ j, j ≤ ks.length → leafSt s j = .inr (((cat (putS ks.length 1 :: leafP (ks.take j) (vs.take j))).size : Nat), ks.take j, vs.take j) := by
    intro j
    induction j with
    | zero =>
      intro _
      rw [leafSt]
      simp only [List.take_zero, leafP]
      rw [head_size (by omega)]; rfl
    | succ j ih =>
      intro hj
      have ej := ih (by omega)
      obtain ⟨k, hkj⟩ : ∃ k, ks[j]? = some k := ⟨_, List.getElem?_eq_getElem (by omega)⟩
      obtain ⟨v, hvj⟩ : ∃ v, vs[j]? = some v := ⟨_, List.getElem?_eq_getElem (by omega)⟩
      have bk : k.size ≤ 65535 := by have := (hk _ (List.mem_of_getElem? hkj)).2; omega
      have bv : v.size ≤ 65535 := by have := hv _ (List.mem_of_getElem? hvj); omega
      have tk := take_at' hkj
      have tv := take_at' hvj
      have hll : (ks.take j).length = (vs.take j).length := by rw [List.length_take, List.length_take, hlen]
      obtain ⟨P, hP⟩ : ∃ P, P = putS (ks.length : Int) 1 :: leafP (ks.take j) (vs.take j) := ⟨_, rfl⟩
      have hpart : s = cat (P ++ textS k :: textS v :: leafP (ks.drop (j + 1)) (vs.drop (j + 1))) := by
        rw [hcat, leafP_split ks vs j (by omega), drop_at hkj, drop_at hvj, hP]; rfl
      obtain ⟨e1, e2, e3⟩ := cat_two_more P (textS k) (textS v) (leafP (ks.drop (j + 1)) (vs.drop (j + 1)))
      obtain ⟨c1, c2, c3⟩ := cut_at (hpart.trans e1) bk (p := ((cat P).size : Int)) rfl
      obtain ⟨d1, d2, d3⟩ := cut_at (hpart.trans e2) bv (p := ((cat P ++ textS k).size : Int)) rfl
      have efin : cat P ++ textS k ++ textS v = cat (putS ks.length 1 :: leafP (ks.take (j + 1)) (vs.take (j + 1))) := by
        rw [← e3, tk, tv, leafP_snoc hll, hP]; rfl
      rw [leafSt, ej]
      simp only []
      rw [← hP, if_pos c1, c2, c3, if_pos d1, d2, d3, efin, ← tk, ← tv]
  have hfin := key ks.length (Nat.le_refl _)
  rw [List.take_length, List.take_of_length_le (by omega), ← hcat] at hfin
  rw [← hS]
  unfold leafR
  have e0 : getE s 0 1 = 0 := h1.1
  have e1 : getR s 0 1 = ks.length := h1.2.1
  rw [if_pos e0, e1, Int.toNat_natCast, hfin]
  exact if_pos ⟨rfl, h⟩

/-- An inner one. -/
theorem inn_back {ks : List ByteArray} {cs : List Int} (h : rightN false ks [] cs true = true) : innR (nodeS false ks [] cs) = .inr (false, ks, [], cs) := by
  obtain ⟨hst, h8, _⟩ := rightN_iff.1 h
  obtain ⟨_, hk, _, _, hc, hs⟩ := standsN_iff.1 hst
  obtain ⟨_, hk1, hlen⟩ := shape_inner.1 hs
  obtain ⟨s, hS⟩ : ∃ s, s = nodeS false ks [] cs := ⟨_, rfl⟩
  obtain ⟨z, hz⟩ : ∃ z, cs[ks.length]? = some z := ⟨_, List.getElem?_eq_getElem (by omega)⟩
  have hgz : cs.getD ks.length 0 = z := by rw [List.getD_eq_getElem?_getD, hz]; rfl
  have hcat : s = cat (putS ks.length 1 :: (innP ks cs ++ [putS z 2])) := by rw [hS]; unfold nodeS nodeP; rw [hgz]; rfl
  have bc : ∀ c ∈ cs, putOk c 2 = true := fun c hm => two_ok (by have := (hc c hm).1; omega) (by have := (hc c hm).2; omega)
  have h1 := get_at (s := s) (a := cat []) (n := ks.length) (k := 1) (c := cat (innP ks cs ++ [putS z 2])) (p := 0) (by rw [hcat]; exact cat_three [] _ _) (one_ok (by omega)) rfl
  have key : ∀ j, j ≤ ks.length → innSt s j = .inr (((cat (putS ks.length 1 :: innP (ks.take j) (cs.take j))).size : Nat), ks.take j, cs.take j) := by
    intro j
    induction j with
    | zero =>
      intro _
      rw [innSt]
      simp only [List.take_zero, innP]
      rw [head_size (by omega)]; rfl
    | succ j ih =>
      intro hj
      have ej := ih (by omega)
      obtain ⟨k, hkj⟩ : ∃ k, ks[j]? = some k := ⟨_, List.getElem?_eq_getElem (by omega)⟩
      obtain ⟨c, hcj⟩ : ∃ v, cs[j]? = some v := ⟨_, List.getElem?_eq_getElem (by omega)⟩
      have bk : k.size ≤ 65535 := by have := (hk _ (List.mem_of_getElem? hkj)).2; omega
      have tk := take_at' hkj
      have tv := take_at' hcj
      have hll : (ks.take j).length = (cs.take j).length := by rw [List.length_take, List.length_take]; omega
      obtain ⟨P, hP⟩ : ∃ P, P = putS (ks.length : Int) 1 :: innP (ks.take j) (cs.take j) := ⟨_, rfl⟩
      have hpart : s = cat (P ++ putS c 2 :: textS k :: (innP (ks.drop (j + 1)) (cs.drop (j + 1)) ++ [putS z 2])) := by
        rw [hcat, innP_split ks cs j (by omega), drop_at hkj, drop_at hcj, hP]
        simp [innP]
      obtain ⟨e1, e2, e3⟩ := cat_two_more P (putS c 2) (textS k) (innP (ks.drop (j + 1)) (cs.drop (j + 1)) ++ [putS z 2])
      obtain ⟨c1, c2, c3⟩ := get_at (k := 2) (hpart.trans e1) (bc c (List.mem_of_getElem? hcj)) (p := ((cat P).size : Int)) rfl
      obtain ⟨d1, d2, d3⟩ := cut_at (hpart.trans e2) bk (p := ((cat P ++ putS c 2).size : Int)) rfl
      have efin : cat P ++ putS c 2 ++ textS k = cat (putS ks.length 1 :: innP (ks.take (j + 1)) (cs.take (j + 1))) := by
        rw [← e3, tk, tv, innP_snoc hll, hP]; rfl
      have c1' : getE s ((cat P).size : Int) 2 = 0 := c1
      have c2' : getR s ((cat P).size : Int) 2 = c := c2
      have c3' : getT s ((cat P).size : Int) 2 = ((cat P ++ putS c 2).size : Nat) := c3
      rw [innSt, ej]
      simp only []
      rw [← hP, if_pos c1', c2', c3', if_pos d1, d2, d3, efin, ← tk, ← tv]
  have hfin := key ks.length (Nat.le_refl _)
  rw [List.take_length] at hfin
  have hct : cs = cs.take ks.length ++ [z] := by
    have := take_at' hz
    rw [← this, List.take_of_length_le (by omega)]
  have hin : innP ks (cs.take ks.length) = innP ks cs := by
    conv => rhs; rw [hct]
    exact (innP_more ks _ _ (by rw [List.length_take]; omega)).symm
  rw [hin] at hfin
  obtain ⟨P, hP⟩ : ∃ P, P = putS (ks.length : Int) 1 :: innP ks cs := ⟨_, rfl⟩
  have hend : s = cat [cat P, putS z 2, cat []] := by
    rw [hcat, ← cat_three, hP]; rfl
  obtain ⟨f1, f2, f3⟩ := get_at (k := 2) hend (bc z (List.mem_of_getElem? hz)) (p := ((cat P).size : Int)) rfl
  have f1' : getE s ((cat P).size : Int) 2 = 0 := f1
  have f2' : getR s ((cat P).size : Int) 2 = z := f2
  have f3' : getT s ((cat P).size : Int) 2 = (s.size : Nat) := by
    have : getT s ((cat P).size : Int) 2 = ((cat P ++ putS z 2).size : Nat) := f3
    have e2 : cat P ++ putS z 2 = s := by
      rw [hcat, hP, ← cat_one (putS z 2), ← cat_append]
      rw [cat_one]; rfl
    rw [this, e2]
  rw [← hS]
  unfold innR
  have e0 : getE s 0 1 = 0 := h1.1
  have e1 : getR s 0 1 = ks.length := h1.2.1
  rw [if_pos e0, e1, Int.toNat_natCast, hfin]
  show (if getE s ((cat (putS (ks.length : Int) 1 :: innP ks cs)).size : Int) 2 = 0 then _ else _) = _
  rw [← hP, if_pos f1', f2', f3', ← hct]
  exact if_pos ⟨rfl, h⟩

end Go.Proofs.Ytmhnnfmggdohkaa.Plain
