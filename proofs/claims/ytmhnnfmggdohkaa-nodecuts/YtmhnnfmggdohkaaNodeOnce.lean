/-
  Plain facts: what is read of bytes as a node, put, is the bytes; how long a node's bytes are. Nothing of any program.
-/
import Derived.Test.YtmhnnfmggdohkaaNodeRead
namespace Go.Proofs.Ytmhnnfmggdohkaa.Plain
open Go.RowKit
set_option linter.unusedVariables false

theorem get_num {s : ByteArray} {p k : Nat} (h : getE s p k = 0) : getR s p k = getV s p k ∧ getT s p k = ((p + k : Nat) : Int) ∧ p + k ≤ s.size ∧ 1 ≤ k ∧ k ≤ 6 := by
  obtain ⟨h1, h2, h3, h4⟩ := getE_ok h
  refine ⟨?_, ?_, by omega, by omega, by omega⟩
  · unfold getR; rw [if_pos h]; simp
  · unfold getT; rw [if_pos h]; omega

theorem head_bytes {s : ByteArray} {n : Nat} (h : getE s 0 1 = 0) (hn : getR s 0 1 = n) : putS (n : Int) 1 = s.extract 0 1 := by
  have h' : getE s ((0 : Nat) : Int) ((1 : Nat) : Int) = 0 := h
  obtain ⟨a, _, b, _, _⟩ := get_num h'
  have := (got_put (s := s) (p := 0) (k := 1) (by omega) (by omega) (by omega)).2
  rw [← a] at this
  rw [← hn]
  exact this

theorem leafSt_bytes {s : ByteArray} (h0 : 1 ≤ s.size) {j : Nat} {p : Int} {ks vs : List ByteArray} (h : leafSt s j = .inr (p, ks, vs)) : ∃ q : Nat, p = q ∧ 1 ≤ q ∧ q ≤ s.size ∧ cat (leafP ks vs) = s.extract 1 q := by
  induction j generalizing p ks vs with
  | zero =>
    cases h
    refine ⟨1, rfl, Nat.le_refl _, h0, ?_⟩
    apply bytes_ext
    rw [extract_data']
    simp [leafP, cat]
  | succ j ih =>
    rw [leafSt] at h
    split at h
    · cases h
    · rename_i p0 xs ys hj
      obtain ⟨q, rfl, hq1, hq2, hq⟩ := ih hj
      obtain ⟨hl1, hl2⟩ := leafSt_length hj
      split at h
      · rename_i c1
        split at h
        · rename_i c2
          cases h
          obtain ⟨q1, e1, a1, a2, _, _, a3⟩ := cut_text c1
          rw [e1] at c2 ⊢
          obtain ⟨q2, e2, b1, b2, _, _, b3⟩ := cut_text c2
          refine ⟨q2, e2, by omega, b2, ?_⟩
          rw [leafP_snoc (by omega), (cat_two_more _ _ _ []).2.2, hq, a3, b3, extract_join _ _ _ _ (by omega) (by omega), extract_join _ _ _ _ (by omega) (by omega)]
        · cases h
      · cases h

theorem innSt_bytes {s : ByteArray} (h0 : 1 ≤ s.size) {j : Nat} {p : Int} {ks : List ByteArray} {cs : List Int} (h : innSt s j = .inr (p, ks, cs)) : ∃ q : Nat, p = q ∧ 1 ≤ q ∧ q ≤ s.size ∧ cat (innP ks cs) = s.extract 1 q := by
  induction j generalizing p ks cs with
  | zero =>
    cases h
    refine ⟨1, rfl, Nat.le_refl _, h0, ?_⟩
    apply bytes_ext
    rw [extract_data']
    simp [innP, cat]
  | succ j ih =>
    rw [innSt] at h
    split at h
    · cases h
    · rename_i p0 xs ys hj
      obtain ⟨q, rfl, hq1, hq2, hq⟩ := ih hj
      obtain ⟨hl1, hl2⟩ := innSt_length hj
      split at h
      · rename_i c1
        split at h
        · rename_i c2
          cases h
          have c1' : getE s (q : Int) ((2 : Nat) : Int) = 0 := c1
          obtain ⟨r1, t1, t2, _, _⟩ := get_num c1'
          have r1' : getR s (q : Int) 2 = getV s q 2 := r1
          have t1' : getT s (q : Int) 2 = ((q + 2 : Nat) : Int) := t1
          have g3 := (got_put (s := s) (p := q) (k := 2) (by omega) (by omega) t2).2
          rw [t1'] at c2 ⊢
          obtain ⟨q2, e2, b1, b2, _, _, b3⟩ := cut_text c2
          refine ⟨q2, e2, by omega, b2, ?_⟩
          rw [innP_snoc (by omega), (cat_two_more _ _ _ []).2.2, hq, r1', b3]
          have g3' : putS (getV s q 2) 2 = s.extract q (q + 2) := g3
          rw [g3', extract_join _ _ _ _ (by omega) (by omega), extract_join _ _ _ _ (by omega) (by omega)]
        · cases h
      · cases h

theorem empty_short {s : ByteArray} (h : getE s 0 1 = 0) : 1 ≤ s.size := by
  have h' : getE s ((0 : Nat) : Int) ((1 : Nat) : Int) = 0 := h
  have := (get_num h').2.2.1
  omega

theorem getR_nat {s : ByteArray} (h : getE s 0 1 = 0) : getR s 0 1 = (((getR s 0 1).toNat : Nat) : Int) := by
  have h' : getE s ((0 : Nat) : Int) ((1 : Nat) : Int) = 0 := h
  have a := (get_num h').1
  have b := getV_bd s 0 1
  have a' : getR s 0 1 = getV s 0 1 := a
  omega

/-- WHAT IS READ, PUT, IS THE BYTES: a leaf. -/
theorem leaf_once {s : ByteArray} {x : Bool × List ByteArray × List ByteArray × List Int} (h : leafR s = .inr x) : x.1 = true ∧ rightN x.1 x.2.1 x.2.2.1 x.2.2.2 true = true ∧ nodeS x.1 x.2.1 x.2.2.1 x.2.2.2 = s := by
  unfold leafR at h
  split at h
  · rename_i h0
    split at h
    · cases h
    · rename_i p ks vs hst
      split at h
      · rename_i hp
        cases h
        obtain ⟨q, rfl, hq1, hq2, hq⟩ := leafSt_bytes (empty_short h0) hst
        obtain ⟨hl1, hl2⟩ := leafSt_length hst
        refine ⟨rfl, hp.2, ?_⟩
        have hqs : q = s.size := by have := hp.1; omega
        show cat (putS (ks.length : Int) 1 :: leafP ks vs) = s
        rw [show putS (ks.length : Int) 1 :: leafP ks vs = [putS (ks.length : Int) 1] ++ leafP ks vs by rfl, cat_append, cat_one, hq, hqs, head_bytes h0 (by rw [hl1]; exact getR_nat h0), extract_join _ _ _ _ (by omega) (by omega), extract_all]
      · cases h
  · cases h

/-- An inner one. -/
theorem inn_once {s : ByteArray} {x : Bool × List ByteArray × List ByteArray × List Int} (h : innR s = .inr x) : x.1 = false ∧ rightN x.1 x.2.1 x.2.2.1 x.2.2.2 true = true ∧ nodeS x.1 x.2.1 x.2.2.1 x.2.2.2 = s := by
  unfold innR at h
  split at h
  · rename_i h0
    split at h
    · cases h
    · rename_i p ks cs hst
      split at h
      · rename_i hg
        split at h
        · rename_i hp
          cases h
          obtain ⟨q, rfl, hq1, hq2, hq⟩ := innSt_bytes (empty_short h0) hst
          obtain ⟨hl1, hl2⟩ := innSt_length hst
          have hg' : getE s (q : Int) ((2 : Nat) : Int) = 0 := hg
          obtain ⟨r1, t1, t2, _, _⟩ := get_num hg'
          have r1' : getR s (q : Int) 2 = getV s q 2 := r1
          have t1' : getT s (q : Int) 2 = ((q + 2 : Nat) : Int) := t1
          have g3 : putS (getV s q 2) 2 = s.extract q (q + 2) := (got_put (s := s) (p := q) (k := 2) (by omega) (by omega) t2).2
          refine ⟨rfl, hp.2, ?_⟩
          have hqs : q + 2 = s.size := by have := hp.1; rw [t1'] at this; omega
          have hgd : (cs ++ [getR s (q : Int) 2]).getD ks.length 0 = getR s (q : Int) 2 := by
            rw [List.getD_eq_getElem?_getD, List.getElem?_append_right (by omega), show ks.length - cs.length = 0 by omega]; rfl
          have hin : innP ks (cs ++ [getR s (q : Int) 2]) = innP ks cs := innP_more ks cs _ (by omega)
          show cat (putS (ks.length : Int) 1 :: (innP ks (cs ++ [getR s (q : Int) 2]) ++ [putS ((cs ++ [getR s (q : Int) 2]).getD ks.length 0) 2])) = s
          rw [hgd, hin, r1', show putS (ks.length : Int) 1 :: (innP ks cs ++ [putS (getV s q 2) 2]) = [putS (ks.length : Int) 1] ++ (innP ks cs ++ [putS (getV s q 2) 2]) by rfl, cat_append, cat_append, cat_one, cat_one, hq, g3, hqs, extract_join _ _ _ _ (by omega) (by omega), head_bytes h0 (by rw [hl1]; exact getR_nat h0), extract_join _ _ _ _ (by omega) (by omega), extract_all]
        · cases h
      · cases h
  · cases h

/-- WHAT IS PUT IS READ AGAIN; WHAT IS READ, PUT, IS THE BYTES. -/
theorem node_back {l : Bool} {ks vs : List ByteArray} {cs : List Int} (h : rightN l ks vs cs true = true) : nodeR (if l = true then 1 else 2) (nodeS l ks vs cs) = .inr (l, ks, vs, cs) := by
  obtain ⟨hst, _, _⟩ := rightN_iff.1 h
  obtain ⟨_, _, _, _, _, hs⟩ := standsN_iff.1 hst
  cases l with
  | true =>
    obtain rfl : cs = [] := List.length_eq_zero_iff.1 (shape_leaf.1 hs).2
    have e : nodeR 1 (nodeS true ks vs []) = leafR (nodeS true ks vs []) := by unfold nodeR; rw [if_pos rfl]
    rw [if_pos rfl, e]
    exact leaf_back h
  | false =>
    obtain rfl : vs = [] := List.length_eq_zero_iff.1 (shape_inner.1 hs).1
    have e : nodeR 2 (nodeS false ks [] cs) = innR (nodeS false ks [] cs) := by unfold nodeR; rw [if_neg (by decide), if_pos rfl]
    rw [if_neg (by decide), e]
    exact inn_back h

theorem node_once {kind : Int} {s : ByteArray} {x : Bool × List ByteArray × List ByteArray × List Int} (h : nodeR kind s = .inr x) : rightN x.1 x.2.1 x.2.2.1 x.2.2.2 true = true ∧ nodeS x.1 x.2.1 x.2.2.1 x.2.2.2 = s ∧ (kind = 1 ∨ kind = 2) ∧ (x.1 = true ↔ kind = 1) := by
  unfold nodeR at h
  split at h
  · rename_i hk
    obtain ⟨h1, h2, h3⟩ := leaf_once h
    exact ⟨h2, h3, .inl hk, by rw [h1]; simp [hk]⟩
  · split at h
    · rename_i hk hk2
      obtain ⟨h1, h2, h3⟩ := inn_once h
      exact ⟨h2, h3, .inr hk2, by rw [h1]; simp [hk]⟩
    · cases h

/-! How long the bytes are -/

theorem leafP_size {ks vs : List ByteArray} (hk : ∀ k ∈ ks, k.size ≤ 32) (hv : ∀ v ∈ vs, v.size ≤ 200) : (cat (leafP ks vs)).size ≤ 236 * ks.length := by
  induction ks generalizing vs with
  | nil => cases vs <;> simp [leafP, cat_size]
  | cons k ks ih =>
    cases vs with
    | nil => simp [leafP, cat_size]
    | cons v vs =>
      have h1 := hk k (by simp)
      have h2 := hv v (by simp)
      have h3 := ih (fun x hx => hk x (by simp [hx])) (vs := vs) (fun x hx => hv x (by simp [hx]))
      rw [leafP, cat_size]
      rw [cat_size] at h3
      simp only [List.map_cons, List.sum_cons, List.length_cons]
      rw [textS_size (by omega), textS_size (by omega)]
      omega

theorem innP_size {ks : List ByteArray} {cs : List Int} (hk : ∀ k ∈ ks, k.size ≤ 32) (hc : ∀ c ∈ cs, putOk c 2 = true) : (cat (innP ks cs)).size ≤ 36 * ks.length := by
  induction ks generalizing cs with
  | nil => cases cs <;> simp [innP, cat_size]
  | cons k ks ih =>
    cases cs with
    | nil => simp [innP, cat_size]
    | cons c cs =>
      have h1 := hk k (by simp)
      have h2 := putS_size (hc c (by simp))
      have h3 := ih (fun x hx => hk x (by simp [hx])) (cs := cs) (fun x hx => hc x (by simp [hx]))
      rw [innP, cat_size]
      rw [cat_size] at h3
      simp only [List.map_cons, List.sum_cons, List.length_cons]
      rw [textS_size (by omega)]
      omega

theorem node_size {l : Bool} {ks vs : List ByteArray} {cs : List Int} (h : rightN l ks vs cs true = true) : (nodeS l ks vs cs).size ≤ 4000 := by
  obtain ⟨hst, h8, _⟩ := rightN_iff.1 h
  obtain ⟨_, hk, _, hv, hc, hs⟩ := standsN_iff.1 hst
  have hone := putS_size (one_ok (n := ks.length) (by omega))
  have bc : ∀ c ∈ cs, putOk c 2 = true := fun c hm => two_ok (by have := (hc c hm).1; omega) (by have := (hc c hm).2; omega)
  cases l with
  | true =>
    have h1 := leafP_size (fun k hm => (hk k hm).2) hv
    show (cat (putS (ks.length : Int) 1 :: leafP ks vs)).size ≤ 4000
    rw [show putS (ks.length : Int) 1 :: leafP ks vs = [putS (ks.length : Int) 1] ++ leafP ks vs by rfl, cat_append, cat_one, ByteArray.size_append]
    omega
  | false =>
    obtain ⟨_, _, hlen⟩ := shape_inner.1 hs
    have h1 := innP_size (fun k hm => (hk k hm).2) bc
    obtain ⟨z, hz⟩ : ∃ z, cs[ks.length]? = some z := ⟨_, List.getElem?_eq_getElem (by omega)⟩
    have hgz : cs.getD ks.length 0 = z := by rw [List.getD_eq_getElem?_getD, hz]; rfl
    have h2 := putS_size (bc z (List.mem_of_getElem? hz))
    show (cat (putS (ks.length : Int) 1 :: (innP ks cs ++ [putS (cs.getD ks.length 0) 2]))).size ≤ 4000
    rw [hgz, show putS (ks.length : Int) 1 :: (innP ks cs ++ [putS z 2]) = [putS (ks.length : Int) 1] ++ (innP ks cs ++ [putS z 2]) by rfl, cat_append, cat_append, cat_one, cat_one, ByteArray.size_append, ByteArray.size_append]
    omega

end Go.Proofs.Ytmhnnfmggdohkaa.Plain
