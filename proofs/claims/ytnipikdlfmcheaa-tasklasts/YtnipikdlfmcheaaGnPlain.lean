/-
  Plain facts: numbers and texts read one behind the other, the first error kept. Nothing of any program.
-/
import Derived.Test.YtnipikdlfmcheaaNodePlain
namespace Go.Proofs.Ytnipikdlfmcheaa.Plain
open Go.RowKit
set_option linter.unusedVariables false

/-! Read -/

def gnR (s : ByteArray) (p e k : Int) : Int := if e = 0 then getR s p k else 0
def gnP (s : ByteArray) (p e k : Int) : Int := if e = 0 then getT s p k else p
def gnE (s : ByteArray) (p e k : Int) : Int := if e = 0 then getE s p k else e

theorem gnE_stuck {s : ByteArray} {p e k : Int} (h : ¬ e = 0) : gnE s p e k = e := if_neg h
theorem gn_ok {s : ByteArray} {p e k : Int} (h : gnE s p e k = 0) : e = 0 ∧ getE s p k = 0 := by
  unfold gnE at h
  split at h
  · rename_i h1; exact ⟨h1, h⟩
  · rename_i h1; exact absurd h h1

theorem getAtK {s : ByteArray} {P R : List ByteArray} {n p : Int} {k : Nat} (hs : s = cat (P ++ putS n k :: R)) (hok : putOk n k = true) (hp : p = ((cat P).size : Nat)) : getE s p k = 0 ∧ getR s p k = n ∧ getT s p k = ((cat (P ++ [putS n k])).size : Nat) := by
  have h := get_at (k := k) (hs.trans (cat_three _ _ _)) hok hp
  rw [cat_append, cat_one]
  exact h

theorem cutAtD {s : ByteArray} {P R : List ByteArray} {t : ByteArray} {p : Int} (hs : s = cat (P ++ textS t :: R)) (ht : t.size ≤ 65535) (hp : p = ((cat P).size : Nat)) : cutE s p = 0 ∧ cutS s p = t ∧ cutT s p = ((cat (P ++ [textS t])).size : Nat) := by
  have h := cut_at (hs.trans (cat_three _ _ _)) ht hp
  rw [cat_append, cat_one]
  exact h

theorem oneOk {n : Int} (h0 : 0 ≤ n) (h : n ≤ 255) : putOk n 1 = true := (putOk_iff _ _).2 ⟨by decide, by decide, h0, by show n < 256; omega⟩
theorem threeOk {n : Int} (h0 : 0 ≤ n) (h : n ≤ 1048576) : putOk n 3 = true := (putOk_iff _ _).2 ⟨by decide, by decide, h0, by show n < 16777216; omega⟩

theorem gn_bytes {s : ByteArray} {q k : Nat} (h1 : 1 ≤ k) (h6 : k ≤ 6) (h : getE s (q : Int) (k : Int) = 0) : getT s q k = ((q + k : Nat) : Int) ∧ q + k ≤ s.size ∧ putS (getR s q k) k = s.extract q (q + k) := by
  obtain ⟨-, -, -, h4⟩ := getE_ok h
  have hs : q + k ≤ s.size := by omega
  refine ⟨?_, hs, ?_⟩
  · rw [getT, if_pos h]; omega
  · have := (got_put (s := s) (p := q) (k := k) h1 h6 hs).2
    have e : getR s q k = getV s q k := by rw [getR, if_pos h]; simp
    rw [e]; exact this

end Go.Proofs.Ytnipikdlfmcheaa.Plain
