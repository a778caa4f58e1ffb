/-
  Plain facts: how long to wait, and when that is over. Nothing of any program.
-/
import Derived.Test.YtnipikdlfmcheaaPlainB
namespace Go.Proofs.Ytnipikdlfmcheaa.Plain
open Go.RowKit

/-! How long -/

def aftK (w : Int) (k : Nat) : Int := min (w * 2 ^ k) 1048576

theorem aftK_zero (w : Int) : aftK w 0 = min w 1048576 := by simp [aftK]

theorem aftK_succ (w : Int) (k : Nat) : aftK w (k + 1) = min (2 * aftK w k) 1048576 := by
  unfold aftK
  rw [Int.pow_succ, ← Int.mul_assoc]
  generalize w * 2 ^ k = x
  omega

theorem aftK_le (w : Int) (k : Nat) : aftK w k ≤ 1048576 := by unfold aftK; omega

theorem aftK_pos {w : Int} (h : 1 ≤ w) (k : Nat) : 1 ≤ aftK w k := by
  induction k with
  | zero => rw [aftK_zero]; omega
  | succ k ih => rw [aftK_succ]; omega

theorem aftK_stuck {w : Int} {j k : Nat} (h : aftK w j = 1048576) (hk : j ≤ k) : aftK w k = 1048576 := by
  obtain ⟨d, rfl⟩ : ∃ d, k = j + d := ⟨k - j, by omega⟩
  clear hk
  induction d with
  | zero => exact h
  | succ d ih => rw [← Nat.add_assoc, aftK_succ, ih]; omega

theorem aftK_far {w : Int} (h : 1 ≤ w) {k : Nat} (hk : 20 ≤ k) : aftK w k = 1048576 := by
  refine aftK_stuck (j := 20) ?_ hk
  have e : aftK w 20 = min (w * 1048576) 1048576 := rfl
  omega

theorem aftK_big {w : Int} (h : 1048576 ≤ w) (k : Nat) : aftK w k = 1048576 := by
  refine aftK_stuck (j := 0) ?_ (Nat.zero_le _)
  rw [aftK_zero]; omega

theorem aftK_mono {w v : Int} (h : w ≤ v) (k : Nat) : aftK w k ≤ aftK v k := by
  induction k with
  | zero => rw [aftK_zero, aftK_zero]; omega
  | succ k ih => rw [aftK_succ, aftK_succ]; omega

/-- The document's own steps: doubled as it is, nothing wraps. -/
theorem pow_small (k : Nat) (hk : k ≤ 39) : (1 : Int) ≤ 2 ^ k ∧ (2 : Int) ^ k ≤ 549755813888 := by
  have e : (2 : Int) ^ 39 = 549755813888 := rfl
  have h2 : (0 : Int) < 2 := by omega
  refine ⟨Int.pow_pos h2, ?_⟩
  rw [← e]
  obtain ⟨d, hd⟩ : ∃ d, 39 = k + d := ⟨39 - k, by omega⟩
  rw [hd, Int.pow_add]
  have h1 : (0 : Int) < 2 ^ k := Int.pow_pos h2
  have h3 : (0 : Int) < 2 ^ d := Int.pow_pos h2
  calc (2 : Int) ^ k = 2 ^ k * 1 := by rw [Int.mul_one]
    _ ≤ 2 ^ k * 2 ^ d := Int.mul_le_mul_of_nonneg_left (by omega) (by omega)

theorem dbl_small {w : Int} (h1 : 1 ≤ w) (h2 : w < 1048576) {k : Nat} (hk : k ≤ 39) : 1 ≤ w * 2 ^ k ∧ w * 2 ^ k ≤ 576460752303423488 := by
  obtain ⟨a, b⟩ := pow_small k hk
  generalize (2 : Int) ^ k = p at *
  constructor
  · have := Int.mul_le_mul h1 a (by omega) (by omega)
    omega
  · have := Int.mul_le_mul (show w ≤ 1048576 by omega) b (by omega) (by omega)
    omega

def afterF (w n : Int) : Int := if w < 1 ∨ n < 1 then 0 else aftK w (n - 1).toNat

theorem afterF_none {w n : Int} (h : w < 1 ∨ n < 1) : afterF w n = 0 := if_pos h
theorem afterF_some {w n : Int} (h : 1 ≤ w) (h' : 1 ≤ n) : afterF w n = aftK w (n - 1).toNat := if_neg (by omega)

theorem afterF_nn (w n : Int) : 0 ≤ afterF w n ∧ afterF w n ≤ 1048576 := by
  unfold afterF
  split
  · omega
  · rename_i h
    have := aftK_pos (w := w) (by omega) (n - 1).toNat
    have := aftK_le w (n - 1).toNat
    omega

def allN (w : Int) : Nat → Int
  | 0 => 0
  | k + 1 => allN w k + afterF w ((k : Int) + 1)

theorem allN_bound (w : Int) (k : Nat) : 0 ≤ allN w k ∧ allN w k ≤ 1048576 * k := by
  induction k with
  | zero => exact ⟨Int.le_refl _, Int.le_refl _⟩
  | succ k ih =>
    have := afterF_nn w ((k : Int) + 1)
    rw [allN]
    omega

def allF (w n : Int) : Int := allN w (min n 8 - 1).toNat

/-! When it is over -/

def sumP : List Int → Int
  | [] => 0
  | x :: xs => max x 0 + sumP xs

theorem sumP_append (a b : List Int) : sumP (a ++ b) = sumP a + sumP b := by
  induction a with
  | nil => simp [sumP]
  | cons x a ih => simp [sumP, ih]; omega

theorem sumP_nn (l : List Int) : 0 ≤ sumP l := by
  induction l with
  | nil => simp [sumP]
  | cons x l ih => rw [sumP]; omega

theorem sumP_take_le (l : List Int) (k : Nat) : sumP (l.take k) ≤ sumP l := by
  have e : sumP l = sumP (l.take k) + sumP (l.drop k) := by rw [← sumP_append, List.take_append_drop]
  have := sumP_nn (l.drop k)
  omega

theorem sumP_at {l : List Int} {j : Nat} {x : Int} (h : l[j]? = some x) : max x 0 ≤ sumP l := by
  induction l generalizing j with
  | nil => simp at h
  | cons y l ih =>
    rw [sumP]
    cases j with
    | zero => simp at h; subst h; have := sumP_nn l; omega
    | succ j => rw [List.getElem?_cons_succ] at h; have := ih h; omega

def untF (now : Int) (ps : List Int) : Int := min (max now 0 + sumP ps) 1099511627776

theorem untF_nil (now : Int) : untF now [] = min (max now 0) 1099511627776 := by simp [untF, sumP]

theorem untF_bound (now : Int) (ps : List Int) : 0 ≤ untF now ps ∧ untF now ps ≤ 1099511627776 := by
  have := sumP_nn ps
  unfold untF
  omega

theorem sumP_take {ps : List Int} {j : Nat} {x : Int} (h : ps[j]? = some x) : sumP (ps.take (j + 1)) = sumP (ps.take j) + max x 0 := by
  rw [List.take_add_one, h, sumP_append]
  simp [sumP]

theorem untF_take {ps : List Int} {j : Nat} {x : Int} (now : Int) (h : ps[j]? = some x) :
    untF now (ps.take (j + 1)) = min (max (untF now (ps.take j) + min (max x 0) 1099511627776) 0) 1099511627776 := by
  unfold untF
  rw [sumP_take h]
  have := sumP_nn (ps.take j)
  omega

theorem untF_turned (now : Int) (ps : List Int) (k : Nat) : untF now (ps.drop k ++ ps.take k) = untF now ps := by
  unfold untF
  rw [sumP_append, Int.add_comm (sumP (ps.drop k)), ← sumP_append, List.take_append_drop]

theorem untF_parts (now : Int) (ps : List Int) (k : Nat) : untF (untF now (ps.take k)) (ps.drop k) = untF now ps := by
  have e : sumP ps = sumP (ps.take k) + sumP (ps.drop k) := by rw [← sumP_append, List.take_append_drop]
  have := sumP_nn (ps.take k)
  have := sumP_nn (ps.drop k)
  unfold untF
  rw [e]
  omega

theorem untF_now (now : Int) (ps : List Int) : min (max now 0) 1099511627776 ≤ untF now ps := by
  have := sumP_nn ps
  unfold untF
  omega

theorem untF_part (now : Int) {ps : List Int} {j : Nat} {x : Int} (h : ps[j]? = some x) : min x 1099511627776 ≤ untF now ps := by
  have := sumP_at h
  unfold untF
  omega

end Go.Proofs.Ytnipikdlfmcheaa.Plain
