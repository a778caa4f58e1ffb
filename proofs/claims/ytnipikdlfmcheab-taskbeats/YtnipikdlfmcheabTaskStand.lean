/-
  Package task: which states may stand, and may be with a task.
-/
import Derived.Test.YtnipikdlfmcheabTaskOwn
namespace Go.Proofs.Ytnipikdlfmcheab
open Go.RowKit Plain
set_option linter.unusedVariables false

theorem standL_iff (i t d k : Int) (r : ByteArray) : standT ⟨i, t, d, k, r⟩ = true ↔ ((0 ≤ i ∧ i ≤ 5) ∧ (0 ≤ t ∧ t ≤ 8) ∧ (0 ≤ d ∧ d ≤ 1099511627776) ∧ ((i = 2 → 1 ≤ k) ∧ (i ≠ 2 → k = 0)) ∧ k ≤ 1099511627776 ∧ r.size ≤ 16 ∧ (i ≠ 3 → r = ⟨#[]⟩)) := standT_iff ⟨i, t, d, k, r⟩
theorem restL_iff (tr i t d k : Int) (r : ByteArray) : restT tr ⟨i, t, d, k, r⟩ = true ↔ (t ≤ tr ∧ (i = 0 → t = 0) ∧ (i = 1 → t < tr) ∧ (i = 2 ∨ i = 3 → 1 ≤ t) ∧ (i = 4 → t = tr) ∧ (d = 0 ∨ i = 1 ∨ i = 2)) := restT_iff tr ⟨i, t, d, k, r⟩
theorem bool_false {b : Bool} (h : ¬ b = true) : b = false := by simpa using h
theorem sizeN {k : ByteArray} (h : k = ⟨#[]⟩) : k.size = 0 := by rw [h]; rfl


end Go.Proofs.Ytnipikdlfmcheab
