/-
  What the document's own Text, Trim and Pad do.
-/
import Derived.Test.YtnipikdlfmcheaaPut
import Derived.Test.YtnipikdlfmcheaaPlainB
namespace Go.Proofs.Ytnipikdlfmcheaa
open Go.RowKit Plain
set_option linter.unusedVariables false

set_option maxHeartbeats 400000 in
theorem refText_any (s : ByteArray) (w : World) (hs : s.size ≤ maxLen) :
    Calls Try.prog 45 #[.string s] w fun e w' => e = .returned (.tuple #[.string (textS s), .int .i64 (textE s)]) ∧ Below w.heap.size w w' := by
  unfold maxLen at hs
  have hB : Below w.heap.size w w := Below.refl _ _
  by_cases h : s.size ≤ 65535
  · have h' : ¬ (65535 : Int) < s.size := by omega
    rw [textS, textE, if_pos h, if_pos h, cat_two]
    have hcv := conv_row w (putL s.size 2) 2 (putL_length _ _) 2
    rw [put_two s.size h] at hcv
    have hsum : ¬ 9223372036854775807 < (putL (s.size : Int) 2).length + s.size := by rw [putL_length]; omega
    go_enter Try.func45, Try.ntmps45
    go_wp2
    go_ret2
    exact ⟨rfl, hB.alloc (Nat.le_refl _) _⟩
  · have h' : (65535 : Int) < s.size := by omega
    rw [textS, textE, if_neg h, if_neg h]
    go_enter Try.func45, Try.ntmps45
    go_wp2
    go_ret2
    exact ⟨rfl, hB⟩


end Go.Proofs.Ytnipikdlfmcheaa
