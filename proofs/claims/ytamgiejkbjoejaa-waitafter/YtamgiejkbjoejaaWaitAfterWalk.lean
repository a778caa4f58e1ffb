/-
  The walk of the law WaitAfter: it returns true at all arguments.
-/
import Derived.Test.YtamgiejkbjoejaaWaitRef
namespace Go.Proofs.Ytamgiejkbjoejaa
open Go.RowKit Plain
set_option linter.unusedVariables false

theorem waitAfter_walk (x n : Int) (w : World) (wx : (Lit.int .i64 x).wf = true) (wn : (Lit.int .i64 n).wf = true) :
    Calls Try.prog 3 #[.int .i64 x, .int .i64 n] w fun e w' => e = .returned (.bool true) ∧ Below w.heap.size w w' := by
  have hn : n ≤ 9223372036854775807 := (show -9223372036854775808 ≤ n ∧ n ≤ 9223372036854775807 by simpa [Lit.wf, IntKind.min, IntKind.max, IntKind.signed, IntKind.bits] using wn).2
  clear wx wn
  generalize hA : afterF x n = A
  generalize hB : allF x n = B
  have c1 := fun W => waitAfter_any x n W hn
  have c2 := fun W => refAfter_any x n W hn
  have c3 := fun W => waitAll_any x n W
  have c4 := fun W => refAll_any x n W hn
  rw [hA] at c1 c2
  rw [hB] at c3 c4
  clear hA hB
  go_enter Try.func3, Try.ntmps3
  go_wp2_with (first
    | (go_at_call 8; refine (alive17_any _).mono ?_; rintro e w' ⟨rfl, rfl⟩)
    | (go_at_call 9; refine (c1 _).mono ?_; rintro e w' ⟨rfl, rfl⟩)
    | (go_at_call 10; refine (c2 _).mono ?_; rintro e w' ⟨rfl, rfl⟩)
    | (go_at_call 11; refine (c3 _).mono ?_; rintro e w' ⟨rfl, rfl⟩)
    | (go_at_call 12; refine (c4 _).mono ?_; rintro e w' ⟨rfl, rfl⟩))
  go_ret
  exact ⟨rfl, Below.refl _ _⟩

end Go.Proofs.Ytamgiejkbjoejaa
