/-
  The walk of the law WaitDoubles: it returns true at all arguments.
-/
import Derived.Test.YtamgiejkbjoejaaWaitOwn
namespace Go.Proofs.Ytamgiejkbjoejaa
open Go.RowKit Plain
set_option linter.unusedVariables false

set_option maxRecDepth 20000 in
theorem waitDoubles_walk (x n : Int) (w : World) (wx : (Lit.int .i64 x).wf = true) (wn : (Lit.int .i64 n).wf = true) :
    Calls Try.prog 7 #[.int .i64 x, .int .i64 n] w fun e w' => e = .returned (.bool true) ∧ Below w.heap.size w w' := by
  clear wx wn
  obtain ⟨x1, hx1⟩ : ∃ x1, x1 = max x 0 := ⟨_, rfl⟩
  obtain ⟨y, hy⟩ : ∃ y, y = min x1 1048576 := ⟨_, rfl⟩
  obtain ⟨n1, hn1⟩ : ∃ n1, n1 = max n 1 := ⟨_, rfl⟩
  obtain ⟨m, hm⟩ : ∃ m, m = min n1 1048576 := ⟨_, rfl⟩
  have r1 := max_run hx1.symm
  have r2 := min_run hy.symm
  have r3 := max_run hn1.symm
  have r4 := min_run hm.symm
  have hyb : 0 ≤ y ∧ y ≤ 1048576 := by omega
  have hmb : 1 ≤ m ∧ m ≤ 1048576 := by omega
  clear hx1 hy hn1 hm
  obtain ⟨A, hA⟩ : ∃ A, A = afterF y m := ⟨_, rfl⟩
  have hAb : 0 ≤ A ∧ A ≤ 1048576 := by rw [hA]; exact afterF_nn y m
  obtain ⟨B, hB⟩ : ∃ B, B = min (2 * A) 1048576 := ⟨_, rfl⟩
  have e1 : afterF y 1 = y := by
    by_cases h : y < 1
    · rw [afterF_none (.inl h)]; omega
    · rw [afterF_some (by omega) (by omega)]; show aftK y 0 = y; rw [aftK_zero]; omega
  have e2 : afterF y (m + 1) = B := by
    by_cases h : y < 1
    · rw [afterF_none (.inl h), hB, hA, afterF_none (.inl h)]; omega
    · rw [afterF_some (by omega) (by omega), hB, hA, afterF_some (by omega) (by omega), ← aftK_succ]
      congr 1
      omega
  have e3 : afterF y 0 = 0 := afterF_none (.inr (by omega))
  have e4 : afterF (-y) m = 0 := afterF_none (.inl (by omega))
  have r5 := min_run hB.symm
  have c1 := fun W => waitAfter_any y 1 W (by omega)
  have c2 := fun W => waitAfter_any y (m + 1) W (by omega)
  have c3 := fun W => waitAfter_any y m W (by omega)
  have c4 := fun W => waitAfter_any y 0 W (by omega)
  have c5 := fun W => waitAfter_any (-y) m W (by omega)
  rw [e1] at c1
  rw [e2] at c2
  rw [← hA] at c3
  rw [e3] at c4
  rw [e4] at c5
  clear e1 e2 e3 e4 hA hB
  have t1 := trivial
  have t2 := trivial
  have t3 := trivial
  have t4 := trivial
  go_enter Try.func7, Try.ntmps7
  go_wp2_with (first
    | (go_at_call 8; refine (alive17_any _).mono ?_; rintro e w' ⟨rfl, rfl⟩)
    | (have _t := t1; go_at_call 9; refine (c1 _).mono ?_; clear t1 _t; rintro e w' ⟨rfl, rfl⟩)
    | (have _t := t2; go_at_call 9; refine (c2 _).mono ?_; clear t2 _t; rintro e w' ⟨rfl, rfl⟩)
    | (have _t := t3; go_at_call 9; refine (c3 _).mono ?_; clear t3 _t; rintro e w' ⟨rfl, rfl⟩)
    | (have _t := t4; go_at_call 9; refine (c4 _).mono ?_; clear t4 _t; rintro e w' ⟨rfl, rfl⟩)
    | (go_at_call 9; refine (c5 _).mono ?_; rintro e w' ⟨rfl, rfl⟩))
  go_ret
  exact ⟨rfl, Below.refl _ _⟩

end Go.Proofs.Ytamgiejkbjoejaa
