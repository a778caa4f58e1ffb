/-
  The walk of the law WaitRises: it returns true at all arguments.
-/
import Derived.Test.YtamgiejkbjoejaaWaitOwn
namespace Go.Proofs.Ytamgiejkbjoejaa
open Go.RowKit Plain
set_option linter.unusedVariables false

set_option maxRecDepth 20000 in
theorem waitRises_walk (x n : Int) (w : World) (wx : (Lit.int .i64 x).wf = true) (wn : (Lit.int .i64 n).wf = true) :
    Calls Try.prog 5 #[.int .i64 x, .int .i64 n] w fun e w' => e = .returned (.bool true) ∧ Below w.heap.size w w' := by
  clear wx wn
  obtain ⟨x1, hx1⟩ : ∃ x1, x1 = max x 0 := ⟨_, rfl⟩
  obtain ⟨y, hy⟩ : ∃ y, y = min x1 1099511627776 := ⟨_, rfl⟩
  obtain ⟨n1, hn1⟩ : ∃ n1, n1 = max n 1 := ⟨_, rfl⟩
  obtain ⟨m, hm⟩ : ∃ m, m = min n1 1048576 := ⟨_, rfl⟩
  have r1 := max_run hx1.symm
  have r2 := min_run hy.symm
  have r3 := max_run hn1.symm
  have r4 := min_run hm.symm
  have hyb : 0 ≤ y ∧ y ≤ 1099511627776 := by omega
  have hmb : 1 ≤ m ∧ m ≤ 1048576 := by omega
  clear hx1 hy hn1 hm
  obtain ⟨A, hA⟩ : ∃ A, A = afterF y m := ⟨_, rfl⟩
  obtain ⟨B, hB⟩ : ∃ B, B = afterF y (m + 1) := ⟨_, rfl⟩
  obtain ⟨C, hC⟩ : ∃ C, C = afterF (y + 1) m := ⟨_, rfl⟩
  obtain ⟨D, hD⟩ : ∃ D, D = afterF y 1 := ⟨_, rfl⟩
  obtain ⟨E, hE⟩ : ∃ E, E = afterF y 2 := ⟨_, rfl⟩
  have a1 : 0 ≤ A ∧ A ≤ 1048576 := by rw [hA]; exact afterF_nn _ _
  have a2 : 0 ≤ B ∧ B ≤ 1048576 := by rw [hB]; exact afterF_nn _ _
  have a3 : 0 ≤ D ∧ D ≤ 1048576 := by rw [hD]; exact afterF_nn _ _
  have a4 : 0 ≤ E ∧ E ≤ 1048576 := by rw [hE]; exact afterF_nn _ _
  have hAB : A ≤ B ∧ B ≤ 2 * A := by
    rw [hA, hB]
    by_cases h : y < 1
    · rw [afterF_none (.inl h), afterF_none (.inl h)]; omega
    · rw [afterF_some (by omega) (by omega), afterF_some (by omega) (by omega)]
      obtain ⟨k, hk⟩ : ∃ k, k = (m - 1).toNat := ⟨_, rfl⟩
      rw [show (m + 1 - 1).toNat = k + 1 by omega, ← hk, aftK_succ]
      have := aftK_pos (w := y) (by omega) k
      have := aftK_le y k
      omega
  have hAC : A ≤ C := by
    rw [hA, hC]
    by_cases h : y < 1
    · rw [afterF_none (.inl h)]; exact (afterF_nn _ _).1
    · rw [afterF_some (by omega) (by omega), afterF_some (by omega) (by omega)]
      exact aftK_mono (by omega) _
  have e5 : allF y 3 = D + E := by
    rw [hD, hE]
    show 0 + afterF y 1 + afterF y 2 = _
    omega
  have c1 := fun W => waitAfter_any y m W (by omega)
  have c2 := fun W => waitAfter_any y (m + 1) W (by omega)
  have c3 := fun W => waitAfter_any (y + 1) m W (by omega)
  have c4 := fun W => waitAfter_any y 1 W (by omega)
  have c5 := fun W => waitAfter_any y 2 W (by omega)
  have c6 := fun W => waitAll_any y 3 W
  rw [← hA] at c1
  rw [← hB] at c2
  rw [← hC] at c3
  rw [← hD] at c4
  rw [← hE] at c5
  rw [e5] at c6
  clear e5 hA hB hC hD hE
  have t1 := trivial
  have t2 := trivial
  have t3 := trivial
  have t4 := trivial
  go_enter Try.func5, Try.ntmps5
  go_wp2_with (first
    | (go_at_call 8; refine (alive17_any _).mono ?_; rintro e w' ⟨rfl, rfl⟩)
    | (go_at_call 11; refine (c6 _).mono ?_; rintro e w' ⟨rfl, rfl⟩)
    | (have _t := t1; go_at_call 9; refine (c1 _).mono ?_; clear t1 _t; rintro e w' ⟨rfl, rfl⟩)
    | (have _t := t2; go_at_call 9; refine (c2 _).mono ?_; clear t2 _t; rintro e w' ⟨rfl, rfl⟩)
    | (have _t := t3; go_at_call 9; refine (c3 _).mono ?_; clear t3 _t; rintro e w' ⟨rfl, rfl⟩)
    | (have _t := t4; go_at_call 9; refine (c4 _).mono ?_; clear t4 _t; rintro e w' ⟨rfl, rfl⟩)
    | (go_at_call 9; refine (c5 _).mono ?_; rintro e w' ⟨rfl, rfl⟩))
  go_ret
  exact ⟨rfl, Below.refl _ _⟩

end Go.Proofs.Ytamgiejkbjoejaa
