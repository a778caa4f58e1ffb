/-
  The walk of the law WaitUntil: it returns true at all arguments.
-/
import Derived.Test.YtamgiejkbjoejaaWaitRef
namespace Go.Proofs.Ytamgiejkbjoejaa
open Go.RowKit Plain
set_option linter.unusedVariables false

set_option maxRecDepth 20000 in
theorem waitUntil_walk (now : Int) (a : Option Addr) (c : Nat) (ps : List Int) (w : World) (wn : (Lit.int .i64 now).wf = true) (hI : IsI w a c ps) :
    Calls Try.prog 4 #[.int .i64 now, .slice a ps.length c] w fun e w' => e = .returned (.bool true) ∧ Below w.heap.size w w' := by
  have hn : now ≤ 9223372036854775807 := (show -9223372036854775808 ≤ now ∧ now ≤ 9223372036854775807 by simpa [Lit.wf, IntKind.min, IntKind.max, IntKind.signed, IntKind.bits] using wn).2
  clear wn
  have hI2 := hI.take 40
  obtain ⟨n, hl⟩ : ∃ n, n = ps.length := ⟨_, rfl⟩
  rw [← hl]
  obtain ⟨k, hk⟩ : ∃ k : Nat, k = min n 40 := ⟨_, rfl⟩
  have hkl : k = (ps.take 40).length := by rw [List.length_take, hk, hl]; omega
  have hmr := min_run (x := (n : Int)) (y := 40) (z := (k : Int)) (by omega)
  have hnc : n ≤ c := by rw [hl]; exact hI.1
  have hcm : c ≤ 9223372036854775807 := hI.2.1
  have hkn : k ≤ n := by omega
  generalize hA : untF now (ps.take 40) = A
  have c1 := fun W (h : IsI W a c (ps.take 40)) => waitUntil_any now a c k _ W h hkl
  have c2 := fun W (h : IsI W a c (ps.take 40)) => refUntil_any now a c k _ W h hkl hn
  rw [hA] at c1 c2
  clear hA hI hl hk hkl
  generalize ps.take 40 = qs at *
  go_enter Try.func4, Try.ntmps4
  go_wp2_with (first
    | (go_at_call 8; refine (alive17_any _).mono ?_; rintro e w' ⟨rfl, rfl⟩)
    | (go_at_call 13; refine (c1 _ hI2).mono ?_; rintro e w' ⟨rfl, rfl⟩)
    | (go_at_call 14; refine (c2 _ hI2).mono ?_; rintro e w' ⟨rfl, rfl⟩))
  go_ret
  exact ⟨rfl, Below.refl _ _⟩

end Go.Proofs.Ytamgiejkbjoejaa
