/-
  Package wait: inTime, After, All, Until; the statements' own alive.
-/
import Derived.Test.YtnipikdlfmcheaaCore
import Derived.Test.YtnipikdlfmcheaaWaitPlain
namespace Go.Proofs.Ytnipikdlfmcheaa
open Go.RowKit Plain
set_option linter.unusedVariables false

theorem inTime_any (t : Int) (w : World) :
    Calls Try.prog 48 #[.int .i64 t] w fun e w' => e = .returned (.int .i64 (min (max t 0) 1099511627776)) ∧ w = w' := by
  obtain ⟨m, hm⟩ : ∃ m, m = max t 0 := ⟨_, rfl⟩
  obtain ⟨n, hn⟩ : ∃ n, n = min m 1099511627776 := ⟨_, rfl⟩
  have h1 := max_run hm.symm
  have h2 := min_run hn.symm
  rw [← hm, ← hn]
  clear hm hn
  go_enter Try.func48, Try.ntmps48
  go_wp2
  go_ret
  exact ⟨rfl, rfl⟩

theorem waitAfter_any (x n : Int) (w : World) (hn : n ≤ 9223372036854775807) :
    Calls Try.prog 37 #[.int .i64 x, .int .i64 n] w fun e w' => e = .returned (.int .i64 (afterF x n)) ∧ w = w' := by
  by_cases h0 : x < 1
  · have e : Hid (afterF x n = 0) := afterF_none (w := x) (n := n) (.inl h0)
    go_enter Try.func37, Try.ntmps37
    go_wp2
    go_ret
    exact ⟨ret_int e.out.symm, rfl⟩
  by_cases h1 : n < 1
  · have e : Hid (afterF x n = 0) := afterF_none (w := x) (n := n) (.inr h1)
    go_enter Try.func37, Try.ntmps37
    go_wp2
    go_ret
    exact ⟨ret_int e.out.symm, rfl⟩
  have e := afterF_some (w := x) (n := n) (by omega) (by omega)
  have hm := min_run (aftK_zero x).symm
  have E : Hid (afterF x n = aftK x (n - 1).toNat) := e
  clear e
  go_enter Try.func37, Try.ntmps37
  go_wp2
  go_loop [5, 6] (fun p v => ∃ k : Nat, (k : Int) + 1 ≤ n ∧ v = .int .i64 ((k : Int) + 1) ∧ p = .int .i64 (aftK x k)) (fun _ v => (n - intOf v).toNat)
  case atStart => exact ⟨0, by omega, rfl, rfl⟩
  case round =>
    clear hm
    obtain ⟨k, hk, rfl, rfl⟩ := hrel
    have h2 := aftK_pos (w := x) (by omega) k
    have h3 := aftK_le x k
    by_cases hlt : (k : Int) + 1 < n
    · by_cases hb : aftK x k < 1048576
      · have hm := min_run (aftK_succ x k).symm
        go_wp2
        go_round
        case rel => exact ⟨k + 1, by omega, by go_num, rfl⟩
        case measure => simp [intOf]; omega
      · go_wp2
        go_ret
        refine ⟨ret_int ?_, rfl⟩
        rw [E.out, aftK_stuck (w := x) (j := k) (k := (n - 1).toNat) (by omega) (by omega)]
        omega
    · go_wp2
      go_ret
      refine ⟨ret_int ?_, rfl⟩
      rw [E.out, show (n - 1).toNat = k by omega]

set_option maxRecDepth 20000 in
theorem waitUntil_any (now : Int) (a : Option Addr) (c n : Nat) (ps : List Int) (w : World) (hI : IsI w a c ps) (hn : n = ps.length) :
    Calls Try.prog 35 #[.int .i64 now, .slice a n c] w fun e w' => e = .returned (.int .i64 (untF now ps)) ∧ w = w' := by
  have HN : Hid (n = ps.length) := hn
  have hnm : n ≤ 9223372036854775807 := by rw [hn]; exact Nat.le_trans hI.1 hI.2.1
  have E0 : Hid (untF now [] = min (max now 0) 1099511627776) := untF_nil now
  clear hn
  go_enter Try.func35, Try.ntmps35
  go_wp2_with (go_at_call 48; refine (inTime_any _ _).mono ?_; rintro e w' ⟨rfl, rfl⟩)
  go_loop [5, 12] (fun p v => ∃ k : Nat, k ≤ n ∧ v = .int .i64 k ∧ p = .int .i64 (untF now (ps.take k))) (fun _ v => n - (intOf v).toNat)
  case atStart => exact ⟨0, by omega, rfl, by rw [List.take_zero, E0.out]⟩
  case round =>
    obtain ⟨k, hk, rfl, rfl⟩ := hrel
    by_cases hlt : k < n
    · have hlt' : (k : Int) < n := by omega
      obtain ⟨x, hx⟩ : ∃ x, ps[k]? = some x := ⟨_, List.getElem?_eq_getElem (by rw [← HN.out]; exact hlt)⟩
      obtain ⟨b, o, rfl, -, hc⟩ := hI.2.2 k x hx
      have E1 := untF_take now hx
      have hb := untF_bound now (ps.take k)
      obtain ⟨y, hy⟩ : ∃ y, y = min (max x 0) 1099511627776 := ⟨_, rfl⟩
      rw [← hy] at E1
      have HE : Hid (untF now (ps.take (k + 1)) = min (max (untF now (ps.take k) + y) 0) 1099511627776) := E1
      have hyb : 0 ≤ y ∧ y ≤ 1099511627776 := by omega
      have cT : ∀ W, Calls Try.prog 48 #[.int .i64 x] W fun e w' => e = .returned (.int .i64 y) ∧ W = w' := fun W => (inTime_any x W).mono (by rintro e w' ⟨rfl, h⟩; exact ⟨by rw [hy], h⟩)
      clear E1 hy hx
      have tok := trivial
      go_wp2_with (first
        | (have _t := tok; go_at_call 48; refine (cT _).mono ?_; clear tok _t; rintro e w' ⟨rfl, rfl⟩)
        | (go_at_call 48; refine (inTime_any _ _).mono ?_; rintro e w' ⟨rfl, rfl⟩))
      go_round
      case rel => exact ⟨k + 1, by omega, by go_num, by rw [HE.out]⟩
      case measure => simp [intOf]; omega
    · obtain rfl : k = n := by omega
      go_wp2
      go_ret
      exact ⟨ret_int (by rw [HN.out, List.take_length]), rfl⟩

end Go.Proofs.Ytnipikdlfmcheaa
