/-
  The document's own After, All, Until.
-/
import Derived.Test.YtnipikdlfmcheaaWaitOwn
namespace Go.Proofs.Ytnipikdlfmcheaa
open Go.RowKit Plain
set_option linter.unusedVariables false

theorem refAfter_any (x n : Int) (w : World) (hn : n ≤ 9223372036854775807) :
    Calls Try.prog 38 #[.int .i64 x, .int .i64 n] w fun e w' => e = .returned (.int .i64 (afterF x n)) ∧ w = w' := by
  by_cases h0 : x < 1
  · have e : Hid (afterF x n = 0) := afterF_none (w := x) (n := n) (.inl h0)
    go_enter Try.func38, Try.ntmps38
    go_wp2
    go_ret
    exact ⟨ret_int e.out.symm, rfl⟩
  by_cases h1 : n < 1
  · have e : Hid (afterF x n = 0) := afterF_none (w := x) (n := n) (.inr h1)
    go_enter Try.func38, Try.ntmps38
    go_wp2
    go_ret
    exact ⟨ret_int e.out.symm, rfl⟩
  have E : Hid (afterF x n = aftK x (n - 1).toNat) := afterF_some (w := x) (n := n) (by omega) (by omega)
  by_cases h2 : 1048576 ≤ x
  · have e : Hid (afterF x n = 1048576) := by show _ = _; rw [E.out, aftK_big h2]
    go_enter Try.func38, Try.ntmps38
    go_wp2
    go_ret
    exact ⟨ret_int e.out.symm, rfl⟩
  by_cases h3 : 40 < n
  · have e : Hid (afterF x n = 1048576) := by show _ = _; rw [E.out, aftK_far (by omega) (by omega)]
    go_enter Try.func38, Try.ntmps38
    go_wp2
    go_ret
    exact ⟨ret_int e.out.symm, rfl⟩
  obtain ⟨D, hD⟩ : ∃ D : Nat → Int, D = fun k => x * 2 ^ k := ⟨_, rfl⟩
  have hDb : ∀ k : Nat, k ≤ 39 → 1 ≤ D k ∧ D k ≤ 576460752303423488 := fun k hk => by rw [hD]; exact dbl_small (by omega) (by omega) hk
  have D0 : D 0 = x := by rw [hD]; simp
  have DS : ∀ k, D (k + 1) = 2 * D k := fun k => by rw [hD]; show x * 2 ^ (k + 1) = 2 * (x * 2 ^ k); rw [Int.pow_succ, ← Int.mul_assoc, Int.mul_comm]
  have DE : ∀ k, aftK x k = min (D k) 1048576 := fun k => by rw [hD]; rfl
  clear hD
  go_enter Try.func38, Try.ntmps38
  go_wp2
  go_loop [0, 5] (fun p v => ∃ k : Nat, (k : Int) + 1 ≤ n ∧ v = .int .i64 ((k : Int) + 1) ∧ p = .int .i64 (D k)) (fun _ v => (n - intOf v).toNat)
  case atStart => exact ⟨0, by omega, rfl, by rw [D0]⟩
  case round =>
    clear D0
    obtain ⟨k, hk, rfl, rfl⟩ := hrel
    have h4 := hDb k (by omega)
    have h5 := DS k
    have h6 : Hid (aftK x k = min (D k) 1048576) := DE k
    clear DE DS hDb
    by_cases hlt : (k : Int) + 1 < n
    · go_wp2
      go_round
      case rel => exact ⟨k + 1, by omega, by go_num, by rw [h5]⟩
      case measure => simp [intOf]; omega
    · have h7 : Hid (afterF x n = aftK x k) := by show _ = _; rw [E.out, show (n - 1).toNat = k by omega]
      by_cases hb : 1048576 < D k
      · go_wp2
        go_ret
        refine ⟨ret_int ?_, rfl⟩
        rw [h7.out, h6.out]
        omega
      · go_wp2
        go_ret
        refine ⟨ret_int ?_, rfl⟩
        rw [h7.out, h6.out]
        omega

set_option maxRecDepth 20000 in
theorem refUntil_any (now : Int) (a : Option Addr) (c n : Nat) (ps : List Int) (w : World) (hI : IsI w a c ps) (hn : n = ps.length) (hnow : now ≤ 9223372036854775807) :
    Calls Try.prog 36 #[.int .i64 now, .slice a n c] w fun e w' => e = .returned (.int .i64 (untF now ps)) ∧ w = w' := by
  have HN : Hid (n = ps.length) := hn
  have hnm : n ≤ 9223372036854775807 := by rw [hn]; exact Nat.le_trans hI.1 hI.2.1
  have HU0 : Hid (untF now ps = min (max now 0 + sumP ps) 1099511627776) := rfl
  clear hn
  go_enter Try.func36, Try.ntmps36
  by_cases h1 : 0 < now
  · have HU : Hid (untF now ps = min (now + sumP ps) 1099511627776) := by show _ = _; rw [HU0.out, show max now 0 = now by omega]
    go_wp2
    go_loop [5, 13] (fun p v => ∃ k : Nat, k ≤ n ∧ v = .int .i64 k ∧ p = .int .i64 (now + sumP (ps.take k)) ∧ now + sumP (ps.take k) ≤ 9223372036854775807) (fun _ v => n - (intOf v).toNat)
    case atStart => exact ⟨0, by omega, rfl, by simp [sumP], by (simp [sumP] <;> omega)⟩
    case round =>
      obtain ⟨k, hk, rfl, rfl, hb⟩ := hrel
      have h0 := sumP_nn (ps.take k)
      have hle := sumP_take_le ps k
      by_cases hlt : k < n
      · have hlt' : (k : Int) < n := by omega
        obtain ⟨x, hx⟩ : ∃ x, ps[k]? = some x := ⟨_, List.getElem?_eq_getElem (by rw [← HN.out]; exact hlt)⟩
        obtain ⟨b, o, rfl, -, hc⟩ := hI.2.2 k x hx
        have E1 := sumP_take hx
        have E2 := sumP_at hx
        have E3 := sumP_nn ps
        obtain ⟨S, hS⟩ : ∃ S, S = now + sumP (ps.take k) := ⟨_, rfl⟩
        have HX : Hid (now + sumP (ps.take (k + 1)) = S + max x 0) := by show _ = _; rw [E1, hS]; omega
        rw [← hS] at hb ⊢
        have hS0 : 0 ≤ S := by omega
        by_cases c1 : 1099511627776 ≤ S
        · have e : Hid (untF now ps = 1099511627776) := by show _ = _; rw [HU.out]; omega
          clear hS E1 E2 E3 h0 hle
          go_wp2
          go_ret
          exact ⟨ret_int e.out.symm, rfl⟩
        by_cases c2 : 1099511627776 ≤ x
        · have e : Hid (untF now ps = 1099511627776) := by show _ = _; rw [HU.out]; omega
          clear hS E1 E2 E3 h0 hle
          go_wp2
          go_ret
          exact ⟨ret_int e.out.symm, rfl⟩
        clear hS E1 E2 E3 h0 hle
        by_cases c3 : 0 < x
        · go_wp2
          go_round
          case rel => exact ⟨k + 1, by omega, by go_num, by rw [HX.out, show max x 0 = x by omega], by rw [HX.out]; omega⟩
          case measure => simp [intOf]; omega
        · go_wp2
          go_round
          case rel => exact ⟨k + 1, by omega, by go_num, by rw [HX.out, show max x 0 = 0 by omega, Int.add_zero], by rw [HX.out]; omega⟩
          case measure => simp [intOf]; omega
      · obtain rfl : k = n := by omega
        have e : Hid (untF now ps = min (now + sumP (ps.take k)) 1099511627776) := by show _ = _; rw [HU.out, HN.out, List.take_length]
        clear hle
        generalize now + sumP (ps.take k) = S at *
        by_cases c1 : 1099511627776 < S
        · go_wp2
          go_ret
          exact ⟨ret_int (by rw [e.out]; omega), rfl⟩
        · go_wp2
          go_ret
          exact ⟨ret_int (by rw [e.out]; omega), rfl⟩
  · have HU : Hid (untF now ps = min ((0 : Int) + sumP ps) 1099511627776) := by show _ = _; rw [HU0.out, show max now 0 = 0 by omega]
    go_wp2
    go_loop [5, 13] (fun p v => ∃ k : Nat, k ≤ n ∧ v = .int .i64 k ∧ p = .int .i64 ((0 : Int) + sumP (ps.take k)) ∧ (0 : Int) + sumP (ps.take k) ≤ 9223372036854775807) (fun _ v => n - (intOf v).toNat)
    case atStart => exact ⟨0, by omega, rfl, by simp [sumP], by (simp [sumP] <;> omega)⟩
    case round =>
      obtain ⟨k, hk, rfl, rfl, hb⟩ := hrel
      have h0 := sumP_nn (ps.take k)
      have hle := sumP_take_le ps k
      by_cases hlt : k < n
      · have hlt' : (k : Int) < n := by omega
        obtain ⟨x, hx⟩ : ∃ x, ps[k]? = some x := ⟨_, List.getElem?_eq_getElem (by rw [← HN.out]; exact hlt)⟩
        obtain ⟨b, o, rfl, -, hc⟩ := hI.2.2 k x hx
        have E1 := sumP_take hx
        have E2 := sumP_at hx
        have E3 := sumP_nn ps
        obtain ⟨S, hS⟩ : ∃ S, S = (0 : Int) + sumP (ps.take k) := ⟨_, rfl⟩
        have HX : Hid ((0 : Int) + sumP (ps.take (k + 1)) = S + max x 0) := by show _ = _; rw [E1, hS]; omega
        rw [← hS] at hb ⊢
        have hS0 : 0 ≤ S := by omega
        by_cases c1 : 1099511627776 ≤ S
        · have e : Hid (untF now ps = 1099511627776) := by show _ = _; rw [HU.out]; omega
          clear hS E1 E2 E3 h0 hle
          go_wp2
          go_ret
          exact ⟨ret_int e.out.symm, rfl⟩
        by_cases c2 : 1099511627776 ≤ x
        · have e : Hid (untF now ps = 1099511627776) := by show _ = _; rw [HU.out]; omega
          clear hS E1 E2 E3 h0 hle
          go_wp2
          go_ret
          exact ⟨ret_int e.out.symm, rfl⟩
        clear hS E1 E2 E3 h0 hle
        by_cases c3 : 0 < x
        · go_wp2
          go_round
          case rel => exact ⟨k + 1, by omega, by go_num, by rw [HX.out, show max x 0 = x by omega], by rw [HX.out]; omega⟩
          case measure => simp [intOf]; omega
        · go_wp2
          go_round
          case rel => exact ⟨k + 1, by omega, by go_num, by rw [HX.out, show max x 0 = 0 by omega, Int.add_zero], by rw [HX.out]; omega⟩
          case measure => simp [intOf]; omega
      · obtain rfl : k = n := by omega
        have e : Hid (untF now ps = min ((0 : Int) + sumP (ps.take k)) 1099511627776) := by show _ = _; rw [HU.out, HN.out, List.take_length]
        clear hle
        generalize (0 : Int) + sumP (ps.take k) = S at *
        by_cases c1 : 1099511627776 < S
        · go_wp2
          go_ret
          exact ⟨ret_int (by rw [e.out]; omega), rfl⟩
        · go_wp2
          go_ret
          exact ⟨ret_int (by rw [e.out]; omega), rfl⟩

end Go.Proofs.Ytnipikdlfmcheaa
