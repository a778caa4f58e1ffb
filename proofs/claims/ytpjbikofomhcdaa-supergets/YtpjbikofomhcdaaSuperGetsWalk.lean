/-
  The walk through the statement SuperGets.
-/
import Derived.Test.YtpjbikofomhcdaaSuperChoose
namespace Go.Proofs.Ytpjbikofomhcdaa
open Go.RowKit Plain
set_option linter.unusedVariables false

set_option maxHeartbeats 2000000 in
theorem superGets_walk (a : Option Addr) (c : Nat) (xs : List ByteArray) (w : World) (hS0 : IsS w a c xs) :
    Calls Try.prog 4 #[.slice a xs.length c] w fun e w' => e = .returned (.bool true) ∧ Below w.heap.size w w' := by
  obtain ⟨ys, hys⟩ : ∃ ys, ys = xs.take 6 := ⟨_, rfl⟩
  have hS : IsS w a c ys := by rw [hys]; exact hS0.take 6
  obtain ⟨n, hn⟩ : ∃ n, n = ys.length := ⟨_, rfl⟩
  have hmin : min (xs.length : Int) 6 = (n : Int) := by rw [hn, hys, List.length_take]; omega
  have hl : n ≤ 6 := by rw [hn, hys, List.length_take]; omega
  have hnc : n ≤ c := by rw [hn]; exact hS.1
  have hm : xs.length ≤ 9223372036854775807 := hS0.size
  have hc' : c ≤ 9223372036854775807 := hS.2.1
  have hlc : xs.length ≤ c := hS0.1
  obtain ⟨t, i, hbest⟩ := best_any ys
  have cC : ∀ W, Below w.heap.size w W → Calls Try.prog 14 #[.slice a n c] W fun e w' => e = .returned (.tuple #[.agg #[.int .i64 (suG t), .int .i64 (suR t), .int .i64 (suM t), .int .i64 (suZ t)], .int .i64 i, .int .i64 (chE t)]) ∧ Below W.heap.size W w' := fun W hW => choose_any a c ys n t i W hn (hS.below hW) hbest
  have cD : ∀ W, Below w.heap.size w W → Calls Try.prog 15 #[.slice a n c] W fun e w' => e = .returned (.tuple #[.agg #[.int .i64 (suG t), .int .i64 (suR t), .int .i64 (suM t), .int .i64 (suZ t)], .int .i64 i, .int .i64 (chE t)]) ∧ Below W.heap.size W w' := fun W hW => refChoose_any a c ys n t i W hn (hS.below hW) hbest
  have c3 := alive12_any
  have c1 : ∀ x : ByteArray, x.size ≤ maxLen → ∀ W, Calls Try.prog 12 #[.string x] W fun e w' => e = .returned (.tuple #[.agg #[.int .i64 (suG x), .int .i64 (suR x), .int .i64 (suM x), .int .i64 (suZ x)], .int .i64 (suE x)]) ∧ Below W.heap.size W w' := fun x hx W => suGet_any x W hx
  have c2 : ∀ x : ByteArray, x.size ≤ maxLen → ∀ W, Calls Try.prog 13 #[.string x] W fun e w' => e = .returned (.tuple #[.agg #[.int .i64 (suG x), .int .i64 (suR x), .int .i64 (suM x), .int .i64 (suZ x)], .int .i64 (suE x)]) ∧ Below W.heap.size W w' := fun x hx W => refSuGet_any x W hx
  have HN : Hid (n = ys.length) := hn
  have HS : Hid (IsS w a c ys) := hS
  obtain ⟨l, hll⟩ : ∃ l, l = xs.length := ⟨_, rfl⟩
  rw [← hll] at hmin hm hlc ⊢
  clear hys hS0 hS hn hll hbest
  have rmin := min_run hmin
  generalize suG t = G at *
  generalize suR t = R at *
  generalize suM t = M at *
  generalize suZ t = Z at *
  generalize chE t = E at *
  go_enter Try.func4, Try.ntmps4
  go_wp2
  go_loopw [22] (fun v wr => ∃ j : Nat, j ≤ n ∧ v = .int .i64 j ∧ Below w.heap.size w wr) (fun v _ => n - (intOf v).toNat)
  case atStart => exact ⟨0, by omega, rfl, Below.refl _ _⟩
  case round =>
    obtain ⟨j, hj, rfl, hB⟩ := hrel
    by_cases hlt : j < n
    · obtain ⟨x, hx⟩ : ∃ x, ys[j]? = some x := ⟨_, List.getElem?_eq_getElem (by rw [← HN.out]; exact hlt)⟩
      obtain ⟨bk, o, rfl, hbk, hcell0, hxs⟩ := HS.out.2.2 j x hx
      have hcell := cell_below hB hcell0
      replace c1 := c1 x hxs
      replace c2 := c2 x hxs
      clear hx hcell0 hbk hxs
      generalize suG x = G' at *
      generalize suR x = R' at *
      generalize suM x = M' at *
      generalize suZ x = Z' at *
      generalize suE x = E' at *
      go_wp2_with (first
        | (go_at_call 12; refine (c1 _).mono ?_; rintro e w1 ⟨rfl, hb⟩; have T := box4_new w1 (.int .i64 G') (.int .i64 R') (.int .i64 M') (.int .i64 Z') 23 rfl; replace hB := Below.tr hB hb; replace hB := hB.alloc hB.size (.cells #[.int .i64 G', .int .i64 R', .int .i64 M', .int .i64 Z'] 23); clear hb)
        | (go_at_call 13; refine (c2 _).mono ?_; rintro e w2 ⟨rfl, hb⟩; replace T := (T.below hb).alloc (.cells #[.int .i64 G', .int .i64 R', .int .i64 M', .int .i64 Z'] 23); have U := box4_new w2 (.int .i64 G') (.int .i64 R') (.int .i64 M') (.int .i64 Z') 23 rfl; replace hB := Below.tr hB hb; replace hB := hB.alloc hB.size (.cells #[.int .i64 G', .int .i64 R', .int .i64 M', .int .i64 Z'] 23); obtain ⟨⟨t0, t1, t2, t3⟩, -⟩ := id T; obtain ⟨⟨u0, u1, u2, u3⟩, -⟩ := id U; clear hb))
      go_roundw
      case rel => exact ⟨j + 1, by omega, by go_num, hB⟩
      case measure => simp [intOf]; omega
    · obtain rfl : n = j := by omega
      have hn0 : ¬ (n : Int) < n := by omega
      clear hj hlt
      go_wp2_with (first
        | (go_at_call 14; refine (cC _ hB).mono ?_; rintro e w1 ⟨rfl, hb⟩; have T := box4_new w1 (.int .i64 G) (.int .i64 R) (.int .i64 M) (.int .i64 Z) 23 rfl; replace hB := Below.tr hB hb; replace hB := hB.alloc hB.size (.cells #[.int .i64 G, .int .i64 R, .int .i64 M, .int .i64 Z] 23); clear hb)
        | (go_at_call 15; refine (cD _ hB).mono ?_; rintro e w2 ⟨rfl, hb⟩; replace T := (T.below hb).alloc (.cells #[.int .i64 G, .int .i64 R, .int .i64 M, .int .i64 Z] 23); have U := box4_new w2 (.int .i64 G) (.int .i64 R) (.int .i64 M) (.int .i64 Z) 23 rfl; replace hB := Below.tr hB hb; replace hB := hB.alloc hB.size (.cells #[.int .i64 G, .int .i64 R, .int .i64 M, .int .i64 Z] 23); obtain ⟨⟨t0, t1, t2, t3⟩, -⟩ := id T; obtain ⟨⟨u0, u1, u2, u3⟩, -⟩ := id U; clear hb)
        | (go_at_call 9; refine (c3 _).mono ?_; rintro e w3 ⟨rfl, hb⟩; replace hB := Below.tr hB hb; replace T := T.below hb; replace U := U.below hb; obtain ⟨⟨t0, t1, t2, t3⟩, -⟩ := id T; obtain ⟨⟨u0, u1, u2, u3⟩, -⟩ := id U; clear hb))
      go_ret
      exact ⟨ret_bool (by simp), hB⟩

end Go.Proofs.Ytpjbikofomhcdaa
