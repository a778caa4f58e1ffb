/-
  The walk of the law CodeOrder: it returns true at all arguments.
-/
import Derived.Test.YteagclnommaobabPut
namespace Go.Proofs.Yteagclnommaobab
open Go.RowKit Plain

set_option maxHeartbeats 400000 in
theorem codeOrder_walk (m n k : Int) (w : World) (_ : (Lit.int .i64 m).wf = true) (_ : (Lit.int .i64 n).wf = true) (_ : (Lit.int .i64 k).wf = true) :
    Calls Try.prog 3 #[.int .i64 m, .int .i64 n, .int .i64 k] w fun e w' => e = .returned (.bool true) ∧ Below w.heap.size w w' := by
  have hB : Below w.heap.size w w := Below.refl _ _
  by_cases hm : putOk m k = true
  · by_cases hn : putOk n k = true
    · have em := putE_ok hm
      have en := putE_ok hn
      have sm := putS_ok hm
      have sn := putS_ok hn
      obtain ⟨k1, k6, m0, m1⟩ := (putOk_iff m k).1 hm
      obtain ⟨-, -, n0, n1⟩ := (putOk_iff n k).1 hn
      have el := putL_lt m n k.toNat m0 m1 n0 n1
      have eb := putL_beq m n k.toNat m0 m1 n0 n1
      have ek : ((putL m k.toNat).length : Int) = k := by rw [putL_length]; omega
      clear m1 n1 hm hn
      go_enter Try.func3, Try.ntmps3
      go_wp2_with (first | (go_at_call 5; refine (put_any _ _ _).mono ?_; rintro e w' ⟨rfl, hb⟩; replace hB := Below.tr hB hb; clear hb) | (go_at_call 6; refine (alive_any _).mono ?_; rintro e w' ⟨rfl, hb⟩; replace hB := Below.tr hB hb; clear hb))
      go_ret
      exact ⟨rfl, hB⟩
    · have en : putE n k = 1 := putE_bad (by simpa using hn)
      have em := putE_ok hm
      clear hm hn
      go_enter Try.func3, Try.ntmps3
      go_wp2_with (first | (go_at_call 5; refine (put_any _ _ _).mono ?_; rintro e w' ⟨rfl, hb⟩; replace hB := Below.tr hB hb; clear hb) | (go_at_call 6; refine (alive_any _).mono ?_; rintro e w' ⟨rfl, hb⟩; replace hB := Below.tr hB hb; clear hb))
      go_ret
      exact ⟨rfl, hB⟩
  · have em : putE m k = 1 := putE_bad (by simpa using hm)
    clear hm
    go_enter Try.func3, Try.ntmps3
    go_wp2_with (first | (go_at_call 5; refine (put_any _ _ _).mono ?_; rintro e w' ⟨rfl, hb⟩; replace hB := Below.tr hB hb; clear hb) | (go_at_call 6; refine (alive_any _).mono ?_; rintro e w' ⟨rfl, hb⟩; replace hB := Below.tr hB hb; clear hb))
    go_ret
    exact ⟨rfl, hB⟩

end Go.Proofs.Yteagclnommaobab
