/-
  The walk through the statement PagePuts.
-/
import Derived.Test.YtoajdkjffnnamaaPagePut
import Derived.Test.YtoajdkjffnnamaaPageOpen
namespace Go.Proofs.Ytoajdkjffnnamaa
open Go.RowKit Plain
set_option linter.unusedVariables false

set_option maxHeartbeats 1000000 in
theorem pagePuts_walk (k g : Int) (b : ByteArray) (w : World) (hk : -9223372036854775808 ≤ k ∧ k ≤ 9223372036854775807) (hg : -9223372036854775808 ≤ g ∧ g ≤ 9223372036854775807) (hs : b.size ≤ maxLen) :
    Calls Try.prog 3 #[.agg #[.int .i64 k, .int .i64 g, .string b]] w fun e w' => e = .returned (.bool true) ∧ Below w.heap.size w w' := by
  have c0 := fun W => right_any k g b W hs
  have c1 := fun W => pagePut_any k g b W hs
  have c2 := fun W => refRight_any k g b W hs
  have c3 := alive_any
  by_cases h : rightP k g b = true
  · have c4 := fun W => refPagePut_any k g b W h
    rw [h] at c0 c2
    rw [show pageE k g b = 0 by rw [pageE, if_pos h]] at c1
    obtain ⟨r, hr⟩ : ∃ r, r = pageS k g b := ⟨_, rfl⟩
    rw [← hr] at c1 c4
    clear hr h
    go_enter Try.func3, Try.ntmps3
    go_wp2_with (first
      | (go_at_call 7; refine (c1 _).mono ?_; rintro e w1 ⟨rfl, hb⟩; obtain ⟨q0, q1, q2⟩ := box3_cells hb; have hB := below_box hb; clear hb)
      | (go_at_call 8; refine (c2 _).mono ?_; rintro e w2 ⟨rfl, hb⟩; obtain ⟨q0, q1, q2⟩ := box3_from q0 q1 q2 hb; replace hB := Below.tr hB hb; clear hb)
      | (go_at_call 9; refine (c3 _).mono ?_; rintro e w3 ⟨rfl, hb⟩; obtain ⟨q0, q1, q2⟩ := box3_from q0 q1 q2 hb; replace hB := Below.tr hB hb; clear hb)
      | (go_at_call 10; refine (c0 _).mono ?_; rintro e w4 ⟨rfl, hb⟩; obtain ⟨q0, q1, q2⟩ := box3_from q0 q1 q2 hb; replace hB := Below.tr hB hb; clear hb)
      | (go_at_call 11; refine (c4 _).mono ?_; rintro e w5 ⟨rfl, hb⟩; replace hB := Below.tr hB hb; clear hb))
    go_ret
    exact ⟨ret_bool (by simp), hB⟩
  · have h' : rightP k g b = false := by simpa using h
    rw [h'] at c0 c2
    rw [show pageE k g b = 1 by rw [pageE, if_neg h], pageS_bad h'] at c1
    clear h h'
    go_enter Try.func3, Try.ntmps3
    go_wp2_with (first
      | (go_at_call 7; refine (c1 _).mono ?_; rintro e w1 ⟨rfl, hb⟩; obtain ⟨q0, q1, q2⟩ := box3_cells hb; have hB := below_box hb; clear hb)
      | (go_at_call 8; refine (c2 _).mono ?_; rintro e w2 ⟨rfl, hb⟩; obtain ⟨q0, q1, q2⟩ := box3_from q0 q1 q2 hb; replace hB := Below.tr hB hb; clear hb)
      | (go_at_call 9; refine (c3 _).mono ?_; rintro e w3 ⟨rfl, hb⟩; obtain ⟨q0, q1, q2⟩ := box3_from q0 q1 q2 hb; replace hB := Below.tr hB hb; clear hb)
      | (go_at_call 10; refine (c0 _).mono ?_; rintro e w4 ⟨rfl, hb⟩; obtain ⟨q0, q1, q2⟩ := box3_from q0 q1 q2 hb; replace hB := Below.tr hB hb; clear hb))
    go_ret
    exact ⟨ret_bool (by simp), hB⟩

end Go.Proofs.Ytoajdkjffnnamaa
