/-
  The walk through the statement SuperPuts.
-/
import Derived.Test.YtpjbikofomhcdaaSuperChoose
namespace Go.Proofs.Ytpjbikofomhcdaa
open Go.RowKit Plain
set_option linter.unusedVariables false

set_option maxHeartbeats 1000000 in
theorem superPuts_walk (g r m z : Int) (w : World) (wg : (Lit.int .i64 g).wf = true) (wr : (Lit.int .i64 r).wf = true) (wm : (Lit.int .i64 m).wf = true) (wz : (Lit.int .i64 z).wf = true) :
    Calls Try.prog 3 #[.agg #[.int .i64 g, .int .i64 r, .int .i64 m, .int .i64 z]] w fun e w' => e = .returned (.bool true) ∧ Below w.heap.size w w' := by
  have c1 := fun W => suPut_any g r m z W
  have c2 := fun W => refSuRight_any g r m z W
  have c3 := alive12_any
  have c4 := fun W => suRight_any g r m z W
  clear wg wr wm wz
  cases h : rightSu g r m z with
  | true =>
    have c5 := fun W => refSuPut_any g r m z W h
    rw [show suP g r m z = 0 by rw [suP, if_pos h]] at c1
    rw [h] at c2 c4
    obtain ⟨q, hq⟩ : ∃ q, q = suS g r m z := ⟨_, rfl⟩
    rw [← hq] at c1 c5
    clear hq h
    go_enter Try.func3, Try.ntmps3
    go_wp2_with (first
      | (go_at_call 7; refine (c1 _).mono ?_; rintro e w1 ⟨rfl, hb⟩; have Q := box4_cells hb; obtain ⟨⟨q0, q1, q2, q3⟩, -⟩ := id Q; have hB := below_box hb; clear hb)
      | (go_at_call 8; refine (c2 _).mono ?_; rintro e w2 ⟨rfl, hb⟩; replace Q := Q.below hb; obtain ⟨⟨q0, q1, q2, q3⟩, -⟩ := id Q; replace hB := Below.tr hB hb; clear hb)
      | (go_at_call 9; refine (c3 _).mono ?_; rintro e w3 ⟨rfl, hb⟩; replace Q := Q.below hb; obtain ⟨⟨q0, q1, q2, q3⟩, -⟩ := id Q; replace hB := Below.tr hB hb; clear hb)
      | (go_at_call 10; refine (c4 _).mono ?_; rintro e w4 ⟨rfl, hb⟩; replace Q := Q.below hb; obtain ⟨⟨q0, q1, q2, q3⟩, -⟩ := id Q; replace hB := Below.tr hB hb; clear hb)
      | (go_at_call 11; refine (c5 _).mono ?_; rintro e w5 ⟨rfl, hb⟩; replace hB := Below.tr hB hb; clear hb))
    go_ret
    exact ⟨ret_bool (by simp), hB⟩
  | false =>
    have hn : ¬ rightSu g r m z = true := by rw [h]; decide
    rw [show suP g r m z = 1 by rw [suP, if_neg hn], show suS g r m z = ⟨#[]⟩ by rw [suS, if_neg hn]] at c1
    rw [h] at c2 c4
    clear h hn
    go_enter Try.func3, Try.ntmps3
    go_wp2_with (first
      | (go_at_call 7; refine (c1 _).mono ?_; rintro e w1 ⟨rfl, hb⟩; have Q := box4_cells hb; obtain ⟨⟨q0, q1, q2, q3⟩, -⟩ := id Q; have hB := below_box hb; clear hb)
      | (go_at_call 8; refine (c2 _).mono ?_; rintro e w2 ⟨rfl, hb⟩; replace Q := Q.below hb; obtain ⟨⟨q0, q1, q2, q3⟩, -⟩ := id Q; replace hB := Below.tr hB hb; clear hb)
      | (go_at_call 9; refine (c3 _).mono ?_; rintro e w3 ⟨rfl, hb⟩; replace Q := Q.below hb; obtain ⟨⟨q0, q1, q2, q3⟩, -⟩ := id Q; replace hB := Below.tr hB hb; clear hb)
      | (go_at_call 10; refine (c4 _).mono ?_; rintro e w4 ⟨rfl, hb⟩; replace Q := Q.below hb; obtain ⟨⟨q0, q1, q2, q3⟩, -⟩ := id Q; replace hB := Below.tr hB hb; clear hb))
    go_ret
    exact ⟨ret_bool (by simp), hB⟩

end Go.Proofs.Ytpjbikofomhcdaa
