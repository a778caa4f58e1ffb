/-
  The walk through the statement RingPuts.
-/
import Derived.Test.YtcdcnonkoffbhaaRingBody
import Derived.Test.YtcdcnonkoffbhaaRingRef
namespace Go.Proofs.Ytcdcnonkoffbhaa
open Go.RowKit Plain
set_option linter.unusedVariables false

set_option maxHeartbeats 1000000 in
theorem ringPuts_walk (g n : Int) (b s : ByteArray) (w : World) (wg : (Lit.int .i64 g).wf = true) (wn : (Lit.int .i64 n).wf = true) (hb0 : b.size ≤ maxLen) (hs0 : s.size ≤ maxLen) :
    Calls Try.prog 3 #[.int .i64 g, .int .i64 n, .string b, .string s] w fun e w' => e = .returned (.bool true) ∧ Below w.heap.size w w' := by
  have c1 := fun W => ringPut_any g n b W hb0
  have c2 := fun W => refRingPut_any g n b W hb0
  have c3 := fun W => ringGet_any s g W hs0
  have c4 := fun W => refRingGet_any s g W hs0
  have c5 := alive13_any
  clear wg wn hb0 hs0
  generalize recS g n b = q at *
  generalize recE g n b = E at *
  generalize rgN s g = N at *
  generalize rgB s g = B at *
  generalize rgE s g = F at *
  have hB := Below.refl w.heap.size w
  go_enter Try.func3, Try.ntmps3
  go_wp2_with (first
    | (go_at_call 9; refine (c1 _).mono ?_; rintro e w1 ⟨rfl, hb⟩; replace hB := Below.tr hB hb; clear hb)
    | (go_at_call 10; refine (c2 _).mono ?_; rintro e w2 ⟨rfl, hb⟩; replace hB := Below.tr hB hb; clear hb)
    | (go_at_call 11; refine (c3 _).mono ?_; rintro e w3 ⟨rfl, hb⟩; replace hB := Below.tr hB hb; clear hb)
    | (go_at_call 12; refine (c4 _).mono ?_; rintro e w4 ⟨rfl, hb⟩; replace hB := Below.tr hB hb; clear hb)
    | (go_at_call 13; refine (c5 _).mono ?_; rintro e w5 ⟨rfl, hb⟩; replace hB := Below.tr hB hb; clear hb))
  go_ret
  exact ⟨ret_bool (by simp), hB⟩

end Go.Proofs.Ytcdcnonkoffbhaa
