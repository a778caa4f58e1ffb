/-
  The walk of the law CodePuts: it returns true at all arguments.
-/
import Derived.Test.YteagclnommaobaaRefPut
namespace Go.Proofs.Yteagclnommaobaa
open Go.RowKit Plain

set_option maxHeartbeats 400000 in
theorem codePuts_walk (n k : Int) (w : World) (_ : (Lit.int .i64 n).wf = true) (_ : (Lit.int .i64 k).wf = true) :
    Calls Try.prog 3 #[.int .i64 n, .int .i64 k] w fun e w' => e = .returned (.bool true) ∧ Below w.heap.size w w' := by
  have hB : Below w.heap.size w w := Below.refl _ _
  go_enter Try.func3, Try.ntmps3
  go_wp2_with (first
    | (go_at_call 9; refine (put_any _ _ _).mono ?_; rintro e w' ⟨rfl, hb⟩; replace hB := Below.tr hB hb; clear hb)
    | (go_at_call 10; refine (refPut_any _ _ _).mono ?_; rintro e w' ⟨rfl, hb⟩; replace hB := Below.tr hB hb; clear hb)
    | (go_at_call 11; refine (alive_any _).mono ?_; rintro e w' ⟨rfl, hb⟩; replace hB := Below.tr hB hb; clear hb))
  go_ret
  exact ⟨rfl, hB⟩

end Go.Proofs.Yteagclnommaobaa
