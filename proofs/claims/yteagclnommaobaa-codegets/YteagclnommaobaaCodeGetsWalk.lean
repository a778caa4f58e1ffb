/-
  The walk of the law CodeGets: it returns true at all arguments.
-/
import Derived.Test.YteagclnommaobaaGet
import Derived.Test.YteagclnommaobaaRefGet
namespace Go.Proofs.Yteagclnommaobaa
open Go.RowKit Plain

set_option maxHeartbeats 400000 in
theorem codeGets_walk (s : ByteArray) (p k : Int) (w : World) (hs : s.size ≤ maxLen) (_ : (Lit.int .i64 p).wf = true) (_ : (Lit.int .i64 k).wf = true) :
    Calls Try.prog 5 #[.string s, .int .i64 p, .int .i64 k] w fun e w' => e = .returned (.bool true) ∧ Below w.heap.size w w' := by
  have hB : Below w.heap.size w w := Below.refl _ _
  go_enter Try.func5, Try.ntmps5
  go_wp2_with (first
    | (go_at_call 18; refine (get_any _ _ _ _ hs).mono ?_; rintro e w' ⟨rfl, rfl⟩)
    | (go_at_call 19; refine (refGet_any _ _ _ _ hs).mono ?_; rintro e w' ⟨rfl, rfl⟩)
    | (go_at_call 20; refine (cut_any _ _ _ hs).mono ?_; rintro e w' ⟨rfl, rfl⟩)
    | (go_at_call 21; refine (refCut_any _ _ _ hs).mono ?_; rintro e w' ⟨rfl, rfl⟩)
    | (go_at_call 11; refine (alive_any _).mono ?_; rintro e w' ⟨rfl, hb⟩; replace hB := Below.tr hB hb; clear hb))
  go_ret
  exact ⟨rfl, hB⟩

end Go.Proofs.Yteagclnommaobaa
