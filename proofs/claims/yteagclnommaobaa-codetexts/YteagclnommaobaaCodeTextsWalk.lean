/-
  The walk of the law CodeTexts: it returns true at all arguments.
-/
import Derived.Test.YteagclnommaobaaPad
import Derived.Test.YteagclnommaobaaRefText
namespace Go.Proofs.Yteagclnommaobaa
open Go.RowKit Plain

set_option maxHeartbeats 400000 in
theorem codeTexts_walk (s : ByteArray) (k : Int) (w : World) (hs : s.size ≤ maxLen) (_ : (Lit.int .i64 k).wf = true) :
    Calls Try.prog 4 #[.string s, .int .i64 k] w fun e w' => e = .returned (.bool true) ∧ Below w.heap.size w w' := by
  have hB : Below w.heap.size w w := Below.refl _ _
  go_enter Try.func4, Try.ntmps4
  go_wp2_with (first
    | (go_at_call 12; refine (text_any _ _ hs).mono ?_; rintro e w' ⟨rfl, hb⟩; replace hB := Below.tr hB hb; clear hb)
    | (go_at_call 13; refine (refText_any _ _ hs).mono ?_; rintro e w' ⟨rfl, hb⟩; replace hB := Below.tr hB hb; clear hb)
    | (go_at_call 14; refine (pad_any _ _ _ hs).mono ?_; rintro e w' ⟨rfl, hb⟩; replace hB := Below.tr hB hb; clear hb)
    | (go_at_call 15; refine (refPad_any _ _ _ hs).mono ?_; rintro e w' ⟨rfl, hb⟩; replace hB := Below.tr hB hb; clear hb)
    | (go_at_call 16; refine (trim_any _ _ hs).mono ?_; rintro e w' ⟨rfl, rfl⟩)
    | (go_at_call 17; refine (refTrim_any _ _ hs).mono ?_; rintro e w' ⟨rfl, rfl⟩)
    | (go_at_call 11; refine (alive_any _).mono ?_; rintro e w' ⟨rfl, hb⟩; replace hB := Below.tr hB hb; clear hb))
  go_ret
  exact ⟨rfl, hB⟩

end Go.Proofs.Yteagclnommaobaa
