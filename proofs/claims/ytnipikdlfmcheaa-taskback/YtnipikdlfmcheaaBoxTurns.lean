/-
  A struct in a box, behind what turns other blocks alone.
-/
import Derived.Test.YtnipikdlfmcheaaTurns
import Derived.Test.YtnipikdlfmcheaaBoxL
namespace Go.Proofs.Ytnipikdlfmcheaa
open Go.RowKit Plain
set_option linter.unusedVariables false

theorem boxL_turns {P : Nat → Prop} {w w' : World} {h : Nat} {vs : List Value} (b : BoxL w h vs) (t : Turns P w w') (hp : ¬ P h) : BoxL w' h vs := by
  refine ⟨fun i v hv => t.cell (p := ⟨h, i, none⟩) hp (b.1 i v hv), fun i hi => t.frozen (p := ⟨h, i, none⟩) (b.lt (by omega)) hp (b.2 i hi)⟩

end Go.Proofs.Ytnipikdlfmcheaa
