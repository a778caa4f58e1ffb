/-
  Plain facts: a row of yes and no as bytes, place by place; bits of a byte as Go reckons them.
-/
import Derived.Test.YtmjhapkhfelbpaaBitsMem
import Derived.Laws.BitsAllLaws
namespace Go.Proofs.Ytmjhapkhfelbpaa
open Go.RowKit Plain
set_option linter.unusedVariables false

end Go.Proofs.Ytmjhapkhfelbpaa
