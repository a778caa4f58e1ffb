/-
  The document's own At, Pack, Unpack and Same.
-/
import Derived.Test.YtmjhapkhfelbpaaBitsBytes
import Derived.BigQuiet
namespace Go.Proofs.Ytmjhapkhfelbpaa
open Go.RowKit Plain
set_option linter.unusedVariables false

end Go.Proofs.Ytmjhapkhfelbpaa
