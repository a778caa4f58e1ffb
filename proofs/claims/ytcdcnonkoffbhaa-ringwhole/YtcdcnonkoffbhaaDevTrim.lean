/-
  What stands below the texts on devices (code.Trim: Pad).
-/
import Derived.Test.YtcdcnonkoffbhaaRows
import Derived.Test.YtcdcnonkoffbhaaDevModel
import Derived.Test.YtcdcnonkoffbhaaNodeMem
import Derived.Test.YtcdcnonkoffbhaaPad
import Derived.WalkSpells
import Derived.WalkLawsBesides
import Derived.Handy
import Derived.Deep.OwnRows
import Derived.Laws.CopyOwn
namespace Go.Proofs.Ytcdcnonkoffbhaa
open Go.RowKit Plain
set_option linter.unusedVariables false

end Go.Proofs.Ytcdcnonkoffbhaa
