/- The document's objects and dots. -/
import Derived.Test.YtecgpdjgbdobbabG23
import Derived.Test.YtecgpdjgbdobbabG18
namespace Go.Proofs.Ytecgpdjgbdobbab
open Go.RowKit
set_option linter.unusedVariables false
set_option linter.unusedSimpArgs false

end Go.Proofs.Ytecgpdjgbdobbab
