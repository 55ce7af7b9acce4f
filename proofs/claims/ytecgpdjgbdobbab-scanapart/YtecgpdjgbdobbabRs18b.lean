/- The document's objects and dots. -/
import Derived.Test.YtecgpdjgbdobbabRs18a
import Derived.Test.YtecgpdjgbdobbabSl16
namespace Go.Proofs.Ytecgpdjgbdobbab
open Go.RowKit
set_option linter.unusedVariables false
set_option linter.unusedSimpArgs false

end Go.Proofs.Ytecgpdjgbdobbab
