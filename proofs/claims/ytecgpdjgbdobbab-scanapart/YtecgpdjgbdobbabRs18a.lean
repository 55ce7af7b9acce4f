/- The document's bits, window, cells, ground. -/
import Derived.Test.YtecgpdjgbdobbabPs18a
import Derived.Test.YtecgpdjgbdobbabRtl17
import Derived.Deep.RegionHeld3
namespace Go.Proofs.Ytecgpdjgbdobbab
open Go.RowKit
set_option linter.unusedVariables false
set_option linter.unusedSimpArgs false

end Go.Proofs.Ytecgpdjgbdobbab
