/- What the document's answers of layer 17 come to. -/
import Derived.Test.YtecgpdjgbdobbabPtl17
namespace Go.Proofs.Ytecgpdjgbdobbab
open Go.RowKit
set_option linter.unusedVariables false
set_option linter.unusedSimpArgs false

end Go.Proofs.Ytecgpdjgbdobbab
