/- What the document's answers of layer 9 come to: Write, Run. -/
import Derived.Test.YtpnidlibgpbjgabRck9b
namespace Go.Proofs.Ytpnidlibgpbjgab
open Go.RowKit
set_option linter.unusedVariables false
set_option linter.unusedSimpArgs false

end Go.Proofs.Ytpnidlibgpbjgab
