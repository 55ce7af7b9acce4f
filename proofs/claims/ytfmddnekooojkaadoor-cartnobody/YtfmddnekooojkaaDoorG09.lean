/- What the document's answers of layer 8 come to: Write, kind 3. What the document's answers of layer 8 come to: Write, kind 5. What the document's answers of layer 8 come to: Write, kind any other. -/
import Derived.Test.YtfmddnekooojkaaDoorG04
import Derived.Test.YtfmddnekooojkaaDoorChecked
import Derived.Deep.QuietTactic
import Derived.BigQuiet
namespace Go.Proofs.YtfmddnekooojkaaDoor
open Go.RowKit
set_option linter.unusedVariables false
set_option linter.unusedSimpArgs false

end Go.Proofs.YtfmddnekooojkaaDoor
namespace Go.Proofs.YtfmddnekooojkaaDoor
open Go.RowKit
set_option linter.unusedVariables false
set_option linter.unusedSimpArgs false

end Go.Proofs.YtfmddnekooojkaaDoor
namespace Go.Proofs.YtfmddnekooojkaaDoor
open Go.RowKit
set_option linter.unusedVariables false
set_option linter.unusedSimpArgs false

end Go.Proofs.YtfmddnekooojkaaDoor
