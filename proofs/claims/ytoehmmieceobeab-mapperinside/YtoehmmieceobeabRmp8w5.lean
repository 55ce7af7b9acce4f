/- What the document's answers of layer 8 come to: Write, kind 5. -/
import Derived.Test.YtoehmmieceobeabMp8
import Derived.Test.YtoehmmieceobeabChecked
import Derived.Deep.QuietTactic
import Derived.BigQuiet
namespace Go.Proofs.Ytoehmmieceobeab
open Go.RowKit
set_option linter.unusedVariables false
set_option linter.unusedSimpArgs false

end Go.Proofs.Ytoehmmieceobeab
