/- What Pattern and late of the document's answers of layer 6 come to. -/
import Derived.Test.YtlchkflpaehgcabDoorCb
import Derived.WalkKit
namespace Go.Proofs.YtlchkflpaehgcabDoor
open Go.RowKit
set_option linter.unusedVariables false
set_option linter.unusedSimpArgs false

end Go.Proofs.YtlchkflpaehgcabDoor
