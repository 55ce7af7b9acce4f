/- What the calls of layer 1 come to, over this seat's translation: Bit, Put, Turn, Mirror, Ones, Signed, Join, Split. -/
import Derived.Test.YtaphcbhmkejbeaaDoorRows
import Derived.Test.YtaphcbhmkejbeaaDoorBits
import Derived.WalkLawsBesides
import Derived.WalkSpells
namespace Go.Proofs.YtaphcbhmkejbeaaDoor
open Go.RowKit

end Go.Proofs.YtaphcbhmkejbeaaDoor
