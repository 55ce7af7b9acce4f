/- What the calls of layer 1 come to, over this seat's translation: Bit, Put, Turn, Mirror, Ones, Signed, Join, Split. -/
import Derived.Test.YtbflhpffojlpgaaDoorRows
import Derived.Test.YtbflhpffojlpgaaDoorBits
import Derived.WalkLawsBesides
import Derived.WalkSpells
namespace Go.Proofs.YtbflhpffojlpgaaDoor
open Go.RowKit

end Go.Proofs.YtbflhpffojlpgaaDoor
