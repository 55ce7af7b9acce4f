/- What the calls of layer 1 come to, over this seat's translation: Bit, Put, Turn, Mirror, Ones, Signed, Join, Split. -/
import Derived.Test.YtcooghpjdjkmhaaDoorRows
import Derived.Test.YtcooghpjdjkmhaaDoorBits
import Derived.WalkLawsBesides
import Derived.WalkSpells
namespace Go.Proofs.YtcooghpjdjkmhaaDoor
open Go.RowKit

end Go.Proofs.YtcooghpjdjkmhaaDoor
