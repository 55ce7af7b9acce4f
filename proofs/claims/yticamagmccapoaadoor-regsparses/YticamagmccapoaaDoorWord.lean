/- What the calls of layer 1 come to, over this seat's translation: Bit, Put, Turn, Mirror, Ones, Signed, Join, Split. -/
import Derived.Test.YticamagmccapoaaDoorRows
import Derived.Test.YticamagmccapoaaDoorBits
import Derived.WalkLawsBesides
import Derived.WalkSpells
namespace Go.Proofs.YticamagmccapoaaDoor
open Go.RowKit

end Go.Proofs.YticamagmccapoaaDoor
