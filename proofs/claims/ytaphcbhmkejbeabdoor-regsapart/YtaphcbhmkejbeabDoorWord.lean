/- What the calls of layer 1 come to, over this seat's translation: Bit, Put, Turn, Mirror, Ones, Signed, Join, Split. -/
import Derived.Test.YtaphcbhmkejbeabDoorRows
import Derived.Test.YtaphcbhmkejbeabDoorBits
import Derived.WalkLawsBesides
import Derived.WalkSpells
namespace Go.Proofs.YtaphcbhmkejbeabDoor
open Go.RowKit

end Go.Proofs.YtaphcbhmkejbeabDoor
