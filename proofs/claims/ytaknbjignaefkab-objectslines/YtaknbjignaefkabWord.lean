/- What the calls of layer 1 come to, over this seat's translation: Bit, Put, Turn, Mirror, Ones, Signed, Join, Split. -/
import Derived.Test.YtaknbjignaefkabRows
import Derived.Test.YtaknbjignaefkabBits
import Derived.WalkLawsBesides
import Derived.WalkSpells
namespace Go.Proofs.Ytaknbjignaefkab
open Go.RowKit

end Go.Proofs.Ytaknbjignaefkab
