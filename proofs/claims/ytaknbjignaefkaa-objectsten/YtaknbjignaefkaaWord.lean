/- What the calls of layer 1 come to, over this seat's translation: Bit, Put, Turn, Mirror, Ones, Signed, Join, Split. -/
import Derived.Test.YtaknbjignaefkaaRows
import Derived.Test.YtaknbjignaefkaaBits
import Derived.WalkLawsBesides
import Derived.WalkSpells
namespace Go.Proofs.Ytaknbjignaefkaa
open Go.RowKit

end Go.Proofs.Ytaknbjignaefkaa
