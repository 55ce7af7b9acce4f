/- What the calls of layer 1 come to, over this seat's translation: Bit, Put, Turn, Mirror, Ones, Signed, Join, Split. -/
import Derived.Test.YtfgkchmnmnmccaaRows
import Derived.Test.YtfgkchmnmnmccaaBits
import Derived.WalkLawsBesides
import Derived.WalkSpells
namespace Go.Proofs.Ytfgkchmnmnmccaa
open Go.RowKit

end Go.Proofs.Ytfgkchmnmnmccaa
