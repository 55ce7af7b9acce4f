/- What the calls of layer 1 come to, over this seat's translation: Bit, Put, Turn, Mirror, Ones, Signed, Join, Split. -/
import Derived.Test.YtdimkeknjhdjfaaRows
import Derived.Test.YtdimkeknjhdjfaaBits
import Derived.WalkLawsBesides
import Derived.WalkSpells
namespace Go.Proofs.Ytdimkeknjhdjfaa
open Go.RowKit

end Go.Proofs.Ytdimkeknjhdjfaa
