/- What the calls of layer 1 come to, over this seat's translation: Bit, Put, Turn, Mirror, Ones, Signed, Join, Split. -/
import Derived.Test.YtdimkeknjhdjfabRows
import Derived.Test.YtdimkeknjhdjfabBits
import Derived.WalkLawsBesides
import Derived.WalkSpells
namespace Go.Proofs.Ytdimkeknjhdjfab
open Go.RowKit

end Go.Proofs.Ytdimkeknjhdjfab
