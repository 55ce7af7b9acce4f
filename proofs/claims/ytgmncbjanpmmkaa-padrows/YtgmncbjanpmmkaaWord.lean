/- What the calls of layer 1 come to, over this seat's translation: Bit, Put, Turn, Mirror, Ones, Signed, Join, Split. -/
import Derived.Test.YtgmncbjanpmmkaaRows
import Derived.Test.YtgmncbjanpmmkaaBits
import Derived.WalkLawsBesides
import Derived.WalkSpells
namespace Go.Proofs.Ytgmncbjanpmmkaa
open Go.RowKit

end Go.Proofs.Ytgmncbjanpmmkaa
