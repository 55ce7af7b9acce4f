/- What the calls of layer 1 come to, over this seat's translation: Bit, Put, Turn, Mirror, Ones, Signed, Join, Split. -/
import Derived.Test.YtpgdkoiinigepaaRows
import Derived.Test.YtpgdkoiinigepaaBits
import Derived.WalkLawsBesides
import Derived.WalkSpells
namespace Go.Proofs.Ytpgdkoiinigepaa
open Go.RowKit

end Go.Proofs.Ytpgdkoiinigepaa
