/- Layer 16's law ObjectsLines. -/
import Derived.Test.YtaknbjignaefkabLo16l1
import Derived.Test.YtaknbjignaefkabLo16l2
namespace Go.Proofs.Ytaknbjignaefkab
open Go.RowKit
set_option linter.unusedVariables false
set_option linter.unusedSimpArgs false

theorem lines16 (o : Ob) (t : Bool) (w : World) : Calls Try.prog 3 #[obV o, .bool t] w fun e w' => e = .returned (.bool true) ∧ Kept w w' := by
  cases t
  · exact lines16_f o w
  · exact lines16_t o w
end Go.Proofs.Ytaknbjignaefkab
