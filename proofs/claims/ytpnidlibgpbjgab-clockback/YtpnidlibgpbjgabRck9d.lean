/- What the document's answers of layer 9 come to: one. -/
import Derived.Test.YtpnidlibgpbjgabRck9
import Derived.Test.YtpnidlibgpbjgabRow7
import Derived.Deep.RegionHeld3
namespace Go.Proofs.Ytpnidlibgpbjgab
open Go.RowKit
set_option linter.unusedVariables false
set_option linter.unusedSimpArgs false

def oneBad (b0 b1 b2 b4 : Int) : Prop := 63 < b0 ∨ 63 < b1 ∨ 31 < b2 ∨ 1 < b4 % 64
def oneC (b0 b1 b2 b3 b4 : Int) : Ck := ⟨b0, b1, b2, b4 % 2 * 256 + b3, b4 / 64 % 2 == 1, decide (128 ≤ b4)⟩
end Go.Proofs.Ytpnidlibgpbjgab
