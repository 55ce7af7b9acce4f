/- What the document's answers of layer 9 come to: Norm, Tick. -/
import Derived.Test.YtpnidlibgpbjgabCk9
import Derived.Test.YtpnidlibgpbjgabChecked
import Derived.Deep.QuietTactic
import Derived.BigQuiet
namespace Go.Proofs.Ytpnidlibgpbjgab
open Go.RowKit
set_option linter.unusedVariables false
set_option linter.unusedSimpArgs false

abbrev ckV (c : Ck) : Value := .agg #[.int .u8 c.sec, .int .u8 c.min, .int .u8 c.hour, .int .u16 c.day, .bool c.halt, .bool c.carry]
def onC (v last width : Int) : Int := if v = last then 0 else (v + 1) % width
end Go.Proofs.Ytpnidlibgpbjgab
