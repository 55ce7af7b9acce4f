/- What the document's answers of layer 8 come to. -/
import Derived.Test.YtoehmmieceobeabRmp8w1
import Derived.Test.YtoehmmieceobeabRmp8w3
import Derived.Test.YtoehmmieceobeabRmp8w5
import Derived.Test.YtoehmmieceobeabRmp8w0
import Derived.Test.YtoehmmieceobeabChecked
import Derived.Deep.QuietTactic
import Derived.BigQuiet
namespace Go.Proofs.Ytoehmmieceobeab
open Go.RowKit
set_option linter.unusedVariables false
set_option linter.unusedSimpArgs false

abbrev mpV (m : Mp) : Value := .agg #[.int .i64 m.kind, .bool m.op, .int .u8 m.low, .int .u8 m.high, .int .u8 m.ram, .bool m.mode]
theorem zone_of (a : Int) : zone a = 0 ∧ a < 8192 ∨ zone a = 1 ∧ 8192 ≤ a ∧ a < 12288 ∨ zone a = 2 ∧ 12288 ≤ a ∧ a < 16384 ∨ zone a = 3 ∧ 16384 ≤ a ∧ a < 24576 ∨ zone a = 4 ∧ 24576 ≤ a ∧ a < 32768 ∨ zone a = 5 ∧ 32768 ≤ a := by
  unfold zone
  repeat' split
  all_goals omega
def halfOk (h : Nat) (a : Int) : Prop := h = 0 ∧ a < 16384 ∨ h = 1 ∧ 16384 ≤ a ∧ a < 32768 ∨ h = 2 ∧ 32768 ≤ a
end Go.Proofs.Ytoehmmieceobeab
