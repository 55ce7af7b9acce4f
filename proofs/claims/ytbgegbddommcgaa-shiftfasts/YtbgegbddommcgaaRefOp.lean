/- A number of an operation, modulo 8, in the document's answers of layer 2, over this seat's translation. -/
import Derived.Test.YtbgegbddommcgaaRef
import Derived.Test.YtbgegbddommcgaaGrow
namespace Go.Proofs.Ytbgegbddommcgaa
open Go.RowKit
set_option linter.unusedVariables false

theorem rop_any (op : Int) (w : World) (o0 : -9223372036854775808 ≤ op) (o1 : op ≤ 9223372036854775807) :
    Calls Try.prog 26 #[.int .i64 op] w fun e w' => e = .returned (.int .i64 (op % 8)) ∧ w' = w := by
  by_cases hn : op.tmod 8 < 0
  · have hb : op.tmod 8 + 8 = op % 8 := (tmod8 op).1 hn
    have HB := hid hb
    clear hb
    have hl := (tmod8 op).2.2.1
    go_enter Try.func26, Try.ntmps26
    go_wp2
    go_ret
    exact ⟨ret_int HB.out, rfl⟩
  · have hb : op.tmod 8 = op % 8 := (tmod8 op).2.1 hn
    have HB := hid hb
    clear hb
    go_enter Try.func26, Try.ntmps26
    go_wp2
    go_ret
    exact ⟨ret_int HB.out, rfl⟩
end Go.Proofs.Ytbgegbddommcgaa
