/- What the calls of layer 5 come to, over this seat's translation: the smaller ones. -/
import Derived.Test.YtbflhpffojlpgaaDoorChecked
import Derived.Test.YtbflhpffojlpgaaDoorOp
import Derived.Test.YtbflhpffojlpgaaDoorGrow2
import Derived.Deep.QuietTactic
import Derived.BigQuiet
import Derived.Deep.RegionHeld3
import Derived.Deep.DeepCutAuto
namespace Go.Proofs.YtbflhpffojlpgaaDoor
open Go.RowKit
set_option linter.unusedVariables false
set_option linter.unusedSimpArgs false

theorem quarter_any (op : Int) (w : World) (h0 : 0 ≤ op) (h1 : op ≤ 255) : Calls Tryd.prog 26 #[.int .u8 op] w fun e w' => e = .returned (.int .i64 (op / 64)) ∧ w' = w := by
  go_enter Tryd.func26, Tryd.ntmps26
  go_wp2
  go_ret
  exact ⟨rfl, rfl⟩
theorem and7_fin : ∀ a : Fin 256, bits .and .u8 ((a.val : Int) / 8) 7 = (a.val : Int) / 8 % 8 ∧ bits .and .u8 (a.val : Int) 7 = (a.val : Int) % 8 := by decide +kernel
theorem letters_any (op : Int) (w : World) (h0 : 0 ≤ op) (h1 : op ≤ 255) : Calls Tryd.prog 31 #[.int .u8 op] w fun e w' => e = .returned (.tuple #[.int .i64 (op / 8 % 8), .int .i64 (op % 8)]) ∧ w' = w := by
  obtain ⟨a7, b7⟩ := fin8 (p := fun a => bits .and .u8 (a / 8) 7 = a / 8 % 8 ∧ bits .and .u8 a 7 = a % 8) and7_fin op h0 h1
  go_enter Tryd.func31, Tryd.ntmps31
  go_wp2
  go_ret2
  exact ⟨rfl, rfl⟩
theorem steady_any (k x y b c : Int) (w : World) : Calls Tryd.prog 32 #[.int .i64 k, .int .i64 x, .int .i64 y, .int .i64 b, .int .i64 c] w fun e w' => e = .returned (.agg #[.int .i64 k, .int .i64 x, .int .i64 y, .int .i64 b, .int .i64 c, .int .i64 c]) ∧ Grown w w' := by
  go_enter Tryd.func32, Tryd.ntmps32
  go_wp2
  exact bodyPost_ret (v := .agg #[.int .i64 k, .int .i64 x, .int .i64 y, .int .i64 b, .int .i64 c, .int .i64 c]) (by simp [results, Tryd.results32, go_sem]) rfl ⟨rfl, alloc1 _ _ _⟩
set_option maxRecDepth 100000 in
theorem tz0_any (w : World) : Calls Tryd.prog 46 #[.int .u8 0] w fun e w' => e = .returned (.int .i64 8) ∧ w' = w := by
  go_enter Tryd.func46, Tryd.ntmps46
  go_wp2
  go_ret
  exact ⟨by kernel_rfl, rfl⟩
set_option maxRecDepth 100000 in
theorem tz24_any (w : World) : Calls Tryd.prog 46 #[.int .u8 24] w fun e w' => e = .returned (.int .i64 3) ∧ w' = w := by
  go_enter Tryd.func46, Tryd.ntmps46
  go_wp2
  go_ret
  exact ⟨by kernel_rfl, rfl⟩
set_option maxRecDepth 100000 in
theorem tz48_any (w : World) : Calls Tryd.prog 46 #[.int .u8 48] w fun e w' => e = .returned (.int .i64 4) ∧ w' = w := by
  go_enter Tryd.func46, Tryd.ntmps46
  go_wp2
  go_ret
  exact ⟨by kernel_rfl, rfl⟩
set_option maxRecDepth 100000 in
theorem tz56_any (w : World) : Calls Tryd.prog 46 #[.int .u8 56] w fun e w' => e = .returned (.int .i64 3) ∧ w' = w := by
  go_enter Tryd.func46, Tryd.ntmps46
  go_wp2
  go_ret
  exact ⟨by kernel_rfl, rfl⟩
end Go.Proofs.YtbflhpffojlpgaaDoor
