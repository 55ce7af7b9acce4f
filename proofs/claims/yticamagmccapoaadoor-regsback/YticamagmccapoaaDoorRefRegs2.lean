/- The document's answers of layer 4: Flags, WithFlags, Holds, Boot. -/
import Derived.Test.YticamagmccapoaaDoorRows
import Derived.Test.YticamagmccapoaaDoorBits
import Derived.Test.YticamagmccapoaaDoorGrow
import Derived.Test.YticamagmccapoaaDoorGrow2
import Derived.Test.YticamagmccapoaaDoorRg
import Derived.Deep.QuietTactic
import Derived.BigQuiet
import Derived.Deep.RegionHeld3
import Derived.Deep.DeepCutAuto
import Derived.Test.YticamagmccapoaaDoorRegs3
import Derived.Test.YticamagmccapoaaDoorRefAlu
namespace Go.Proofs.YticamagmccapoaaDoor
open Go.RowKit
set_option linter.unusedVariables false
set_option linter.unusedSimpArgs false

theorem rboot_any (w : World) :
    Calls Tryd.prog 15 #[] w fun e w' => e = .returned (.agg #[.int .u8 1, .int .u8 176, .int .u8 0, .int .u8 19, .int .u8 0, .int .u8 216, .int .u8 1, .int .u8 77, .int .u16 65534, .int .u16 256]) ∧ Grown w w' := by
  go_enter Tryd.func15, Tryd.ntmps15
  go_wp2
  exact bodyPost_ret (v := .agg #[.int .u8 1, .int .u8 176, .int .u8 0, .int .u8 19, .int .u8 0, .int .u8 216, .int .u8 1, .int .u8 77, .int .u16 65534, .int .u16 256]) (by simp [results, Tryd.results15, go_sem]) rfl ⟨rfl, alloc1 _ _ _⟩
end Go.Proofs.YticamagmccapoaaDoor
