/- The document's answers of layer 4: Flags, WithFlags, Holds, Boot. -/
import Derived.Test.YtaphcbhmkejbeabDoorRows
import Derived.Test.YtaphcbhmkejbeabDoorBits
import Derived.Test.YtaphcbhmkejbeabDoorGrow
import Derived.Test.YtaphcbhmkejbeabDoorGrow2
import Derived.Test.YtaphcbhmkejbeabDoorRg
import Derived.Deep.QuietTactic
import Derived.BigQuiet
import Derived.Deep.RegionHeld3
import Derived.Deep.DeepCutAuto
import Derived.Test.YtaphcbhmkejbeabDoorRegs3
import Derived.Test.YtaphcbhmkejbeabDoorRefAlu
namespace Go.Proofs.YtaphcbhmkejbeabDoor
open Go.RowKit
set_option linter.unusedVariables false
set_option linter.unusedSimpArgs false

theorem rboot_any (w : World) :
    Calls Tryd.prog 17 #[] w fun e w' => e = .returned (.agg #[.int .u8 1, .int .u8 176, .int .u8 0, .int .u8 19, .int .u8 0, .int .u8 216, .int .u8 1, .int .u8 77, .int .u16 65534, .int .u16 256]) ∧ Grown w w' := by
  go_enter Tryd.func17, Tryd.ntmps17
  go_wp2
  exact bodyPost_ret (v := .agg #[.int .u8 1, .int .u8 176, .int .u8 0, .int .u8 19, .int .u8 0, .int .u8 216, .int .u8 1, .int .u8 77, .int .u16 65534, .int .u16 256]) (by simp [results, Tryd.results17, go_sem]) rfl ⟨rfl, alloc1 _ _ _⟩
end Go.Proofs.YtaphcbhmkejbeabDoor
