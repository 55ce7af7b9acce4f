/- The example at the head of layer 7's laws, as plain numbers. -/
import Derived.Test.YtfmehkaojfjdjaaDoorRm9
namespace Go.Proofs.YtfmehkaojfjdjaaDoor
open Go.RowKit
set_option linter.unusedVariables false
set_option linter.unusedSimpArgs false

def shT : ByteArray := ⟨#[65]⟩
def shM : List Int := madeL (byL shT) 0 0 0 [118]
theorem sh_e : makeE (byL shT) 0 0 0 [118] = 0 := by decide +kernel
theorem sh_b : makeB (byL shT) 0 0 0 [118] = shM := by unfold makeB; rw [if_pos sh_e]; rfl
theorem sh_len : shM.length = 337 := by decide +kernel
theorem sh_333 : shM.getD 333 0 = 166 := by decide +kernel
theorem sh_in : ∀ x ∈ shM, InByte x := by unfold InByte; decide +kernel
theorem sh_pe : parseE shM = 0 := by decide +kernel
theorem sh_bk : (parseH shM).banks = 2 ∧ (parseH shM).map = 0 := by decide +kernel
theorem sh_ti : (parseH shM).title = ⟨#[65]⟩ := by kernel_rfl
theorem sh_short : parseE (shM.take 335) = 2 := by decide +kernel
theorem sh_tl : (shM.take 335).length = 335 := by decide +kernel
end Go.Proofs.YtfmehkaojfjdjaaDoor
