/- The document's answers of layer 2, over this seat's translation. -/
import Derived.Test.YticamagmccapoaaDoorAlu2
import Derived.Test.YticamagmccapoaaDoorRef
namespace Go.Proofs.YticamagmccapoaaDoor
open Go.RowKit
set_option linter.unusedVariables false
set_option linter.unusedSimpArgs false

theorem rbyte_eq (z n h c : Bool) : wrap64 (wrap64 (wrap64 (worthOf z 128 + worthOf n 64) + worthOf h 32) + worthOf c 16) % 256 = byteOf z n h c := by
  cases z <;> cases n <;> cases h <;> cases c <;> decide +kernel
theorem rof_fin : ∀ b : Fin 256, bitOf (b.val : Int) 7 = flagAt (b.val : Int) 128 ∧ bitOf (b.val : Int) 6 = flagAt (b.val : Int) 64 ∧ bitOf (b.val : Int) 5 = flagAt (b.val : Int) 32 ∧ bitOf (b.val : Int) 4 = flagAt (b.val : Int) 16 := by decide +kernel
end Go.Proofs.YticamagmccapoaaDoor
