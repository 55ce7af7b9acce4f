/- What Inc, Dec, Daa, AddWords and AddSigned of layer 2 come to, over this seat's translation. -/
import Derived.Test.YticamagmccapoaaDoorAlu
namespace Go.Proofs.YticamagmccapoaaDoor
open Go.RowKit

theorem wrapU16 (n : Int) : IntKind.u16.wrap n = n % 65536 := by simp [IntKind.wrap, IntKind.bits, IntKind.signed]
theorem and4095 (a : Int) : bits .and .u16 a 4095 = a % 4096 := by
  have h7 : (BitVec.ofInt 16 4095).toNat = 2 ^ 12 - 1 := by decide
  have key : (BitVec.ofInt 16 a &&& BitVec.ofInt 16 4095).toNat = (a % ((2 ^ 16 : Nat) : Int)).toNat % 2 ^ 12 := by
    rw [BitVec.toNat_and, BitVec.toNat_ofInt, h7, Nat.and_two_pow_sub_one_eq_mod]
  show IntKind.u16.wrap ((BitVec.ofInt 16 a &&& BitVec.ofInt 16 4095).toNat : Nat) = a % 4096
  rw [key, wrapU16]
  omega
theorem i8_fin : ∀ b : Fin 256, IntKind.i8.wrap (b.val : Int) = signedOf (b.val : Int) := by decide +kernel
end Go.Proofs.YticamagmccapoaaDoor
