/- What the calls of layer 1 come to, over this seat's translation: Signed, Join, Split, digit, Hex8, Hex16. -/
import Derived.Test.YtbflhpffojlpgaaDoorWord
import Derived.Test.YtbflhpffojlpgaaDoorGrow
namespace Go.Proofs.YtbflhpffojlpgaaDoor
open Go.RowKit

theorem signed_fin : ∀ a : Fin 256, IntKind.i64.wrap (IntKind.i8.wrap (a.val : Int)) = signedOf (a.val : Int) := by decide +kernel
theorem signed_wrap (a : Int) (h0 : 0 ≤ a) (h1 : a ≤ 255) : wrap64 (IntKind.i8.wrap a) = signedOf a := by
  have e := fin8 (p := fun a => IntKind.i64.wrap (IntKind.i8.wrap a) = signedOf a) signed_fin a h0 h1
  rw [← e, IntKind.wrap_i64]
  unfold wrap64
  rfl
theorem or_join (a b : Int) (h0 : 0 ≤ a) (h1 : a ≤ 255) (h2 : 0 ≤ b) (h3 : b ≤ 255) : bits .or .u16 (a * 256) b = a * 256 + b := by
  obtain ⟨x, rfl⟩ := Int.eq_ofNat_of_zero_le h0
  obtain ⟨y, rfl⟩ := Int.eq_ofNat_of_zero_le h2
  rw [u16_or _ _ (by omega) (by omega) (by omega) (by omega)]
  have e1 : ((x : Int) * 256).toNat = x * 256 := by omega
  have e2 : ((y : Int)).toNat = y := by omega
  rw [e1, e2, nat_join 8 (x * 256) y (by omega) (by omega)]
  omega
def hexs : List UInt8 := [48, 49, 50, 51, 52, 53, 54, 55, 56, 57, 65, 66, 67, 68, 69, 70]
def hexc (n : Int) : UInt8 := hexs.getD n.toNat 0
def hex8Of (a : Int) : ByteArray := ⟨#[hexc (a / 16), hexc (a % 16)]⟩
theorem hex_get (i : Nat) (h : i < (ByteArray.mk #[48, 49, 50, 51, 52, 53, 54, 55, 56, 57, 65, 66, 67, 68, 69, 70]).size) :
    (ByteArray.mk #[48, 49, 50, 51, 52, 53, 54, 55, 56, 57, 65, 66, 67, 68, 69, 70])[i]'h = hexs.getD i 0 := by
  have e : ∀ k : Fin 16, (ByteArray.mk #[48, 49, 50, 51, 52, 53, 54, 55, 56, 57, 65, 66, 67, 68, 69, 70])[k.val]'(by exact k.isLt) = hexs.getD k.val 0 := by decide +kernel
  exact e ⟨i, h⟩
theorem ret_str {a b : ByteArray} (h : a = b) : Ending.returned (.string a) = .returned (.string b) := by rw [h]
def hex16Of (a : Int) : ByteArray := hex8Of (a / 256) ++ hex8Of (a % 256)
def dokOf (r : Int) : Bool := (decide (48 ≤ r) && decide (r ≤ 57)) || (decide (65 ≤ r) && decide (r ≤ 70)) || (decide (97 ≤ r) && decide (r ≤ 102))
def dvalOf (r : Int) : Int := if 48 ≤ r ∧ r ≤ 57 then r - 48 else if 65 ≤ r ∧ r ≤ 70 then r - 55 else if 97 ≤ r ∧ r ≤ 102 then r - 87 else 0
end Go.Proofs.YtbflhpffojlpgaaDoor
