/- What the calls of layer 2 come to, over this seat's translation. -/
import Derived.Test.YticamagmccapoaaDoorRows
import Derived.Test.YticamagmccapoaaDoorBits
import Derived.Test.YticamagmccapoaaDoorGrow
import Derived.Deep.QuietTactic
import Derived.BigQuiet
namespace Go.Proofs.YticamagmccapoaaDoor
open Go.RowKit

def worthOf (on : Bool) (much : Int) : Int := bif on then much else 0
theorem worth_any (on : Bool) (much : Int) (w : World) :
    Calls Tryd.prog 35 #[.bool on, .int .u8 much] w fun e w' => e = .returned (.int .u8 (worthOf on much)) ∧ w' = w := by
  cases on
  all_goals
    go_enter Tryd.func35, Tryd.ntmps35
    go_wp2
    go_ret
    exact ⟨rfl, rfl⟩

def byteOf (z n h c : Bool) : Int := worthOf z 128 + worthOf n 64 + worthOf h 32 + worthOf c 16
theorem byte_or (z n h c : Bool) : bits .or .u8 (bits .or .u8 (bits .or .u8 (worthOf z 128) (worthOf n 64)) (worthOf h 32)) (worthOf c 16) = byteOf z n h c := by
  cases z <;> cases n <;> cases h <;> cases c <;> decide +kernel
theorem byte_any (z n h c : Bool) (w : World) :
    Calls Tryd.prog 26 #[.agg #[.bool z, .bool n, .bool h, .bool c]] w fun e w' => e = .returned (.int .u8 (byteOf z n h c)) ∧ Grown w w' := by
  go_enter Tryd.func26, Tryd.ntmps26
  go_wp2
  go_quiet ((go_at_call 35; exact Calls.quiet_of_same (worth_any _ _ _)))
  go_wp2
  go_ret
  exact ⟨ret_int (byte_or z n h c), drewN1 (alloc1 _ _ _)⟩
def flagAt (b k : Int) : Bool := b / k % 2 == 1
theorem of_fin : ∀ b : Fin 256, (bits .and .u8 (b.val : Int) 128 != 0) = flagAt (b.val : Int) 128 ∧ (bits .and .u8 (b.val : Int) 64 != 0) = flagAt (b.val : Int) 64 ∧ (bits .and .u8 (b.val : Int) 32 != 0) = flagAt (b.val : Int) 32 ∧ (bits .and .u8 (b.val : Int) 16 != 0) = flagAt (b.val : Int) 16 := by decide +kernel
theorem of_any (b : Int) (w : World) (h0 : 0 ≤ b) (h1 : b ≤ 255) :
    Calls Tryd.prog 27 #[.int .u8 b] w fun e w' => e = .returned (.agg #[.bool (flagAt b 128), .bool (flagAt b 64), .bool (flagAt b 32), .bool (flagAt b 16)]) ∧ Grown w w' := by
  have E := hid (fin8 (p := fun b => (bits .and .u8 b 128 != 0) = flagAt b 128 ∧ (bits .and .u8 b 64 != 0) = flagAt b 64 ∧ (bits .and .u8 b 32 != 0) = flagAt b 32 ∧ (bits .and .u8 b 16 != 0) = flagAt b 16) of_fin b h0 h1)
  go_enter Tryd.func27, Tryd.ntmps27
  go_wp2
  obtain ⟨e1, e2, e3, e4⟩ := E.out
  exact bodyPost_ret (v := .agg #[.bool (bits .and .u8 b 128 != 0), .bool (bits .and .u8 b 64 != 0), .bool (bits .and .u8 b 32 != 0), .bool (bits .and .u8 b 16 != 0)]) (by simp [results, Tryd.results27, go_sem]) rfl ⟨by rw [e1, e2, e3, e4], alloc1 _ _ _⟩
theorem not_fin : ∀ b : Fin 256, bits .xor .u8 IntKind.u8.max (b.val : Int) = 255 - (b.val : Int) := by decide +kernel
end Go.Proofs.YticamagmccapoaaDoor
