/- The document's answers of layer 2, over this seat's translation. -/
import Derived.Test.YtaphcbhmkejbeaaDoorAlu2
import Derived.Test.YtaphcbhmkejbeaaDoorRef
namespace Go.Proofs.YtaphcbhmkejbeaaDoor
open Go.RowKit
set_option linter.unusedVariables false
set_option linter.unusedSimpArgs false

theorem rworth_any (on : Bool) (much : Int) (w : World) :
    Calls Tryd.prog 47 #[.bool on, .int .i64 much] w fun e w' => e = .returned (.int .i64 (worthOf on much)) ∧ w' = w := by
  cases on
  all_goals
    go_enter Tryd.func47, Tryd.ntmps47
    go_wp2
    go_ret
    exact ⟨rfl, rfl⟩
theorem rbyte_eq (z n h c : Bool) : wrap64 (wrap64 (wrap64 (worthOf z 128 + worthOf n 64) + worthOf h 32) + worthOf c 16) % 256 = byteOf z n h c := by
  cases z <;> cases n <;> cases h <;> cases c <;> decide +kernel
theorem rbyte_any (z n h c : Bool) (w : World) :
    Calls Tryd.prog 40 #[.agg #[.bool z, .bool n, .bool h, .bool c]] w fun e w' => e = .returned (.int .u8 (byteOf z n h c)) ∧ Grown w w' := by
  go_enter Tryd.func40, Tryd.ntmps40
  go_wp2
  go_quiet ((go_at_call 47; exact Calls.quiet_of_same (rworth_any _ _ _)))
  go_wp2
  go_ret
  exact ⟨ret_int (rbyte_eq z n h c), drewN1 (alloc1 _ _ _)⟩
theorem rof_fin : ∀ b : Fin 256, bitOf (b.val : Int) 7 = flagAt (b.val : Int) 128 ∧ bitOf (b.val : Int) 6 = flagAt (b.val : Int) 64 ∧ bitOf (b.val : Int) 5 = flagAt (b.val : Int) 32 ∧ bitOf (b.val : Int) 4 = flagAt (b.val : Int) 16 := by decide +kernel
theorem rof_any (b : Int) (w : World) (h0 : 0 ≤ b) (h1 : b ≤ 255) :
    Calls Tryd.prog 38 #[.int .u8 b] w fun e w' => e = .returned (.agg #[.bool (flagAt b 128), .bool (flagAt b 64), .bool (flagAt b 32), .bool (flagAt b 16)]) ∧ Grown w w' := by
  have E := hid (fin8 (p := fun b => bitOf b 7 = flagAt b 128 ∧ bitOf b 6 = flagAt b 64 ∧ bitOf b 5 = flagAt b 32 ∧ bitOf b 4 = flagAt b 16) rof_fin b h0 h1)
  go_enter Tryd.func38, Tryd.ntmps38
  go_wp2_with (go_at_call 45; refine (rbit_any _ _ _ h0 h1).mono ?_; rintro e w' ⟨rfl, rfl⟩)
  obtain ⟨e1, e2, e3, e4⟩ := E.out
  exact bodyPost_ret (v := .agg #[.bool (bitOf b 7), .bool (bitOf b 6), .bool (bitOf b 5), .bool (bitOf b 4)]) (by simp [results, Tryd.results38, go_sem]) rfl ⟨by rw [e1, e2, e3, e4], alloc1 _ _ _⟩
end Go.Proofs.YtaphcbhmkejbeaaDoor
