/- What names and capital of the document's answers of layer 4 come to. -/
import Derived.Test.YticamagmccapoaaDoorRgText
import Derived.Test.YticamagmccapoaaDoorRefRead
import Derived.Test.YticamagmccapoaaDoorRefRegs
import Derived.Test.YticamagmccapoaaDoorParse2
namespace Go.Proofs.YticamagmccapoaaDoor
open Go.RowKit
set_option linter.unusedVariables false
set_option linter.unusedSimpArgs false

theorem names_any (k : Nat) (w : World) (hk : k < 6) : Calls Tryd.prog 19 #[.int .i64 (k : Int)] w fun e w' => e = .returned (.string (name3 k)) ∧ w' = w := by
  rcases (show k = 0 ∨ k = 1 ∨ k = 2 ∨ k = 3 ∨ k = 4 ∨ k = 5 by omega) with rfl | rfl | rfl | rfl | rfl | rfl
  all_goals
    go_enter Tryd.func19, Tryd.ntmps19
    go_wp2
    go_ret
    exact ⟨by kernel_rfl, rfl⟩
theorem capital_any (c : Int) (w : World) : Calls Tryd.prog 20 #[.int .u8 c] w fun e w' => e = .returned (.bool (capOf c)) ∧ w' = w := by
  by_cases h0 : c < 48
  · have E := hid (show capOf c = false by simp [capOf]; omega)
    go_enter Tryd.func20, Tryd.ntmps20
    go_wp2
    go_ret
    exact ⟨ret_bool E.out.symm, rfl⟩
  by_cases h1 : c ≤ 57
  · have E := hid (show capOf c = true by simp [capOf]; omega)
    go_enter Tryd.func20, Tryd.ntmps20
    go_wp2
    go_ret
    exact ⟨ret_bool E.out.symm, rfl⟩
  by_cases h2 : c < 65
  · have E := hid (show capOf c = false by simp [capOf]; omega)
    go_enter Tryd.func20, Tryd.ntmps20
    go_wp2
    go_ret
    exact ⟨ret_bool E.out.symm, rfl⟩
  by_cases h3 : c ≤ 70
  · have E := hid (show capOf c = true by simp [capOf]; omega)
    go_enter Tryd.func20, Tryd.ntmps20
    go_wp2
    go_ret
    exact ⟨ret_bool E.out.symm, rfl⟩
  have E := hid (show capOf c = false by simp [capOf]; omega)
  go_enter Tryd.func20, Tryd.ntmps20
  go_wp2
  go_ret
  exact ⟨ret_bool E.out.symm, rfl⟩
theorem sign_run (s : ByteArray) (k : Nat) (i c : Int) (h : k < s.size) (hi : i = (k : Int)) (e : byteAt s k = c) : ∀ u, (Instr.index 9 (.string s) (.int .i64 i)).run Tryd.prog u = .ok (.int .u8 c) u := by
  intro u
  subst hi
  rw [run_index_string u 9 s .i64 (k : Int) (by kernel_rfl), dif_pos ⟨by omega, by omega⟩, ← e, byteAt_get s k h]
  rfl
end Go.Proofs.YticamagmccapoaaDoor
