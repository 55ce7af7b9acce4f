/- The document's examples that each statement of layer 3 asks first: they come out true, over this seat's translation. -/
import Derived.Test.YtbgegbddommcgabFast
namespace Go.Proofs.Ytbgegbddommcgab
open Go.RowKit
set_option linter.unusedVariables false
set_option linter.unusedSimpArgs false

set_option maxHeartbeats 2000000 in
theorem shown3_any (w : World) : Calls Try.prog 4 #[] w fun e w' => e = .returned (.bool true) ∧ Grown w w' := by
  have d1 := hid (show shOf 0 133 false = 11 by decide +kernel)
  have d2 := hid (show shOut 0 133 = true by decide +kernel)
  have d3 := hid (show shOf 3 1 false = 0 by decide +kernel)
  have d4 := hid (show shOut 3 1 = true by decide +kernel)
  have d5 := hid (show shOf 2 149 true = 43 by decide +kernel)
  have d6 := hid (show shOut 2 149 = true by decide +kernel)
  have d7 := hid (show bitOf 128 (7 % 8) = true by decide +kernel)
  have d8 := hid (show putOf 0 (1 % 8) true = 2 by decide +kernel)
  go_enter Try.func4, Try.ntmps4
  go_wp2_with fail
  refine (do_any _ 0 _ _ _ _ _ _ (by decide) (by decide) (by decide)).mono ?_
  rintro e u1 ⟨rfl, g1⟩
  rw [d1.out, d2.out]
  have G1 := hid (grown_trans (Grown.refl w) g1)
  go_wp2_with fail
  refine (do_any _ 3 _ _ _ _ _ _ (by decide) (by decide) (by decide)).mono ?_
  rintro e u2 ⟨rfl, g2⟩
  rw [d3.out, d4.out]
  have B2n0x2 := has_grown g2 (has_alloc _ _ _)
  obtain ⟨zB2n0x2, cB2n0x2⟩ := id B2n0x2
  have G2 := hid (grown_trans (G1.out.alloc _ _) g2)
  go_wp2_with fail
  refine (fast_any _ 2 _ _ _ _ _ _ (by decide) (by decide) (by decide)).mono ?_
  rintro e u3 ⟨rfl, g3⟩
  rw [d5.out, d6.out]
  have B2n0x3 := has_grown g3 (has_past B2n0x2 _)
  have B3n0x3 := has_grown g3 (has_alloc _ _ _)
  obtain ⟨zB2n0x3, cB2n0x3⟩ := id B2n0x3
  obtain ⟨zB3n0x3, cB3n0x3⟩ := id B3n0x3
  have G3 := hid (grown_trans (G2.out.alloc _ _) g3)
  go_wp2_with fail
  refine (test_any _ _ _ _ _ _ _ (by decide) (by decide)).mono ?_
  rintro e u4 ⟨rfl, g4⟩
  rw [d7.out]
  have B2n0x4 := has_grown g4 (has_past B2n0x3 _)
  have B3n0x4 := has_grown g4 (has_past B3n0x3 _)
  have B4n0x4 := has_grown g4 (has_alloc _ _ _)
  obtain ⟨zB2n0x4, cB2n0x4⟩ := id B2n0x4
  obtain ⟨zB3n0x4, cB3n0x4⟩ := id B3n0x4
  obtain ⟨zB4n0x4, cB4n0x4⟩ := id B4n0x4
  have G4 := hid (grown_trans (G3.out.alloc _ _) g4)
  go_wp2_with fail
  refine (set_any _ _ _ (by decide) (by decide)).mono ?_
  rintro e v0 ⟨rfl, rfl⟩
  rw [d8.out]
  go_wp2
  go_ret
  exact ⟨rfl, G4.out⟩
end Go.Proofs.Ytbgegbddommcgab
