/- The examples at the head of layer 14's laws. -/
import Derived.Test.YtfgkchmnmnmccaaRiq14
import Derived.Test.YtfgkchmnmnmccaaPfi14
namespace Go.Proofs.Ytfgkchmnmnmccaa
open Go.RowKit
set_option linter.unusedVariables false
set_option linter.unusedSimpArgs false

theorem in14 (a b : Int) (h : 0 ≤ a ∧ a ≤ 255 ∧ 0 ≤ b ∧ b ≤ 255) : IqIn ⟨a, b⟩ := ⟨h.1, h.2.1, h.2.2.1, h.2.2.2⟩
set_option maxRecDepth 100000 in
set_option maxHeartbeats 4000000 in
theorem kshown14 (w : World) : Calls Try.prog 9 #[] w fun e w' => e = .returned (.bool true) ∧ Kept w w' := by
  have A0 : ∀ u, Calls Try.prog 12 #[.agg #[.int .u8 21, .int .u8 28]] u fun e w' => e = .returned (.int .u8 20) ∧ Kept u w' := fun u => by have q := ppend14 ⟨21, 28⟩ u (in14 _ _ (by decide)); rw [show pendP 21 28 = 20 by decide +kernel] at q; exact q
  have B0 : ∀ u, Calls Try.prog 10 #[.int .u8 20] u fun e w' => e = .returned (.tuple #[.int .i64 2, .bool true]) ∧ Kept u w' := fun u => by have q := pfirst14 20 u (by decide) (by decide); rw [show firstP 20 = 2 by decide +kernel, show isP 20 = true by decide +kernel] at q; exact q
  have C0 : ∀ u, Calls Try.prog 16 #[.int .i64 2] u fun e w' => e = .returned (.tuple #[.int .u16 80, .int .i64 0]) ∧ w' = u := fun u => by have q := pvec14 2 u; rw [show vecV 2 = 80 by decide +kernel, show vecE 2 = 0 by decide +kernel] at q; exact q
  have D0 : ∀ u, Calls Try.prog 22 #[.agg #[.int .u8 1, .int .u8 0], .int .u16 65295] u fun e w' => e = .returned (.int .u8 225) ∧ Kept u w' := fun u => by have q := pread14 ⟨1, 0⟩ 65295 u (in14 _ _ (by decide)); rw [show readI ⟨1, 0⟩ 65295 = 225 by decide +kernel] at q; exact q
  have A := hid A0
  have B := hid B0
  have C := hid C0
  have D := hid D0
  clear A0 B0 C0 D0
  go_enter Try.func9, Try.ntmps9
  go_wp2_with fail
  refine (A.out _).mono ?_
  rintro e u1 ⟨rfl, k1⟩
  have K1 := hid k1
  clear k1
  go_wp2_with fail
  refine (B.out _).mono ?_
  rintro e u2 ⟨rfl, k2⟩
  have K2 := hid (K1.out.trans k2)
  clear k2 K1
  go_wp2_with fail
  refine (C.out _).mono ?_
  rintro e u3 ⟨rfl, rfl⟩
  go_wp2_with fail
  refine (D.out _).mono ?_
  rintro e u4 ⟨rfl, k4⟩
  have K4 := hid (K2.out.trans k4)
  clear k4 K2
  go_wp2
  go_ret
  exact ⟨rfl, K4.out⟩
end Go.Proofs.Ytfgkchmnmnmccaa
