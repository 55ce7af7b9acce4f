/- The examples at the head of layer 13's laws. -/
import Derived.Test.YtgmncbjanpmmkaaPpd13
namespace Go.Proofs.Ytgmncbjanpmmkaa
open Go.RowKit
set_option linter.unusedVariables false
set_option linter.unusedSimpArgs false

theorem in13 (a b : Int) (h : 0 ≤ a ∧ a ≤ 255 ∧ 0 ≤ b ∧ b ≤ 255) : PdIn ⟨a, b⟩ := ⟨h.1, h.2.1, h.2.2.1, h.2.2.2⟩
theorem st13_a : stepP ⟨32, 15⟩ 1 = ⟨32, 14⟩ := by rfl
theorem st13_b : stepP ⟨32, 14⟩ 1 = ⟨32, 14⟩ := by rfl
theorem as13_a : askP ⟨32, 15⟩ 1 = true := by rfl
theorem as13_b : askP ⟨32, 14⟩ 1 = false := by rfl
theorem rd13_a : readP ⟨32, 0⟩ 1 = 238 := by rfl
theorem rd13_b : readP ⟨48, 0⟩ 255 = 255 := by rfl
set_option maxRecDepth 100000 in
set_option maxHeartbeats 4000000 in
theorem kshown13 (w : World) : Calls Try.prog 8 #[] w fun e w' => e = .returned (.bool true) ∧ Kept w w' := by
  have A0 : ∀ u, Calls Try.prog 15 #[.agg #[.int .u8 32, .int .u8 15], .int .u8 1] u fun e w' => e = .returned (.tuple #[.agg #[.int .u8 32, .int .u8 14], .bool true]) ∧ Kept u w' := fun u => by have q := pstep13 ⟨32, 15⟩ 1 u (in13 _ _ (by decide)) (by decide) (by decide); rw [st13_a, as13_a] at q; exact q
  have B0 : ∀ u, Calls Try.prog 15 #[.agg #[.int .u8 32, .int .u8 14], .int .u8 1] u fun e w' => e = .returned (.tuple #[.agg #[.int .u8 32, .int .u8 14], .bool false]) ∧ Kept u w' := fun u => by have q := pstep13 ⟨32, 14⟩ 1 u (in13 _ _ (by decide)) (by decide) (by decide); rw [st13_b, as13_b] at q; exact q
  have C0 : ∀ u, Calls Try.prog 11 #[.agg #[.int .u8 32, .int .u8 0], .int .u8 1] u fun e w' => e = .returned (.int .u8 238) ∧ Kept u w' := fun u => by have q := pread13 ⟨32, 0⟩ 1 u (in13 _ _ (by decide)) (by decide) (by decide); rw [rd13_a] at q; exact q
  have D0 : ∀ u, Calls Try.prog 11 #[.agg #[.int .u8 48, .int .u8 0], .int .u8 255] u fun e w' => e = .returned (.int .u8 255) ∧ Kept u w' := fun u => by have q := pread13 ⟨48, 0⟩ 255 u (in13 _ _ (by decide)) (by decide) (by decide); rw [rd13_b] at q; exact q
  have A := hid A0
  have B := hid B0
  have C := hid C0
  have D := hid D0
  clear A0 B0 C0 D0
  go_enter Try.func8, Try.ntmps8
  go_wp2_with fail
  refine (A.out _).mono ?_
  rintro e u1 ⟨rfl, k1⟩
  have K1 := hid (k1.alloc (.cells ([.int .u8 32, .int .u8 14] : List Value).toArray 23))
  have P1 := hid (blk_new u1 [.int .u8 32, .int .u8 14] 23)
  clear k1
  go_wp2_with fail
  refine (B.out _).mono ?_
  rintro e u2 ⟨rfl, k2⟩
  have K2 := hid ((K1.out.trans k2).alloc (.cells ([.int .u8 32, .int .u8 14] : List Value).toArray 23))
  have Q1 := hid (blk_past (blk_kept k2 P1.out) (.cells ([.int .u8 32, .int .u8 14] : List Value).toArray 23))
  have Q2 := hid (blk_new u2 [.int .u8 32, .int .u8 14] 23)
  have n1 : u1.heap.size ≠ u2.heap.size := by have := blk_lt (blk_kept k2 P1.out); omega
  clear k2 P1 K1
  go_wp2_with fail
  refine (C.out _).mono ?_
  rintro e u3 ⟨rfl, k3⟩
  have K3 := hid (K2.out.trans k3)
  have Q3 := hid (blk_kept k3 Q1.out)
  have Q4 := hid (blk_kept k3 Q2.out)
  clear k3 Q1 Q2 K2
  go_wp2_with fail
  refine (D.out _).mono ?_
  rintro e u4 ⟨rfl, k4⟩
  have K4 := hid (K3.out.trans k4)
  have c1 := blk_cell (blk_kept k4 Q3.out)
  have c2 := blk_cell (blk_kept k4 Q4.out)
  clear k4 Q3 Q4 K3
  go_wp2
  go_ret
  exact ⟨rfl, K4.out⟩
end Go.Proofs.Ytgmncbjanpmmkaa
