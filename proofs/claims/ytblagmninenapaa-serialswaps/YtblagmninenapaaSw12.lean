/- The examples at the head of layer 12's laws. -/
import Derived.Test.YtblagmninenapaaPsr12
import Derived.Test.YtblagmninenapaaBk
namespace Go.Proofs.Ytblagmninenapaa
open Go.RowKit
set_option linter.unusedVariables false
set_option linter.unusedSimpArgs false

theorem in_a12 : SrIn ⟨0, 0, 0, 0⟩ := ⟨by decide, by decide, by decide, by decide, by decide, by decide, by decide, by decide⟩
theorem in_b12 : SrIn ⟨128, 128, 2, 0⟩ := ⟨by decide, by decide, by decide, by decide, by decide, by decide, by decide, by decide⟩
theorem wr_a12 : writeS ⟨0, 0, 0, 0⟩ 65282 129 = ⟨0, 129, 8, 0⟩ := by rfl
theorem st_b12 : stepS ⟨128, 128, 2, 0⟩ true true = ⟨1, 128, 1, 0⟩ := by rfl
set_option maxRecDepth 100000 in
set_option maxHeartbeats 4000000 in
theorem kshown12 (w : World) : Calls Try.prog 9 #[] w fun e w' => e = .returned (.bool true) ∧ Kept w w' := by
  have A0 : ∀ u, Calls Try.prog 14 #[.agg #[.int .u8 0, .int .u8 0, .int .u8 0, .int .u8 0], .int .u16 65282, .int .u8 129] u fun e w' => e = .returned (.agg #[.int .u8 0, .int .u8 129, .int .u8 8, .int .u8 0]) ∧ Kept u w' := fun u => by have q := pwrite12 ⟨0, 0, 0, 0⟩ 65282 129 u in_a12 (by decide) (by decide) (by decide) (by decide); rw [wr_a12] at q; exact q
  have A := hid A0
  have B0 : ∀ u, Calls Try.prog 10 #[.agg #[.int .u8 128, .int .u8 128, .int .u8 2, .int .u8 0], .bool true, .bool true] u fun e w' => e = .returned (.tuple #[.agg #[.int .u8 1, .int .u8 128, .int .u8 1, .int .u8 0], .bool true, .bool false]) ∧ Kept u w' := fun u => by have q := pstep12 ⟨128, 128, 2, 0⟩ true true u in_b12; rw [st_b12] at q; exact q
  have B := hid B0
  clear A0 B0
  go_enter Try.func9, Try.ntmps9
  go_wp2_with fail
  refine (A.out _).mono ?_
  rintro e u1 ⟨rfl, k1⟩
  have K1 := hid (k1.alloc (.cells ([.int .u8 0, .int .u8 129, .int .u8 8, .int .u8 0] : List Value).toArray 23))
  have P1 := hid (blk_new u1 [.int .u8 0, .int .u8 129, .int .u8 8, .int .u8 0] 23)
  clear k1
  go_wp2_with fail
  refine (B.out _).mono ?_
  rintro e u2 ⟨rfl, k2⟩
  have K2 := hid ((K1.out.trans k2).alloc (.cells ([.int .u8 1, .int .u8 128, .int .u8 1, .int .u8 0] : List Value).toArray 23))
  have c1 := blk_cell (blk_past (blk_kept k2 P1.out) (.cells ([.int .u8 1, .int .u8 128, .int .u8 1, .int .u8 0] : List Value).toArray 23))
  have d1 := blk_cell (blk_kept k2 P1.out)
  have c2 := blk_cell (blk_new u2 [.int .u8 1, .int .u8 128, .int .u8 1, .int .u8 0] 23)
  have n1 : u1.heap.size ≠ u2.heap.size := by have := blk_lt (blk_kept k2 P1.out); omega
  clear k2 P1 K1
  go_wp2
  go_ret
  exact ⟨rfl, K2.out⟩
end Go.Proofs.Ytblagmninenapaa
