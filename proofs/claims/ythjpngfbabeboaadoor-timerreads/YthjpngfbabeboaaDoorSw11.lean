/- The examples at the head of layer 11's laws. -/
import Derived.Test.YthjpngfbabeboaaDoorPt11
import Derived.Test.YthjpngfbabeboaaDoorBk
namespace Go.Proofs.YthjpngfbabeboaaDoor
open Go.RowKit
set_option linter.unusedVariables false
set_option linter.unusedSimpArgs false

theorem in_a11 : TmIn ⟨12, 255, 9, 5, 0⟩ := ⟨by decide, by decide, by decide, by decide, by decide, by decide, by decide, by decide, by decide, by decide⟩
theorem in_b11 : TmIn ⟨16, 0, 9, 5, 1⟩ := ⟨by decide, by decide, by decide, by decide, by decide, by decide, by decide, by decide, by decide, by decide⟩
theorem in_c11 : TmIn ⟨8, 3, 0, 5, 0⟩ := ⟨by decide, by decide, by decide, by decide, by decide, by decide, by decide, by decide, by decide, by decide⟩
theorem st_a11 : stepT ⟨12, 255, 9, 5, 0⟩ = ⟨16, 0, 9, 5, 1⟩ := by rfl
theorem st_b11 : stepT ⟨16, 0, 9, 5, 1⟩ = ⟨20, 9, 9, 5, 2⟩ := by rfl
theorem wr_c11 : writeT ⟨8, 3, 0, 5, 0⟩ 65284 1 = ⟨0, 4, 0, 5, 0⟩ := by rfl
set_option maxRecDepth 100000 in
set_option maxHeartbeats 4000000 in
theorem kshown11 (w : World) (lay : Lay11 w) : Calls Tryd.prog 9 #[] w fun e w' => e = .returned (.bool true) ∧ Kept w w' := by
  have LY := hid (fun u (k : Kept w u) => lay11_kept lay k)
  have A0 : Calls Tryd.prog 12 #[.agg #[.int .u16 12, .int .u8 255, .int .u8 9, .int .u8 5, .int .u8 0]] w fun e w' => e = .returned (.tuple #[.agg #[.int .u16 16, .int .u8 0, .int .u8 9, .int .u8 5, .int .u8 1], .bool false]) ∧ Kept w w' := by have q := pstep11 ⟨12, 255, 9, 5, 0⟩ w lay in_a11; rw [st_a11] at q; exact q
  have A := hid A0
  have B0 : ∀ u, Kept w u → Calls Tryd.prog 12 #[.agg #[.int .u16 16, .int .u8 0, .int .u8 9, .int .u8 5, .int .u8 1]] u fun e w' => e = .returned (.tuple #[.agg #[.int .u16 20, .int .u8 9, .int .u8 9, .int .u8 5, .int .u8 2], .bool true]) ∧ Kept u w' := fun u k => by have q := pstep11 ⟨16, 0, 9, 5, 1⟩ u (lay11_kept lay k) in_b11; rw [st_b11] at q; exact q
  have B := hid B0
  have C0 : ∀ u, Kept w u → Calls Tryd.prog 16 #[.agg #[.int .u16 8, .int .u8 3, .int .u8 0, .int .u8 5, .int .u8 0], .int .u16 65284, .int .u8 1] u fun e w' => e = .returned (.agg #[.int .u16 0, .int .u8 4, .int .u8 0, .int .u8 5, .int .u8 0]) ∧ Kept u w' := fun u k => by have q := pwrite11 ⟨8, 3, 0, 5, 0⟩ 65284 1 u (lay11_kept lay k) in_c11 (by decide) (by decide) (by decide) (by decide); rw [wr_c11] at q; exact q
  have C := hid C0
  clear A0 B0 C0 lay
  go_enter Tryd.func9, Tryd.ntmps9
  go_wp2_with fail
  refine A.out.mono ?_
  rintro e u1 ⟨rfl, k1⟩
  have K1 := hid (k1.alloc (.cells ([.int .u16 16, .int .u8 0, .int .u8 9, .int .u8 5, .int .u8 1] : List Value).toArray 24))
  have P1 := hid (blk_new u1 [.int .u16 16, .int .u8 0, .int .u8 9, .int .u8 5, .int .u8 1] 24)
  clear k1
  go_wp2_with fail
  refine (B.out _ K1.out).mono ?_
  rintro e u2 ⟨rfl, k2⟩
  have K2 := hid ((K1.out.trans k2).alloc (.cells ([.int .u16 20, .int .u8 9, .int .u8 9, .int .u8 5, .int .u8 2] : List Value).toArray 24))
  have P2 := hid (blk_past (blk_kept k2 P1.out) (.cells ([.int .u16 20, .int .u8 9, .int .u8 9, .int .u8 5, .int .u8 2] : List Value).toArray 24))
  have Q2 := hid (blk_new u2 [.int .u16 20, .int .u8 9, .int .u8 9, .int .u8 5, .int .u8 2] 24)
  clear k2 P1 K1
  go_wp2_with fail
  refine (C.out _ K2.out).mono ?_
  rintro e u3 ⟨rfl, k3⟩
  have K3 := hid ((K2.out.trans k3).alloc (.cells ([.int .u16 0, .int .u8 4, .int .u8 0, .int .u8 5, .int .u8 0] : List Value).toArray 24))
  have c1 := blk_cell (blk_past (blk_kept k3 P2.out) (.cells ([.int .u16 0, .int .u8 4, .int .u8 0, .int .u8 5, .int .u8 0] : List Value).toArray 24))
  have c2 := blk_cell (blk_past (blk_kept k3 Q2.out) (.cells ([.int .u16 0, .int .u8 4, .int .u8 0, .int .u8 5, .int .u8 0] : List Value).toArray 24))
  have c3 := blk_cell (blk_new u3 [.int .u16 0, .int .u8 4, .int .u8 0, .int .u8 5, .int .u8 0] 24)
  have z1 := blk_lt (blk_kept k3 P2.out)
  have z2 := blk_lt (blk_kept k3 Q2.out)
  have n1 : u1.heap.size ≠ u3.heap.size := by omega
  have n2 : u2.heap.size ≠ u3.heap.size := by omega
  have d1 := blk_cell (blk_kept k3 P2.out)
  have d2 := blk_cell (blk_kept k3 Q2.out)
  clear k3 P2 Q2 K2
  go_wp2
  go_ret
  exact ⟨rfl, K3.out⟩
end Go.Proofs.YthjpngfbabeboaaDoor
