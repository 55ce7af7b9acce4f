/- The examples at the head of layer 18's laws. -/
import Derived.Test.YtecgpdjgbdobbabSw18a
namespace Go.Proofs.Ytecgpdjgbdobbab
open Go.RowKit
set_option linter.unusedVariables false
set_option linter.unusedSimpArgs false

theorem ex_dot (ctl bgp : Int) (b : Nat) (y win : Int) (x : Nat) (h : bitOf ctl 1 = false) : dotL (exV ctl bgp b) y win x = dotP (exV ctl bgp b) [] (x : Int) y win := by
  unfold dotL objsP
  rw [show bitOf (exV ctl bgp b).ctl 1 = false from h, if_neg (by simp)]
set_option maxRecDepth 100000 in
theorem ex_a (b : Nat) : dotP (exV 17 228 b) [] ((0 : Nat) : Int) 0 0 = 1 := by kernel_rfl
set_option maxRecDepth 100000 in
theorem ex_b (b : Nat) : dotP (exV 17 228 b) [] ((159 : Nat) : Int) 0 0 = 1 := by kernel_rfl
set_option maxRecDepth 100000 in
theorem ex_c (b : Nat) : dotP (exV 17 27 b) [] ((80 : Nat) : Int) 143 0 = 2 := by kernel_rfl
set_option maxRecDepth 100000 in
theorem ex_d (b : Nat) : dotP (exV 16 27 b) [] ((9 : Nat) : Int) 3 7 = 0 := by kernel_rfl
theorem ex_n (b : Nat) : nxP (exV 16 27 b) 3 7 = 7 := by kernel_rfl
theorem ex_t : strB (digL [3, 4]) = ⟨#[51, 48]⟩ := by kernel_rfl
set_option maxRecDepth 100000 in
set_option maxHeartbeats 4000000 in
theorem kshown18 (w : World) : Calls Try.prog 4 #[] w fun e w' => e = .returned (.bool true) ∧ Kept w w' := by
  have P0 := hid (fun u => kplain18 17 228 u)
  have P1 := hid (fun u => kplain18 17 27 u)
  have P2 := hid (fun u => kplain18 16 27 u)
  have K0 := hid (Kept.refl w)
  go_enter Try.func4, Try.ntmps4
  go_wp2_with fail
  refine (P0.out _).mono ?_
  rintro e p0 ⟨⟨m0, rfl, z0, x0⟩, k1⟩
  have H0 := hid (K0.out.trans k1)
  have X0 := hid x0
  clear k1 x0 z0
  rw [exV_eq]
  have LI := hid (pline18 (exV 17 228 m0) 0 0 p0 (exV_in X0.out (by decide) (by decide) (by decide) (by decide)) (by decide) (by decide) (by decide) (by decide))
  rw [exV_eq] at LI
  go_wp2_with fail
  refine LI.out.mono ?_
  rintro e q0 ⟨⟨b0, rfl, z0, x0⟩, k1⟩
  have G0 := hid (H0.out.trans k1)
  have F00 := hid x0
  clear k1 x0 z0 X0 LI
  go_wp2_with fail
  refine (P1.out _).mono ?_
  rintro e p1 ⟨⟨m1, rfl, z1, x1⟩, k1⟩
  have H1 := hid (G0.out.trans k1)
  have X1 := hid x1
  have F01 := hid (blk_kept k1 F00.out)
  clear k1 x1 z1
  rw [exV_eq]
  have LI := hid (pline18 (exV 17 27 m1) 143 0 p1 (exV_in X1.out (by decide) (by decide) (by decide) (by decide)) (by decide) (by decide) (by decide) (by decide))
  rw [exV_eq] at LI
  go_wp2_with fail
  refine LI.out.mono ?_
  rintro e q1 ⟨⟨b1, rfl, z1, x1⟩, k1⟩
  have G1 := hid (H1.out.trans k1)
  have E01 := hid (blk_kept k1 F01.out)
  clear F01
  have F01 := E01
  clear E01
  have F11 := hid x1
  clear k1 x1 z1 X1 LI
  go_wp2_with fail
  refine (P2.out _).mono ?_
  rintro e p2 ⟨⟨m2, rfl, z2, x2⟩, k1⟩
  have H2 := hid (G1.out.trans k1)
  have X2 := hid x2
  have F02 := hid (blk_kept k1 F01.out)
  have F12 := hid (blk_kept k1 F11.out)
  clear k1 x2 z2
  rw [exV_eq]
  have LI := hid (pline18 (exV 16 27 m2) 3 7 p2 (exV_in X2.out (by decide) (by decide) (by decide) (by decide)) (by decide) (by decide) (by decide) (by decide))
  rw [exV_eq] at LI
  go_wp2_with fail
  refine LI.out.mono ?_
  rintro e q2 ⟨⟨b2, rfl, z2, x2⟩, k1⟩
  have G2 := hid (H2.out.trans k1)
  have E02 := hid (blk_kept k1 F02.out)
  clear F02
  have F02 := E02
  clear E02
  have E12 := hid (blk_kept k1 F12.out)
  clear F12
  have F12 := E12
  clear E12
  have F22 := hid x2
  clear k1 x2 z2 X2 LI
  have d0 : q2.cell? ⟨b0, 0, none⟩ = some (.int .u8 1) := by rw [blk_cell F02.out, cols_at _ (by decide), ex_dot _ _ _ _ _ _ (by decide), ex_a]
  have d1 : q2.cell? ⟨b0, 159, none⟩ = some (.int .u8 1) := by rw [blk_cell F02.out, cols_at _ (by decide), ex_dot _ _ _ _ _ _ (by decide), ex_b]
  have d2 : q2.cell? ⟨b1, 80, none⟩ = some (.int .u8 2) := by rw [blk_cell F12.out, cols_at _ (by decide), ex_dot _ _ _ _ _ _ (by decide), ex_c]
  have d3 : q2.cell? ⟨b2, 9, none⟩ = some (.int .u8 0) := by rw [blk_cell F22.out, cols_at _ (by decide), ex_dot _ _ _ _ _ _ (by decide), ex_d]
  have z0 := blk_lt F02.out
  have z1 := blk_lt F12.out
  have z2 := blk_lt F22.out
  rw [ex_n]
  have TX : Hid (Row (q2.alloc (.cells #[.int .u8 3, .int .u8 4] 5)) (some ⟨q2.heap.size, 0, none⟩) [3, 4]) := bb_row (L := [3, 4]) (blk_new q2 _ _) (fun x hx => by simp at hx; rcases hx with rfl | rfl <;> exact ⟨by decide, by decide⟩) (by simp [maxLen])
  have TT := hid (ptext18 (some ⟨q2.heap.size, 0, none⟩) 2 [3, 4] _ TX.out (by decide))
  rw [ex_t] at TT
  clear TX F02 F12 F22 P0 P1 P2
  go_wp2_with fail
  refine TT.out.mono ?_
  rintro e r ⟨rfl, k1⟩
  have KE := hid ((G2.out.alloc _).trans k1)
  clear k1
  go_wp2
  go_ret
  exact ⟨rfl, KE.out⟩
end Go.Proofs.Ytecgpdjgbdobbab
