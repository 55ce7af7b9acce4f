/- The examples at the head of layer 19's laws. -/
import Derived.Test.YtoohpdnmdnjpaaaPdm19c
namespace Go.Proofs.Ytoohpdnmdnjpaaa
open Go.RowKit
set_option linter.unusedVariables false
set_option linter.unusedSimpArgs false

/-- A cycle of a transfer that was asked for alone. -/
theorem step_wh (v : Int) (v0 : 0 ≤ v) (v1 : v ≤ 255) (j : Nat) (u : World) : Calls Try.prog 15 #[dmV (whE v j)] u fun e w' => e = .returned (.tuple #[dmV (whE v (j + 1)), .int .u16 (fromD (whE v j)), .int .u8 (toD (whE v j)), .bool (inW j)]) ∧ Kept u w' := by
  have q := pstep19 (whE v j) u (wh_in v v0 v1 j)
  rw [wh_next, wh_on] at q
  exact q
theorem step_wh_no (v : Int) (v0 : 0 ≤ v) (v1 : v ≤ 255) (j : Nat) (h : ¬ (2 ≤ j ∧ j < 162)) (u : World) : Calls Try.prog 15 #[dmV (whE v j)] u fun e w' => e = .returned (.tuple #[dmV (whE v (j + 1)), .int .u16 0, .int .u8 0, .bool false]) ∧ Kept u w' := by
  have q := step_wh v v0 v1 j u
  rw [(wh_no v j h).1, (wh_no v j h).2, show inW j = false from decide_eq_false h] at q
  exact q
theorem step_wh_yes (v : Int) (v0 : 0 ≤ v) (v1 : v ≤ 255) (j : Nat) (h : 2 ≤ j) (h2 : j < 162) (u : World) : Calls Try.prog 15 #[dmV (whE v j)] u fun e w' => e = .returned (.tuple #[dmV (whE v (j + 1)), .int .u16 (srcD v ((j : Int) - 2)), .int .u8 ((j : Int) - 2), .bool true]) ∧ Kept u w' := by
  have q := step_wh v v0 v1 j u
  rw [(wh_to v j h h2).1, (wh_to v j h h2).2, show inW j = true from decide_eq_true ⟨h, h2⟩] at q
  exact q
theorem ask_wh (v : Int) (u : World) : Calls Try.prog 9 #[.agg #[.bool false, .int .u8 0, .int .u8 0, .int .u8 0, .int .u8 0], .int .u8 v] u fun e w' => e = .returned (dmV (whE v 0)) ∧ Kept u w' := by
  have q := pwrite19 ⟨false, 0, 0, 0, 0⟩ v u
  rw [wh_0] at q
  exact q
theorem src_192 : srcD 192 (((2 : Nat) : Int) - 2) = 49152 := by rfl
theorem src_254 : srcD 254 3 = 56835 := by rfl
theorem wh_3 : whE 192 3 = ⟨true, 192, 1, 0, 192⟩ := by rfl
set_option maxRecDepth 100000 in
set_option maxHeartbeats 4000000 in
theorem kshown19 (w : World) : Calls Try.prog 8 #[] w fun e w' => e = .returned (.bool true) ∧ Kept w w' := by
  have W := hid (ask_wh 192)
  have A := hid (fun j h u => step_wh_no 192 (by decide) (by decide) j h u)
  have AE : ∀ u, Calls Try.prog 15 #[dmV (whE 192 2)] u fun e w' => e = .returned (.tuple #[.agg #[.bool true, .int .u8 192, .int .u8 1, .int .u8 0, .int .u8 192], .int .u16 49152, .int .u8 0, .bool true]) ∧ Kept u w' := fun u => by have q := step_wh_yes 192 (by decide) (by decide) 2 (by decide) (by decide) u; rw [src_192, wh_3] at q; exact q
  have AE := hid AE
  have SO_ : ∀ u, Calls Try.prog 13 #[.int .u8 254, .int .u8 3] u fun e w' => e = .returned (.int .u16 56835) ∧ w' = u := fun u => by have q := psrc19 254 3 u (by decide) (by decide) (by decide) (by decide); rw [src_254] at q; exact q
  have SC := hid SO_
  clear SO_
  obtain ⟨V0, hV0⟩ : ∃ V, whE 192 0 = V := ⟨_, rfl⟩
  rw [hV0] at W
  have E0 := hid hV0
  clear hV0
  go_enter Try.func8, Try.ntmps8
  go_wp2_with fail
  refine (W.out _).mono ?_
  rintro e u1 ⟨rfl, k1⟩
  have K_1 := hid k1
  clear k1
  have lowu : w.heap.size ≤ u1.heap.size := K_1.out.size
  have Bd_2 := blk_new u1 [.bool V0.on, .int .u8 V0.page, .int .u8 V0.pos, .int .u8 V0.wait, .int .u8 V0.next] 23
  have K_2 := hid (K_1.out.alloc (.cells ([.bool V0.on, .int .u8 V0.page, .int .u8 V0.pos, .int .u8 V0.wait, .int .u8 V0.next] : List Value).toArray 23))
  clear K_1 
  have cd_2 := blk_cell Bd_2
  have zd_2 := blk_lt Bd_2
  obtain ⟨bb, hbb⟩ : ∃ b, u1.heap.size = b := ⟨_, rfl⟩
  have led : w.heap.size ≤ bb := by rw [← hbb]; exact lowu
  go_wp2_with fail
  rw [hbb] at Bd_2
  try rw [hbb]
  have BL := hid Bd_2
  clear Bd_2 cd_2 zd_2
  go_loopw [2] (fun iv wr => ∃ j : Nat, j ≤ 2 ∧ iv = .int .i64 (j : Int) ∧ Blk wr bb 23 [.bool (whE 192 j).on, .int .u8 (whE 192 j).page, .int .u8 (whE 192 j).pos, .int .u8 (whE 192 j).wait, .int .u8 (whE 192 j).next] ∧ Kept w wr) (fun iv _ => 2 - (intOf iv).toNat)
  case atStart => exact ⟨0, Nat.zero_le _, rfl, by rw [E0.out]; exact BL.out, K_2.out⟩
  case round =>
    obtain ⟨j, hj, rfl, hq, hk⟩ := hrel
    have Bd_0 := hq
    have K_0 := hid hk
    have cd_0 := blk_cell hq
    have zd_0 := blk_lt hq
    clear hq hk
    clear BL K_2 E0 W
    by_cases hlt : j < 2
    · have g1 : decide ((j : Int) < 2) = true := decide_eq_true (by omega)
      have AJ := hid (fun u => A.out j (by omega) u)
      obtain ⟨V, hV⟩ : ∃ V, whE 192 (j + 1) = V := ⟨_, rfl⟩
      rw [hV] at AJ
      have VE := hid hV
      clear hV A AE SC
      generalize whE 192 j = U at *
      have e1 : IntKind.i64.wrap ((j : Int) + 1) = (j : Int) + 1 := by rw [IntKind.wrap_i64]; omega
      go_wp2_with fail
      refine (AJ.out _).mono ?_
      rintro e u1 ⟨rfl, k1⟩
      have Bd_1 := blk_kept k1 Bd_0
      have K_1 := hid (K_0.out.trans k1)
      clear k1 Bd_0 cd_0 zd_0
      have cd_1 := blk_cell Bd_1
      have zd_1 := blk_lt Bd_1
      have Bd_2 := blk_past Bd_1 (.cells ([.bool V.on, .int .u8 V.page, .int .u8 V.pos, .int .u8 V.wait, .int .u8 V.next] : List Value).toArray 23)
      have Bn_2 := blk_new u1 [.bool V.on, .int .u8 V.page, .int .u8 V.pos, .int .u8 V.wait, .int .u8 V.next] 23
      have K_2 := hid (K_1.out.alloc (.cells ([.bool V.on, .int .u8 V.page, .int .u8 V.pos, .int .u8 V.wait, .int .u8 V.next] : List Value).toArray 23))
      have ndn : bb ≠ u1.heap.size := by omega
      have nnd : u1.heap.size ≠ bb := by omega
      clear K_1 Bd_1
      have cd_2 := blk_cell Bd_2
      have zd_2 := blk_lt Bd_2
      have cn_2 := blk_cell Bn_2
      have zn_2 := blk_lt Bn_2
      go_wp2_with (first
        | ((with_reducible refine at_st 23 ?_); refine wl_store rfl rfl rfl rfl Bd_2 (by kernel_rfl) rfl (Nat.le_of_ble_eq_true rfl) (fun v3 p3 => ?_); have Bd_3 : Blk v3 bb 23 [.bool V.on, .int .u8 V.page, .int .u8 V.pos, .int .u8 V.wait, .int .u8 V.next] := p3.blk; have Bn_3 := p3.other _ _ _ nnd Bn_2; have K_3 := hid (p3.kept _ K_2.out led); clear p3 K_2 Bd_2 cd_2 zd_2 Bn_2 cn_2 zn_2; have cd_3 := blk_cell Bd_3; have zd_3 := blk_lt Bd_3; have cn_3 := blk_cell Bn_3; have zn_3 := blk_lt Bn_3))
      go_roundw
      case rel => exact ⟨j + 1, by omega, by first | go_num | rfl, by rw [VE.out]; exact Bd_3, K_3.out⟩
      case measure => first | omega | (simp; omega) | (simp [intOf]; omega)
    · have je : j = 2 := by omega
      subst je
      have g1 : decide (((2 : Nat) : Int) < 2) = false := by decide
      clear A
      generalize whE 192 2 = U at *
      go_wp2_with fail
      refine (AE.out _).mono ?_
      rintro e u1 ⟨rfl, k1⟩
      have Bd_1 := blk_kept k1 Bd_0
      have K_1 := hid (K_0.out.trans k1)
      clear k1 Bd_0 cd_0 zd_0
      have cd_1 := blk_cell Bd_1
      have zd_1 := blk_lt Bd_1
      go_wp2_with (first
        | ((with_reducible refine at_st 23 ?_); refine wl_store rfl rfl rfl rfl Bd_1 (by kernel_rfl) rfl (Nat.le_of_ble_eq_true rfl) (fun v2 p2 => ?_); have Bd_2 : Blk v2 bb 23 [.bool true, .int .u8 192, .int .u8 1, .int .u8 0, .int .u8 192] := p2.blk; have K_2 := hid (p2.kept _ K_1.out led); clear p2 K_1 Bd_1 cd_1 zd_1; have cd_2 := blk_cell Bd_2; have zd_2 := blk_lt Bd_2))
      refine (SC.out _).mono ?_
      rintro e ux ⟨rfl, rfl⟩
      go_wp2
      go_ret
      exact ⟨rfl, K_2.out⟩
end Go.Proofs.Ytoohpdnmdnjpaaa
