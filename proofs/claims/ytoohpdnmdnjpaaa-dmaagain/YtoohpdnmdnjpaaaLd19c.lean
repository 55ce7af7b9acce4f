/- Layer 19: DmaAgain, as a walk. -/
import Derived.Test.YtoohpdnmdnjpaaaSw19
namespace Go.Proofs.Ytoohpdnmdnjpaaa
open Go.RowKit
set_option linter.unusedVariables false
set_option linter.unusedSimpArgs false

theorem step_ag (v x : Int) (v0 : 0 ≤ v) (v1 : v ≤ 255) (x0 : 0 ≤ x) (x1 : x ≤ 255) (k i : Nat) (h1 : 1 ≤ k) (h2 : k ≤ 150) (u : World) : Calls Try.prog 15 #[dmV (agE v x k i)] u fun e w' => e = .returned (.tuple #[dmV (agE v x k (i + 1)), .int .u16 (fromD (agE v x k i)), .int .u8 (toD (agE v x k i)), .bool (agE v x k i).on]) ∧ Kept u w' := by
  have q := pstep19 (agE v x k i) u (ag_in v x v0 v1 x0 x1 k i h2)
  rw [ag_next v x k i h2] at q
  exact q
theorem step_ag_lo (v x : Int) (v0 : 0 ≤ v) (v1 : v ≤ 255) (x0 : 0 ≤ x) (x1 : x ≤ 255) (k i : Nat) (h1 : 1 ≤ k) (h2 : k ≤ 150) (hi : i < 2) (hk : 2 ≤ k) (u : World) : Calls Try.prog 15 #[dmV (agE v x k i)] u fun e w' => e = .returned (.tuple #[dmV (agE v x k (i + 1)), .int .u16 (srcD v ((k : Int) - 2 + (i : Int))), .int .u8 ((k : Int) - 2 + (i : Int)), .bool true]) ∧ Kept u w' := by
  have q := step_ag v x v0 v1 x0 x1 k i h1 h2 u
  obtain ⟨e1, e2, e3⟩ := ag_lowto v x k i hi hk h2
  rw [e1, e2, e3] at q
  exact q
theorem step_ag_no (v x : Int) (v0 : 0 ≤ v) (v1 : v ≤ 255) (x0 : 0 ≤ x) (x1 : x ≤ 255) (k i : Nat) (h1 : 1 ≤ k) (h2 : k ≤ 150) (hi : i < 2) (hk : k < 2) (u : World) : Calls Try.prog 15 #[dmV (agE v x k i)] u fun e w' => e = .returned (.tuple #[dmV (agE v x k (i + 1)), .int .u16 0, .int .u8 0, .bool false]) ∧ Kept u w' := by
  have q := step_ag v x v0 v1 x0 x1 k i h1 h2 u
  obtain ⟨e1, e2, e3⟩ := ag_lowno v x k i hi hk
  rw [e1, e2, e3] at q
  exact q
theorem step_ag_hi (v x : Int) (v0 : 0 ≤ v) (v1 : v ≤ 255) (x0 : 0 ≤ x) (x1 : x ≤ 255) (k i : Nat) (h1 : 1 ≤ k) (h2 : k ≤ 150) (hi : 2 ≤ i) (h3 : i < 162) (u : World) : Calls Try.prog 15 #[dmV (agE v x k i)] u fun e w' => e = .returned (.tuple #[dmV (agE v x k (i + 1)), .int .u16 (srcD x ((i : Int) - 2)), .int .u8 ((i : Int) - 2), .bool true]) ∧ Kept u w' := by
  have q := step_ag v x v0 v1 x0 x1 k i h1 h2 u
  obtain ⟨e1, e2, e3⟩ := ag_to v x k i hi h3
  rw [e1, e2, e3] at q
  exact q
theorem ask_ag (v x : Int) (k : Nat) (h1 : 1 ≤ k) (h2 : k ≤ 150) (u : World) : Calls Try.prog 9 #[dmV (whE v k), .int .u8 x] u fun e w' => e = .returned (dmV (agE v x k 0)) ∧ Kept u w' := by
  have q := pwrite19 (whE v k) x u
  rw [ag_0 v x k h1 h2] at q
  exact q
set_option maxRecDepth 100000 in
set_option maxHeartbeats 4000000 in
theorem again19 (v x n : Int) (w : World) (v0 : 0 ≤ v) (v1 : v ≤ 255) (x0 : 0 ≤ x) (x1 : x ≤ 255) (n0 : 0 ≤ n) (n1 : n ≤ 255) : Calls Try.prog 7 #[.int .u8 v, .int .u8 x, .int .u8 n] w fun e w' => e = .returned (.bool true) ∧ Kept w w' := by
  have S := hid kshown19
  have W := hid (ask_wh v)
  have A := hid (fun j u => step_wh v v0 v1 j u)
  obtain ⟨V0, hV0⟩ : ∃ V, whE v 0 = V := ⟨_, rfl⟩
  rw [hV0] at W
  have E0 := hid hV0
  clear hV0
  obtain ⟨k, hk⟩ : ∃ k : Nat, 1 + n % 150 = (k : Int) := ⟨(1 + n % 150).toNat, by omega⟩
  have h1 : 1 ≤ k := by omega
  have h2 : k ≤ 150 := by omega
  have m0 : IntKind.i64.wrap n = n := by rw [IntKind.wrap_i64]; omega
  have m1 : Int.tmod n 150 = n % 150 := Int.tmod_eq_emod_of_nonneg n0
  have m2 : IntKind.i64.wrap (n % 150) = n % 150 := by rw [IntKind.wrap_i64]; omega
  have m3 : IntKind.i64.wrap (1 + n % 150) = (k : Int) := by rw [hk, IntKind.wrap_i64]; omega
  have m4 : IntKind.i64.wrap (k : Int) = (k : Int) := by rw [IntKind.wrap_i64]; omega
  have WA := hid (fun u => ask_ag v x k h1 h2 u)
  go_enter Try.func7, Try.ntmps7
  go_wp2_with fail
  refine (S.out _).mono ?_
  rintro e u1 ⟨rfl, k1⟩
  have K_1 := hid k1
  clear k1
  go_wp2_with fail
  refine (W.out _).mono ?_
  rintro e u2 ⟨rfl, k2⟩
  have K_2 := hid (K_1.out.trans k2)
  clear k2 K_1
  have lowu : w.heap.size ≤ u2.heap.size := K_2.out.size
  have Bd_3 := blk_new u2 [.bool V0.on, .int .u8 V0.page, .int .u8 V0.pos, .int .u8 V0.wait, .int .u8 V0.next] 23
  have K_3 := hid (K_2.out.alloc (.cells ([.bool V0.on, .int .u8 V0.page, .int .u8 V0.pos, .int .u8 V0.wait, .int .u8 V0.next] : List Value).toArray 23))
  clear K_2 
  have cd_3 := blk_cell Bd_3
  have zd_3 := blk_lt Bd_3
  obtain ⟨bb, hbb⟩ : ∃ b, u2.heap.size = b := ⟨_, rfl⟩
  have led : w.heap.size ≤ bb := by rw [← hbb]; exact lowu
  go_wp2_with fail
  rw [hbb] at Bd_3
  try rw [hbb]
  have BL := hid Bd_3
  clear Bd_3 cd_3 zd_3
  try rw [hk]
  clear m0 m1 m2 m3 hk
  go_loopw [10] (fun iv wr => ∃ j : Nat, j ≤ k ∧ iv = .int .i64 (j : Int) ∧ Blk wr bb 23 [.bool (whE v j).on, .int .u8 (whE v j).page, .int .u8 (whE v j).pos, .int .u8 (whE v j).wait, .int .u8 (whE v j).next] ∧ Kept w wr) (fun iv _ => k - (intOf iv).toNat)
  case atStart => exact ⟨0, Nat.zero_le _, rfl, by rw [E0.out]; exact BL.out, K_3.out⟩
  case round =>
    obtain ⟨j, hj, rfl, hq, hk⟩ := hrel
    have Bd_0 := hq
    have K_0 := hid hk
    have cd_0 := blk_cell hq
    have zd_0 := blk_lt hq
    clear hq hk
    clear BL K_3 E0 W
    by_cases hlt : j < k
    · have g1 : decide ((j : Int) < (k : Int)) = true := decide_eq_true (by omega)
      have e1 : IntKind.i64.wrap ((j : Int) + 1) = (j : Int) + 1 := by rw [IntKind.wrap_i64]; omega
      have AJ := hid (fun u => A.out j u)
      generalize fromD (whE v j) = X at *
      generalize toD (whE v j) = Y at *
      generalize inW j = Q at *
      obtain ⟨V, hV⟩ : ∃ V, whE v (j + 1) = V := ⟨_, rfl⟩
      rw [hV] at AJ
      have VE := hid hV
      clear hV A WA
      generalize whE v j = U at *
      go_wp2_with fail
      refine (AJ.out _).mono ?_
      rintro e u1 ⟨rfl, k1⟩
      have Bd_1 := blk_kept k1 Bd_0
      have K_1 := hid (K_0.out.trans k1)
      clear k1 Bd_0 cd_0 zd_0
      have cd_1 := blk_cell Bd_1
      have zd_1 := blk_lt Bd_1
      go_wp2_with (first
        | ((with_reducible refine at_st 23 ?_); refine wl_store rfl rfl rfl rfl Bd_1 (by kernel_rfl) rfl (Nat.le_of_ble_eq_true rfl) (fun v2 p2 => ?_); have Bd_2 : Blk v2 bb 23 [.bool V.on, .int .u8 V.page, .int .u8 V.pos, .int .u8 V.wait, .int .u8 V.next] := p2.blk; have K_2 := hid (p2.kept _ K_1.out led); clear p2 K_1 Bd_1 cd_1 zd_1; have cd_2 := blk_cell Bd_2; have zd_2 := blk_lt Bd_2))
      go_roundw
      case rel => exact ⟨j + 1, by omega, by first | go_num | rfl, by rw [VE.out]; exact Bd_2, K_2.out⟩
      case measure => first | omega | (simp; omega) | (simp [intOf]; omega)
    · have je : j = k := by omega
      subst je
      have g1 : decide ((j : Int) < (j : Int)) = false := decide_eq_false (by omega)
      obtain ⟨V1, hV1⟩ : ∃ V, agE v x j 0 = V := ⟨_, rfl⟩
      rw [hV1] at WA
      have E1 := hid hV1
      clear hV1 A
      generalize whE v j = U at *
      go_wp2_with fail
      refine (WA.out _).mono ?_
      rintro e u1 ⟨rfl, k1⟩
      have Bd_1 := blk_kept k1 Bd_0
      have K_1 := hid (K_0.out.trans k1)
      clear k1 Bd_0 cd_0 zd_0
      have cd_1 := blk_cell Bd_1
      have zd_1 := blk_lt Bd_1
      go_wp2_with (first
        | ((with_reducible refine at_st 23 ?_); refine wl_store rfl rfl rfl rfl Bd_1 (by kernel_rfl) rfl (Nat.le_of_ble_eq_true rfl) (fun v2 p2 => ?_); have Bd_2 : Blk v2 bb 23 [.bool V1.on, .int .u8 V1.page, .int .u8 V1.pos, .int .u8 V1.wait, .int .u8 V1.next] := p2.blk; have K_2 := hid (p2.kept _ K_1.out led); clear p2 K_1 Bd_1 cd_1 zd_1; have cd_2 := blk_cell Bd_2; have zd_2 := blk_lt Bd_2))
      have BM := hid Bd_2
      have KM := K_2
      clear Bd_2 K_2 cd_2 zd_2 g1
      obtain ⟨k, hkj⟩ : ∃ k, j = k := ⟨_, rfl⟩
      subst hkj
      go_loopw [11] (fun iv wr => ∃ i : Nat, i ≤ 162 ∧ iv = .int .i64 (i : Int) ∧ Blk wr bb 23 [.bool (agE v x j i).on, .int .u8 (agE v x j i).page, .int .u8 (agE v x j i).pos, .int .u8 (agE v x j i).wait, .int .u8 (agE v x j i).next] ∧ Kept w wr) (fun iv _ => 162 - (intOf iv).toNat)
      case atStart => exact ⟨0, Nat.zero_le _, rfl, by rw [E1.out]; exact BM.out, KM.out⟩
      case round =>
        obtain ⟨i, hi, rfl, hq, hk⟩ := hrel
        have Bd_0 := hq
        have K_0 := hid hk
        have cd_0 := blk_cell hq
        have zd_0 := blk_lt hq
        clear hq hk
        clear BM KM E1 WA
        by_cases hl : i < 162
        · have g1 : decide ((i : Int) < 162) = true := decide_eq_true (by omega)
          have e1 : IntKind.i64.wrap ((i : Int) + 1) = (i : Int) + 1 := by rw [IntKind.wrap_i64]; omega
          by_cases h3 : i < 2
          · by_cases hk1 : j = 1
            · skip
              have AJ := hid (fun u => step_ag_no v x v0 v1 x0 x1 j i h1 h2 (by omega) (by omega) u)
              have g2 : decide ((i : Int) < 2) = true := decide_eq_true (by omega)
              have g3 : decide (2 < (j : Int)) = false := decide_eq_false (by omega)
              have g4 : ((j : Int) == 1) = true := by simp; omega
              obtain ⟨V, hV⟩ : ∃ V, agE v x j (i + 1) = V := ⟨_, rfl⟩
              rw [hV] at AJ
              have VE := hid hV
              clear hV
              generalize agE v x j i = U at *
              clear hk1
              go_wp2_with fail
              refine (AJ.out _).mono ?_
              rintro e u1 ⟨rfl, k1⟩
              have Bd_1 := blk_kept k1 Bd_0
              have K_1 := hid (K_0.out.trans k1)
              clear k1 Bd_0 cd_0 zd_0
              have cd_1 := blk_cell Bd_1
              have zd_1 := blk_lt Bd_1
              have Bd_2 := blk_past Bd_1 (.cells ([.bool V.on, .int .u8 V.page, .int .u8 V.pos, .int .u8 V.wait, .int .u8 V.next] : List Value).toArray 23)
              have Bn_2 := blk_new u1 [.bool V.on, .int .u8 V.page, .int .u8 V.pos, .int .u8 V.wait, .int .u8 V.next] 23
              have K_2 := hid (K_1.out.alloc (.cells ([.bool V.on, .int .u8 V.page, .int .u8 V.pos, .int .u8 V.wait, .int .u8 V.next] : List Value).toArray 23))
              have ndn : bb ≠ u1.heap.size := by omega
              have nnd : u1.heap.size ≠ bb := by omega
              clear K_1 Bd_1
              have cd_2 := blk_cell Bd_2
              have zd_2 := blk_lt Bd_2
              have cn_2 := blk_cell Bn_2
              have zn_2 := blk_lt Bn_2
              go_wp2_with (first
                | ((with_reducible refine at_st 23 ?_); refine wl_store rfl rfl rfl rfl Bd_2 (by kernel_rfl) rfl (Nat.le_of_ble_eq_true rfl) (fun v3 p3 => ?_); have Bd_3 : Blk v3 bb 23 [.bool V.on, .int .u8 V.page, .int .u8 V.pos, .int .u8 V.wait, .int .u8 V.next] := p3.blk; have Bn_3 := p3.other _ _ _ nnd Bn_2; have K_3 := hid (p3.kept _ K_2.out led); clear p3 K_2 Bd_2 cd_2 zd_2 Bn_2 cn_2 zn_2; have cd_3 := blk_cell Bd_3; have zd_3 := blk_lt Bd_3; have cn_3 := blk_cell Bn_3; have zn_3 := blk_lt Bn_3))
              go_roundw
              case rel => exact ⟨i + 1, by omega, by first | go_num | rfl, by rw [VE.out]; exact Bd_3, K_3.out⟩
              case measure => first | omega | (simp; omega) | (simp [intOf]; omega)
            · by_cases hk2 : j = 2
              · skip
                have AJ := hid (fun u => step_ag_lo v x v0 v1 x0 x1 j i h1 h2 (by omega) (by omega) u)
                have tb0 : 0 ≤ (j : Int) - 2 + (i : Int) := by omega
                have tb1 : (j : Int) - 2 + (i : Int) ≤ 255 := by omega
                have e3 : IntKind.i64.wrap ((j : Int) - 2) = (j : Int) - 2 := by rw [IntKind.wrap_i64]; omega
                have e4 : IntKind.i64.wrap ((j : Int) - 2 + (i : Int)) = (j : Int) - 2 + (i : Int) := by rw [IntKind.wrap_i64]; omega
                have SC := hid (fun u => psrc19 v ((j : Int) - 2 + (i : Int)) u v0 v1 tb0 tb1)
                generalize srcD v ((j : Int) - 2 + (i : Int)) = Q at *
                clear tb0 tb1
                have g2 : decide ((i : Int) < 2) = true := decide_eq_true (by omega)
                have g3 : decide (2 < (j : Int)) = false := decide_eq_false (by omega)
                have g4 : ((j : Int) == 1) = false := by simp; omega
                obtain ⟨V, hV⟩ : ∃ V, agE v x j (i + 1) = V := ⟨_, rfl⟩
                rw [hV] at AJ
                have VE := hid hV
                clear hV
                generalize agE v x j i = U at *
                clear hk2
                go_wp2_with fail
                refine (AJ.out _).mono ?_
                rintro e u1 ⟨rfl, k1⟩
                have Bd_1 := blk_kept k1 Bd_0
                have K_1 := hid (K_0.out.trans k1)
                clear k1 Bd_0 cd_0 zd_0
                have cd_1 := blk_cell Bd_1
                have zd_1 := blk_lt Bd_1
                have Bd_2 := blk_past Bd_1 (.cells ([.bool V.on, .int .u8 V.page, .int .u8 V.pos, .int .u8 V.wait, .int .u8 V.next] : List Value).toArray 23)
                have Bn_2 := blk_new u1 [.bool V.on, .int .u8 V.page, .int .u8 V.pos, .int .u8 V.wait, .int .u8 V.next] 23
                have K_2 := hid (K_1.out.alloc (.cells ([.bool V.on, .int .u8 V.page, .int .u8 V.pos, .int .u8 V.wait, .int .u8 V.next] : List Value).toArray 23))
                have ndn : bb ≠ u1.heap.size := by omega
                have nnd : u1.heap.size ≠ bb := by omega
                clear K_1 Bd_1
                have cd_2 := blk_cell Bd_2
                have zd_2 := blk_lt Bd_2
                have cn_2 := blk_cell Bn_2
                have zn_2 := blk_lt Bn_2
                go_wp2_with (first
                  | ((with_reducible refine at_st 23 ?_); refine wl_store rfl rfl rfl rfl Bd_2 (by kernel_rfl) rfl (Nat.le_of_ble_eq_true rfl) (fun v3 p3 => ?_); have Bd_3 : Blk v3 bb 23 [.bool V.on, .int .u8 V.page, .int .u8 V.pos, .int .u8 V.wait, .int .u8 V.next] := p3.blk; have Bn_3 := p3.other _ _ _ nnd Bn_2; have K_3 := hid (p3.kept _ K_2.out led); clear p3 K_2 Bd_2 cd_2 zd_2 Bn_2 cn_2 zn_2; have cd_3 := blk_cell Bd_3; have zd_3 := blk_lt Bd_3; have cn_3 := blk_cell Bn_3; have zn_3 := blk_lt Bn_3))
                go_roundw
                case rel => exact ⟨i + 1, by omega, by first | go_num | rfl, by rw [VE.out]; exact Bd_3, K_3.out⟩
                case measure => first | omega | (simp; omega) | (simp [intOf]; omega)
              · skip
                have AJ := hid (fun u => step_ag_lo v x v0 v1 x0 x1 j i h1 h2 (by omega) (by omega) u)
                have tb0 : 0 ≤ (j : Int) - 2 + (i : Int) := by omega
                have tb1 : (j : Int) - 2 + (i : Int) ≤ 255 := by omega
                have e3 : IntKind.i64.wrap ((j : Int) - 2) = (j : Int) - 2 := by rw [IntKind.wrap_i64]; omega
                have e4 : IntKind.i64.wrap ((j : Int) - 2 + (i : Int)) = (j : Int) - 2 + (i : Int) := by rw [IntKind.wrap_i64]; omega
                have SC := hid (fun u => psrc19 v ((j : Int) - 2 + (i : Int)) u v0 v1 tb0 tb1)
                generalize srcD v ((j : Int) - 2 + (i : Int)) = Q at *
                clear tb0 tb1
                have g2 : decide ((i : Int) < 2) = true := decide_eq_true (by omega)
                have g3 : decide (2 < (j : Int)) = true := decide_eq_true (by omega)
                have g4 : ((j : Int) == 1) = false := by simp; omega
                obtain ⟨V, hV⟩ : ∃ V, agE v x j (i + 1) = V := ⟨_, rfl⟩
                rw [hV] at AJ
                have VE := hid hV
                clear hV
                generalize agE v x j i = U at *
                go_wp2_with fail
                refine (AJ.out _).mono ?_
                rintro e u1 ⟨rfl, k1⟩
                have Bd_1 := blk_kept k1 Bd_0
                have K_1 := hid (K_0.out.trans k1)
                clear k1 Bd_0 cd_0 zd_0
                have cd_1 := blk_cell Bd_1
                have zd_1 := blk_lt Bd_1
                have Bd_2 := blk_past Bd_1 (.cells ([.bool V.on, .int .u8 V.page, .int .u8 V.pos, .int .u8 V.wait, .int .u8 V.next] : List Value).toArray 23)
                have Bn_2 := blk_new u1 [.bool V.on, .int .u8 V.page, .int .u8 V.pos, .int .u8 V.wait, .int .u8 V.next] 23
                have K_2 := hid (K_1.out.alloc (.cells ([.bool V.on, .int .u8 V.page, .int .u8 V.pos, .int .u8 V.wait, .int .u8 V.next] : List Value).toArray 23))
                have ndn : bb ≠ u1.heap.size := by omega
                have nnd : u1.heap.size ≠ bb := by omega
                clear K_1 Bd_1
                have cd_2 := blk_cell Bd_2
                have zd_2 := blk_lt Bd_2
                have cn_2 := blk_cell Bn_2
                have zn_2 := blk_lt Bn_2
                go_wp2_with (first
                  | ((with_reducible refine at_st 23 ?_); refine wl_store rfl rfl rfl rfl Bd_2 (by kernel_rfl) rfl (Nat.le_of_ble_eq_true rfl) (fun v3 p3 => ?_); have Bd_3 : Blk v3 bb 23 [.bool V.on, .int .u8 V.page, .int .u8 V.pos, .int .u8 V.wait, .int .u8 V.next] := p3.blk; have Bn_3 := p3.other _ _ _ nnd Bn_2; have K_3 := hid (p3.kept _ K_2.out led); clear p3 K_2 Bd_2 cd_2 zd_2 Bn_2 cn_2 zn_2; have cd_3 := blk_cell Bd_3; have zd_3 := blk_lt Bd_3; have cn_3 := blk_cell Bn_3; have zn_3 := blk_lt Bn_3))
                refine (SC.out _).mono ?_
                rintro e ux ⟨rfl, rfl⟩
                go_wp2_with fail
                go_roundw
                case rel => exact ⟨i + 1, by omega, by first | go_num | rfl, by rw [VE.out]; exact Bd_3, K_3.out⟩
                case measure => first | omega | (simp; omega) | (simp [intOf]; omega)
          · skip
            have AJ := hid (fun u => step_ag_hi v x v0 v1 x0 x1 j i h1 h2 (by omega) (by omega) u)
            have e3 : IntKind.i64.wrap ((i : Int) - 2) = (i : Int) - 2 := by rw [IntKind.wrap_i64]; omega
            have SC := hid (fun u => psrc19 x ((i : Int) - 2) u x0 x1 (by omega) (by omega))
            generalize srcD x ((i : Int) - 2) = Q at *
            have g2 : decide ((i : Int) < 2) = false := decide_eq_false (by omega)
            obtain ⟨V, hV⟩ : ∃ V, agE v x j (i + 1) = V := ⟨_, rfl⟩
            rw [hV] at AJ
            have VE := hid hV
            clear hV
            generalize agE v x j i = U at *
            go_wp2_with fail
            refine (AJ.out _).mono ?_
            rintro e u1 ⟨rfl, k1⟩
            have Bd_1 := blk_kept k1 Bd_0
            have K_1 := hid (K_0.out.trans k1)
            clear k1 Bd_0 cd_0 zd_0
            have cd_1 := blk_cell Bd_1
            have zd_1 := blk_lt Bd_1
            have Bd_2 := blk_past Bd_1 (.cells ([.bool V.on, .int .u8 V.page, .int .u8 V.pos, .int .u8 V.wait, .int .u8 V.next] : List Value).toArray 23)
            have Bn_2 := blk_new u1 [.bool V.on, .int .u8 V.page, .int .u8 V.pos, .int .u8 V.wait, .int .u8 V.next] 23
            have K_2 := hid (K_1.out.alloc (.cells ([.bool V.on, .int .u8 V.page, .int .u8 V.pos, .int .u8 V.wait, .int .u8 V.next] : List Value).toArray 23))
            have ndn : bb ≠ u1.heap.size := by omega
            have nnd : u1.heap.size ≠ bb := by omega
            clear K_1 Bd_1
            have cd_2 := blk_cell Bd_2
            have zd_2 := blk_lt Bd_2
            have cn_2 := blk_cell Bn_2
            have zn_2 := blk_lt Bn_2
            go_wp2_with (first
              | ((with_reducible refine at_st 23 ?_); refine wl_store rfl rfl rfl rfl Bd_2 (by kernel_rfl) rfl (Nat.le_of_ble_eq_true rfl) (fun v3 p3 => ?_); have Bd_3 : Blk v3 bb 23 [.bool V.on, .int .u8 V.page, .int .u8 V.pos, .int .u8 V.wait, .int .u8 V.next] := p3.blk; have Bn_3 := p3.other _ _ _ nnd Bn_2; have K_3 := hid (p3.kept _ K_2.out led); clear p3 K_2 Bd_2 cd_2 zd_2 Bn_2 cn_2 zn_2; have cd_3 := blk_cell Bd_3; have zd_3 := blk_lt Bd_3; have cn_3 := blk_cell Bn_3; have zn_3 := blk_lt Bn_3))
            refine (SC.out _).mono ?_
            rintro e ux ⟨rfl, rfl⟩
            go_wp2_with fail
            go_roundw
            case rel => exact ⟨i + 1, by omega, by first | go_num | rfl, by rw [VE.out]; exact Bd_3, K_3.out⟩
            case measure => first | omega | (simp; omega) | (simp [intOf]; omega)
        · have je : i = 162 := by omega
          subst je
          have g1 : decide (((162 : Nat) : Int) < 162) = false := by decide
          have BE : Blk wr bb 23 [.bool false, .int .u8 x, .int .u8 0, .int .u8 0, .int .u8 x] := by have q := Bd_0; rw [ag_end] at q; exact q
          have cE := blk_cell BE
          clear Bd_0 cd_0
          go_wp2
          go_ret
          exact ⟨rfl, K_0.out⟩
end Go.Proofs.Ytoohpdnmdnjpaaa
