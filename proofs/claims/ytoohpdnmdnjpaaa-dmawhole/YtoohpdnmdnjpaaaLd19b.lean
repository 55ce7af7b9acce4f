/- Layer 19: DmaWhole, as a walk. -/
import Derived.Test.YtoohpdnmdnjpaaaSw19
namespace Go.Proofs.Ytoohpdnmdnjpaaa
open Go.RowKit
set_option linter.unusedVariables false
set_option linter.unusedSimpArgs false

set_option maxRecDepth 100000 in
set_option maxHeartbeats 4000000 in
theorem whole19 (v : Int) (w : World) (v0 : 0 ≤ v) (v1 : v ≤ 255) : Calls Try.prog 6 #[.int .u8 v] w fun e w' => e = .returned (.bool true) ∧ Kept w w' := by
  have S := hid kshown19
  have W := hid (ask_wh v)
  obtain ⟨V0, hV0⟩ : ∃ V, whE v 0 = V := ⟨_, rfl⟩
  rw [hV0] at W
  have E0 := hid hV0
  clear hV0
  go_enter Try.func6, Try.ntmps6
  go_wp2_with fail
  refine (S.out _).mono ?_
  rintro e u1 ⟨rfl, k1⟩
  have K_1 := hid k1
  clear k1
  go_wp2_with fail
  refine (W.out _).mono ?_
  rintro e u2 ⟨rfl, k2⟩
  have K_2 := hid (K_1.out.trans k2)
  clear k2 K_1
  have lowu : w.heap.size ≤ u2.heap.size := K_2.out.size
  have Bd_3 := blk_new u2 [.bool V0.on, .int .u8 V0.page, .int .u8 V0.pos, .int .u8 V0.wait, .int .u8 V0.next] 23
  have K_3 := hid (K_2.out.alloc (.cells ([.bool V0.on, .int .u8 V0.page, .int .u8 V0.pos, .int .u8 V0.wait, .int .u8 V0.next] : List Value).toArray 23))
  clear K_2 
  have cd_3 := blk_cell Bd_3
  have zd_3 := blk_lt Bd_3
  obtain ⟨bb, hbb⟩ : ∃ b, u2.heap.size = b := ⟨_, rfl⟩
  have led : w.heap.size ≤ bb := by rw [← hbb]; exact lowu
  go_wp2_with fail
  rw [hbb] at Bd_3
  try rw [hbb]
  have BL := hid Bd_3
  clear Bd_3 cd_3 zd_3
  go_loopw [5] (fun iv wr => ∃ i : Nat, 1 ≤ i ∧ i ≤ 171 ∧ iv = .int .i64 (i : Int) ∧ Blk wr bb 23 [.bool (whE v (i - 1)).on, .int .u8 (whE v (i - 1)).page, .int .u8 (whE v (i - 1)).pos, .int .u8 (whE v (i - 1)).wait, .int .u8 (whE v (i - 1)).next] ∧ Kept w wr) (fun iv _ => 171 - (intOf iv).toNat)
  case atStart => exact ⟨1, Nat.le_refl _, by omega, rfl, by rw [show 1 - 1 = 0 from rfl, E0.out]; exact BL.out, K_3.out⟩
  case round =>
    obtain ⟨i, hi, hj, rfl, hq, hk⟩ := hrel
    have Bd_0 := hq
    have K_0 := hid hk
    have cd_0 := blk_cell hq
    have zd_0 := blk_lt hq
    clear hq hk
    clear BL K_3 E0 W
    by_cases hlt : i ≤ 170
    · have g1 : decide ((i : Int) ≤ 170) = true := decide_eq_true (by omega)
      have e1 : IntKind.i64.wrap ((i : Int) + 1) = (i : Int) + 1 := by rw [IntKind.wrap_i64]; omega
      by_cases h3 : i < 3
      · skip
        have AJ := hid (fun u => step_wh_no v v0 v1 (i - 1) (by omega) u)
        have g2 : decide (3 ≤ (i : Int)) = false := decide_eq_false (by omega)
        obtain ⟨V, hV⟩ : ∃ V, whE v (i - 1 + 1) = V := ⟨_, rfl⟩
        rw [hV] at AJ
        have VE := hid (show whE v (i + 1 - 1) = V by rw [← hV]; congr 1; omega)
        clear hV
        generalize whE v (i - 1) = U at *
        go_wp2_with fail
        refine (AJ.out _).mono ?_
        rintro e u1 ⟨rfl, k1⟩
        have Bd_1 := blk_kept k1 Bd_0
        have K_1 := hid (K_0.out.trans k1)
        clear k1 Bd_0 cd_0 zd_0
        have cd_1 := blk_cell Bd_1
        have zd_1 := blk_lt Bd_1
        have Bd_2 := blk_past Bd_1 (.cells ([.bool V.on, .int .u8 V.page, .int .u8 V.pos, .int .u8 V.wait, .int .u8 V.next] : List Value).toArray 23)
        have Bn_2 := blk_new u1 [.bool V.on, .int .u8 V.page, .int .u8 V.pos, .int .u8 V.wait, .int .u8 V.next] 23
        have K_2 := hid (K_1.out.alloc (.cells ([.bool V.on, .int .u8 V.page, .int .u8 V.pos, .int .u8 V.wait, .int .u8 V.next] : List Value).toArray 23))
        have ndn : bb ≠ u1.heap.size := by omega
        have nnd : u1.heap.size ≠ bb := by omega
        clear K_1 Bd_1
        have cd_2 := blk_cell Bd_2
        have zd_2 := blk_lt Bd_2
        have cn_2 := blk_cell Bn_2
        have zn_2 := blk_lt Bn_2
        go_wp2_with (first
          | ((with_reducible refine at_st 23 ?_); refine wl_store rfl rfl rfl rfl Bd_2 (by kernel_rfl) rfl (Nat.le_of_ble_eq_true rfl) (fun v3 p3 => ?_); have Bd_3 : Blk v3 bb 23 [.bool V.on, .int .u8 V.page, .int .u8 V.pos, .int .u8 V.wait, .int .u8 V.next] := p3.blk; have Bn_3 := p3.other _ _ _ nnd Bn_2; have K_3 := hid (p3.kept _ K_2.out led); clear p3 K_2 Bd_2 cd_2 zd_2 Bn_2 cn_2 zn_2; have cd_3 := blk_cell Bd_3; have zd_3 := blk_lt Bd_3; have cn_3 := blk_cell Bn_3; have zn_3 := blk_lt Bn_3))
        go_roundw
        case rel => exact ⟨i + 1, by omega, by omega, by first | go_num | rfl, by rw [VE.out]; exact Bd_3, K_3.out⟩
        case measure => first | omega | (simp; omega) | (simp [intOf]; omega)
      · by_cases h4 : i ≤ 162
        · skip
          have AJ := hid (fun u => step_wh_yes v v0 v1 (i - 1) (by omega) (by omega) u)
          have eT : ((i - 1 : Nat) : Int) - 2 = (i : Int) - 3 := by omega
          rw [eT] at AJ
          have e3 : IntKind.i64.wrap ((i : Int) - 3) = (i : Int) - 3 := by rw [IntKind.wrap_i64]; omega
          have g2 : decide (3 ≤ (i : Int)) = true := decide_eq_true (by omega)
          have g3 : decide ((i : Int) ≤ 162) = true := decide_eq_true (by omega)
          have SC := hid (fun u => psrc19 v ((i : Int) - 3) u v0 v1 (by omega) (by omega))
          have sl := src_in v0 v1 (show 0 ≤ (i : Int) - 3 by omega) (show (i : Int) - 3 ≤ 255 by omega)
          generalize srcD v ((i : Int) - 3) = Q at *
          have g4 : decide (57344 ≤ Q) = false := decide_eq_false (by omega)
          clear sl eT
          obtain ⟨V, hV⟩ : ∃ V, whE v (i - 1 + 1) = V := ⟨_, rfl⟩
          rw [hV] at AJ
          have VE := hid (show whE v (i + 1 - 1) = V by rw [← hV]; congr 1; omega)
          clear hV
          generalize whE v (i - 1) = U at *
          go_wp2_with fail
          refine (AJ.out _).mono ?_
          rintro e u1 ⟨rfl, k1⟩
          have Bd_1 := blk_kept k1 Bd_0
          have K_1 := hid (K_0.out.trans k1)
          clear k1 Bd_0 cd_0 zd_0
          have cd_1 := blk_cell Bd_1
          have zd_1 := blk_lt Bd_1
          have Bd_2 := blk_past Bd_1 (.cells ([.bool V.on, .int .u8 V.page, .int .u8 V.pos, .int .u8 V.wait, .int .u8 V.next] : List Value).toArray 23)
          have Bn_2 := blk_new u1 [.bool V.on, .int .u8 V.page, .int .u8 V.pos, .int .u8 V.wait, .int .u8 V.next] 23
          have K_2 := hid (K_1.out.alloc (.cells ([.bool V.on, .int .u8 V.page, .int .u8 V.pos, .int .u8 V.wait, .int .u8 V.next] : List Value).toArray 23))
          have ndn : bb ≠ u1.heap.size := by omega
          have nnd : u1.heap.size ≠ bb := by omega
          clear K_1 Bd_1
          have cd_2 := blk_cell Bd_2
          have zd_2 := blk_lt Bd_2
          have cn_2 := blk_cell Bn_2
          have zn_2 := blk_lt Bn_2
          go_wp2_with (first
            | ((with_reducible refine at_st 23 ?_); refine wl_store rfl rfl rfl rfl Bd_2 (by kernel_rfl) rfl (Nat.le_of_ble_eq_true rfl) (fun v3 p3 => ?_); have Bd_3 : Blk v3 bb 23 [.bool V.on, .int .u8 V.page, .int .u8 V.pos, .int .u8 V.wait, .int .u8 V.next] := p3.blk; have Bn_3 := p3.other _ _ _ nnd Bn_2; have K_3 := hid (p3.kept _ K_2.out led); clear p3 K_2 Bd_2 cd_2 zd_2 Bn_2 cn_2 zn_2; have cd_3 := blk_cell Bd_3; have zd_3 := blk_lt Bd_3; have cn_3 := blk_cell Bn_3; have zn_3 := blk_lt Bn_3))
          refine (SC.out _).mono ?_
          rintro e ux ⟨rfl, rfl⟩
          go_wp2_with fail
          go_roundw
          case rel => exact ⟨i + 1, by omega, by omega, by first | go_num | rfl, by rw [VE.out]; exact Bd_3, K_3.out⟩
          case measure => first | omega | (simp; omega) | (simp [intOf]; omega)
        · skip
          have AJ := hid (fun u => step_wh_no v v0 v1 (i - 1) (by omega) u)
          have g2 : decide (3 ≤ (i : Int)) = true := decide_eq_true (by omega)
          have g3 : decide ((i : Int) ≤ 162) = false := decide_eq_false (by omega)
          obtain ⟨V, hV⟩ : ∃ V, whE v (i - 1 + 1) = V := ⟨_, rfl⟩
          rw [hV] at AJ
          have VE := hid (show whE v (i + 1 - 1) = V by rw [← hV]; congr 1; omega)
          clear hV
          generalize whE v (i - 1) = U at *
          go_wp2_with fail
          refine (AJ.out _).mono ?_
          rintro e u1 ⟨rfl, k1⟩
          have Bd_1 := blk_kept k1 Bd_0
          have K_1 := hid (K_0.out.trans k1)
          clear k1 Bd_0 cd_0 zd_0
          have cd_1 := blk_cell Bd_1
          have zd_1 := blk_lt Bd_1
          have Bd_2 := blk_past Bd_1 (.cells ([.bool V.on, .int .u8 V.page, .int .u8 V.pos, .int .u8 V.wait, .int .u8 V.next] : List Value).toArray 23)
          have Bn_2 := blk_new u1 [.bool V.on, .int .u8 V.page, .int .u8 V.pos, .int .u8 V.wait, .int .u8 V.next] 23
          have K_2 := hid (K_1.out.alloc (.cells ([.bool V.on, .int .u8 V.page, .int .u8 V.pos, .int .u8 V.wait, .int .u8 V.next] : List Value).toArray 23))
          have ndn : bb ≠ u1.heap.size := by omega
          have nnd : u1.heap.size ≠ bb := by omega
          clear K_1 Bd_1
          have cd_2 := blk_cell Bd_2
          have zd_2 := blk_lt Bd_2
          have cn_2 := blk_cell Bn_2
          have zn_2 := blk_lt Bn_2
          go_wp2_with (first
            | ((with_reducible refine at_st 23 ?_); refine wl_store rfl rfl rfl rfl Bd_2 (by kernel_rfl) rfl (Nat.le_of_ble_eq_true rfl) (fun v3 p3 => ?_); have Bd_3 : Blk v3 bb 23 [.bool V.on, .int .u8 V.page, .int .u8 V.pos, .int .u8 V.wait, .int .u8 V.next] := p3.blk; have Bn_3 := p3.other _ _ _ nnd Bn_2; have K_3 := hid (p3.kept _ K_2.out led); clear p3 K_2 Bd_2 cd_2 zd_2 Bn_2 cn_2 zn_2; have cd_3 := blk_cell Bd_3; have zd_3 := blk_lt Bd_3; have cn_3 := blk_cell Bn_3; have zn_3 := blk_lt Bn_3))
          go_roundw
          case rel => exact ⟨i + 1, by omega, by omega, by first | go_num | rfl, by rw [VE.out]; exact Bd_3, K_3.out⟩
          case measure => first | omega | (simp; omega) | (simp [intOf]; omega)
    · have je : i = 171 := by omega
      subst je
      have g1 : decide (((171 : Nat) : Int) ≤ 170) = false := by decide
      have BE : Blk wr bb 23 [.bool false, .int .u8 v, .int .u8 0, .int .u8 0, .int .u8 v] := by have q := Bd_0; rw [show 171 - 1 = 170 from rfl, wh_end v 170 (by decide)] at q; exact q
      have RD : ∀ u, Calls Try.prog 11 #[.agg #[.bool false, .int .u8 v, .int .u8 0, .int .u8 0, .int .u8 v]] u fun e w' => e = .returned (.int .u8 v) ∧ Kept u w' := fun u => pread19 ⟨false, v, 0, 0, v⟩ u
      have RD := hid RD
      have cE := blk_cell BE
      clear Bd_0 cd_0
      go_wp2_with fail
      refine (RD.out _).mono ?_
      rintro e u9 ⟨rfl, k9⟩
      have K9 := hid (K_0.out.trans k9)
      clear k9
      go_wp2
      go_ret
      exact ⟨rfl, K9.out⟩
end Go.Proofs.Ytoohpdnmdnjpaaa
