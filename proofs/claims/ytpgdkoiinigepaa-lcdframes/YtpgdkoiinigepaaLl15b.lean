/- Layer 15: LcdFrames, as a walk. -/
import Derived.Test.YtpgdkoiinigepaaSw15
import Derived.Test.YtpgdkoiinigepaaLf15
namespace Go.Proofs.Ytpgdkoiinigepaa
open Go.RowKit
set_option linter.unusedVariables false
set_option linter.unusedSimpArgs false

theorem frame_step (j : Nat) (l : Lc) (hj : j < 70224) (h : AtF j l) (f d : Bool) (hf : decide (j = 65663) = f) (hd : decide (j % 456 = 79 ∧ j < 65664) = d) (X : Int) (X0 : 0 ≤ X) (X1 : X ≤ 65535) (u : World) : Calls Try.prog 16 #[lcV l, .int .u16 X] u fun e w' => (∃ V r, e = .returned (.tuple #[lcV V, evV f r d]) ∧ AtF (j + 1) V) ∧ Kept u w' := by
  refine (pstep15 l X u h.inn X0 X1).mono ?_
  rintro e w' ⟨rfl, k⟩
  rw [at_frame j l hj h, at_draw j l hj h, hf, hd]
  exact ⟨⟨_, _, rfl, at_next j l X hj h X0⟩, k⟩
theorem frame_mode (j : Nat) (V : Lc) (h : AtF (j + 1) V) (q : j % 456 = 79 ∧ j < 65664) (u : World) : Calls Try.prog 12 #[lcV V] u fun e w' => e = .returned (.int .i64 3) ∧ Kept u w' := by
  have m := pmode15 V u h.inn
  rw [at_mode3 j V h q] at m
  exact m
set_option maxRecDepth 100000 in
set_option maxHeartbeats 4000000 in
theorem frames15 (x sel lyc : Int) (w : World) (x0 : 0 ≤ x) (x1 : x ≤ 65535) (s0 : 0 ≤ sel) (s1 : sel ≤ 255) (y0 : 0 ≤ lyc) (y1 : lyc ≤ 255) : Calls Try.prog 8 #[.int .u16 x, .int .u8 sel, .int .u8 lyc] w fun e w' => e = .returned (.bool true) ∧ Kept w w' := by
  have S := hid kshown15
  have I0 : LcIn ⟨false, 0, 0, lyc, sel, false, 0⟩ := ⟨Int.le_refl 0, (by decide : (0 : Int) ≤ 255), Int.le_refl 0, (by decide : (0 : Int) ≤ 65535), y0, y1, s0, s1, Int.le_refl 0, (by decide : (0 : Int) ≤ 65535)⟩
  have A0 := hid (show AtF 0 (powL ⟨false, 0, 0, lyc, sel, false, 0⟩ true) from at_begin _ I0)
  have PW := hid (fun u => ppow15 ⟨false, 0, 0, lyc, sel, false, 0⟩ true u I0)
  generalize powL ⟨false, 0, 0, lyc, sel, false, 0⟩ true = V0 at *
  generalize powR ⟨false, 0, 0, lyc, sel, false, 0⟩ true = R0 at *
  clear I0
  go_enter Try.func8, Try.ntmps8
  go_wp2_with fail
  refine (S.out _).mono ?_
  rintro e u1 ⟨rfl, k1⟩
  have K_1 := hid k1
  clear k1
  go_wp2_with fail
  refine (PW.out _).mono ?_
  rintro e u2 ⟨rfl, k2⟩
  have K_2 := hid (K_1.out.trans k2)
  clear k2 K_1
  have lowu : w.heap.size ≤ u2.heap.size := K_2.out.size
  have Bl_3 := blk_new u2 [.bool V0.on, .int .u8 V0.line, .int .u16 V0.dot, .int .u8 V0.lyc, .int .u8 V0.sel, .bool V0.high, .int .u16 V0.extra] 24
  have K_3 := hid (K_2.out.alloc (.cells ([.bool V0.on, .int .u8 V0.line, .int .u16 V0.dot, .int .u8 V0.lyc, .int .u8 V0.sel, .bool V0.high, .int .u16 V0.extra] : List Value).toArray 24))
  clear K_2 
  have cl_3 := blk_cell Bl_3
  have zl_3 := blk_lt Bl_3
  obtain ⟨bb, hbb⟩ : ∃ b, u2.heap.size = b := ⟨_, rfl⟩
  have lel : w.heap.size ≤ bb := by rw [← hbb]; exact lowu
  go_wp2_with fail
  rw [hbb] at Bl_3
  try rw [hbb]
  have BL := hid Bl_3
  clear Bl_3 cl_3 zl_3
  go_loopw [10, 11, 12] (fun fv dv iv wr => ∃ (j : Nat) (l : Lc), j ≤ 70224 ∧ fv = .int .i64 (fN j) ∧ dv = .int .i64 (dN j) ∧ iv = .int .i64 (j : Int) ∧ Hid (AtF j l) ∧ Blk wr bb 24 [.bool l.on, .int .u8 l.line, .int .u16 l.dot, .int .u8 l.lyc, .int .u8 l.sel, .bool l.high, .int .u16 l.extra] ∧ Kept w wr) (fun _ _ iv _ => 70224 - (intOf iv).toNat)
  case atStart => exact ⟨0, V0, Nat.zero_le _, rfl, rfl, rfl, A0, BL.out, K_3.out⟩
  case round =>
    obtain ⟨j, l, hj, rfl, rfl, rfl, hA, hq, hk⟩ := hrel
    have Bl_0 := hq
    have K_0 := hid hk
    have cl_0 := blk_cell hq
    have zl_0 := blk_lt hq
    clear hq hk BL K_3
    have fi0 := (fN_in j).1
    have fi1 := (fN_in j).2
    have di0 := (dN_in j).1
    have di1 := (dN_in j).2
    by_cases hlt : j < 70224
    · have g1 : decide ((j : Int) < 70224) = true := decide_eq_true (by omega)
      by_cases hF : j = 65663
      · have hD : ¬ (j % 456 = 79 ∧ j < 65664) := by omega
        have AX := hid (frame_step j l hlt hA.out true false (decide_eq_true hF) (decide_eq_false hD))
        have F1 := hid (fN_at j hF)
        have D1 := hid (dN_no j hD)
        have fj : ((j : Int) != 65663) = false := by rw [hF]; rfl
        have JF := hid hF
        clear hF hD
        go_wp2_with fail
        refine (AX.out _ (by first | omega | (rw [IntKind.wrap_u16]; omega)) (by first | omega | (rw [IntKind.wrap_u16]; omega)) _).mono ?_
        rintro e u1 ⟨⟨V, r, rfl, hV⟩, k1⟩
        have vl : (V.line != 144) = false := by rw [hV.line, JF.out]; rfl
        have HV := hid hV
        clear hV
        have Bl_1 := blk_kept k1 Bl_0
        have K_1 := hid (K_0.out.trans k1)
        clear k1 Bl_0 cl_0 zl_0
        have cl_1 := blk_cell Bl_1
        have zl_1 := blk_lt Bl_1
        have Bl_2 := blk_past (blk_past Bl_1 (.cells ([.bool false, .int .u8 0, .int .u16 0, .int .u8 0, .int .u8 0, .bool false, .int .u16 0] : List Value).toArray 24)) (.cells ([.bool false, .bool false, .bool false] : List Value).toArray 31)
        have Bm_2 : Blk ((u1.alloc (.cells ([.bool false, .int .u8 0, .int .u16 0, .int .u8 0, .int .u8 0, .bool false, .int .u16 0] : List Value).toArray 24)).alloc (.cells ([.bool false, .bool false, .bool false] : List Value).toArray 31)) u1.heap.size 24 [.bool false, .int .u8 0, .int .u16 0, .int .u8 0, .int .u8 0, .bool false, .int .u16 0] := blk_past (blk_new u1 _ _) _
        have Be_2 : Blk ((u1.alloc (.cells ([.bool false, .int .u8 0, .int .u16 0, .int .u8 0, .int .u8 0, .bool false, .int .u16 0] : List Value).toArray 24)).alloc (.cells ([.bool false, .bool false, .bool false] : List Value).toArray 31)) (u1.heap.size + 1) 31 [.bool false, .bool false, .bool false] := by have q := blk_new (u1.alloc (.cells ([.bool false, .int .u8 0, .int .u16 0, .int .u8 0, .int .u8 0, .bool false, .int .u16 0] : List Value).toArray 24)) [.bool false, .bool false, .bool false] 31; rw [World.size_alloc] at q; exact q
        have K_2 := hid ((K_1.out.alloc (.cells ([.bool false, .int .u8 0, .int .u16 0, .int .u8 0, .int .u8 0, .bool false, .int .u16 0] : List Value).toArray 24)).alloc (.cells ([.bool false, .bool false, .bool false] : List Value).toArray 31))
        have nlm : bb ≠ u1.heap.size := by omega
        have nml : u1.heap.size ≠ bb := by omega
        have nle : bb ≠ u1.heap.size + 1 := by omega
        have nel : u1.heap.size + 1 ≠ bb := by omega
        have nme : u1.heap.size ≠ u1.heap.size + 1 := by omega
        have nem : u1.heap.size + 1 ≠ u1.heap.size := by omega
        have lem : w.heap.size ≤ u1.heap.size := K_1.out.size
        have lee : w.heap.size ≤ u1.heap.size + 1 := by omega
        clear K_1 Bl_1 cl_1 zl_1
        go_wp2_with (first
          | ((with_reducible refine at_st 24 ?_); refine wl_store rfl rfl rfl rfl Bm_2 (by kernel_rfl) rfl (Nat.le_of_ble_eq_true rfl) (fun v3 p3 => ?_); have Bm_3 : Blk v3 u1.heap.size 24 [.bool V.on, .int .u8 V.line, .int .u16 V.dot, .int .u8 V.lyc, .int .u8 V.sel, .bool V.high, .int .u16 V.extra] := p3.blk; have Bl_3 := p3.other _ _ _ nlm Bl_2; have Be_3 := p3.other _ _ _ nem Be_2; have K_3 := hid (p3.kept _ K_2.out lem); clear p3 K_2 Bl_2 Bm_2 Be_2; have cl_3 := blk_cell Bl_3; have zl_3 := blk_lt Bl_3; have cm_3 := blk_cell Bm_3; have zm_3 := blk_lt Bm_3; have ce_3 := blk_cell Be_3; have ze_3 := blk_lt Be_3)
          | ((with_reducible refine at_st 31 ?_); refine wl_store rfl rfl rfl rfl Be_3 (by kernel_rfl) rfl (Nat.le_of_ble_eq_true rfl) (fun v4 p4 => ?_); have Be_4 : Blk v4 (u1.heap.size + 1) 31 [.bool true, .bool r, .bool false] := p4.blk; have Bl_4 := p4.other _ _ _ nle Bl_3; have Bm_4 := p4.other _ _ _ nme Bm_3; have K_4 := hid (p4.kept _ K_3.out lee); clear p4 K_3 Bl_3 cl_3 zl_3 Bm_3 cm_3 zm_3 Be_3 ce_3 ze_3; have cl_4 := blk_cell Bl_4; have zl_4 := blk_lt Bl_4; have cm_4 := blk_cell Bm_4; have zm_4 := blk_lt Bm_4; have ce_4 := blk_cell Be_4; have ze_4 := blk_lt Be_4)
          | ((with_reducible refine at_st 24 ?_); refine wl_store rfl rfl rfl rfl Bl_4 (by kernel_rfl) rfl (Nat.le_of_ble_eq_true rfl) (fun v5 p5 => ?_); have Bl_5 : Blk v5 bb 24 [.bool V.on, .int .u8 V.line, .int .u16 V.dot, .int .u8 V.lyc, .int .u8 V.sel, .bool V.high, .int .u16 V.extra] := p5.blk; have Bm_5 := p5.other _ _ _ nml Bm_4; have Be_5 := p5.other _ _ _ nel Be_4; have K_5 := hid (p5.kept _ K_4.out lel); clear p5 K_4 Bl_4 cl_4 zl_4 Bm_4 cm_4 zm_4 Be_4 ce_4 ze_4; have cl_5 := blk_cell Bl_5; have zl_5 := blk_lt Bl_5; have cm_5 := blk_cell Bm_5; have zm_5 := blk_lt Bm_5; have ce_5 := blk_cell Be_5; have ze_5 := blk_lt Be_5))
        go_roundw
        case rel => exact ⟨j + 1, V, by omega, by first | (rw [F1.out]; done) | (rw [F1.out]; first | rfl | go_num), by first | (rw [D1.out]; done) | (rw [D1.out]; first | rfl | go_num), by first | go_num | rfl, HV, Bl_5, K_5.out⟩
        case measure => first | omega | (simp; omega) | (simp [intOf]; omega)
      · by_cases hD : j % 456 = 79 ∧ j < 65664
        · skip
          have AX := hid (frame_step j l hlt hA.out false true (decide_eq_false hF) (decide_eq_true hD))
          have F1 := hid (fN_no j hF)
          have D1 := hid (dN_at j hD)
          have JD := hid hD
          clear hF hD
          go_wp2_with fail
          refine (AX.out _ (by first | omega | (rw [IntKind.wrap_u16]; omega)) (by first | omega | (rw [IntKind.wrap_u16]; omega)) _).mono ?_
          rintro e u1 ⟨⟨V, r, rfl, hV⟩, k1⟩
          have HM := hid (frame_mode j V hV JD.out)
          have HV := hid hV
          clear hV
          have Bl_1 := blk_kept k1 Bl_0
          have K_1 := hid (K_0.out.trans k1)
          clear k1 Bl_0 cl_0 zl_0
          have cl_1 := blk_cell Bl_1
          have zl_1 := blk_lt Bl_1
          have Bl_2 := blk_past (blk_past Bl_1 (.cells ([.bool false, .int .u8 0, .int .u16 0, .int .u8 0, .int .u8 0, .bool false, .int .u16 0] : List Value).toArray 24)) (.cells ([.bool false, .bool false, .bool false] : List Value).toArray 31)
          have Bm_2 : Blk ((u1.alloc (.cells ([.bool false, .int .u8 0, .int .u16 0, .int .u8 0, .int .u8 0, .bool false, .int .u16 0] : List Value).toArray 24)).alloc (.cells ([.bool false, .bool false, .bool false] : List Value).toArray 31)) u1.heap.size 24 [.bool false, .int .u8 0, .int .u16 0, .int .u8 0, .int .u8 0, .bool false, .int .u16 0] := blk_past (blk_new u1 _ _) _
          have Be_2 : Blk ((u1.alloc (.cells ([.bool false, .int .u8 0, .int .u16 0, .int .u8 0, .int .u8 0, .bool false, .int .u16 0] : List Value).toArray 24)).alloc (.cells ([.bool false, .bool false, .bool false] : List Value).toArray 31)) (u1.heap.size + 1) 31 [.bool false, .bool false, .bool false] := by have q := blk_new (u1.alloc (.cells ([.bool false, .int .u8 0, .int .u16 0, .int .u8 0, .int .u8 0, .bool false, .int .u16 0] : List Value).toArray 24)) [.bool false, .bool false, .bool false] 31; rw [World.size_alloc] at q; exact q
          have K_2 := hid ((K_1.out.alloc (.cells ([.bool false, .int .u8 0, .int .u16 0, .int .u8 0, .int .u8 0, .bool false, .int .u16 0] : List Value).toArray 24)).alloc (.cells ([.bool false, .bool false, .bool false] : List Value).toArray 31))
          have nlm : bb ≠ u1.heap.size := by omega
          have nml : u1.heap.size ≠ bb := by omega
          have nle : bb ≠ u1.heap.size + 1 := by omega
          have nel : u1.heap.size + 1 ≠ bb := by omega
          have nme : u1.heap.size ≠ u1.heap.size + 1 := by omega
          have nem : u1.heap.size + 1 ≠ u1.heap.size := by omega
          have lem : w.heap.size ≤ u1.heap.size := K_1.out.size
          have lee : w.heap.size ≤ u1.heap.size + 1 := by omega
          clear K_1 Bl_1 cl_1 zl_1
          go_wp2_with (first
            | ((with_reducible refine at_st 24 ?_); refine wl_store rfl rfl rfl rfl Bm_2 (by kernel_rfl) rfl (Nat.le_of_ble_eq_true rfl) (fun v3 p3 => ?_); have Bm_3 : Blk v3 u1.heap.size 24 [.bool V.on, .int .u8 V.line, .int .u16 V.dot, .int .u8 V.lyc, .int .u8 V.sel, .bool V.high, .int .u16 V.extra] := p3.blk; have Bl_3 := p3.other _ _ _ nlm Bl_2; have Be_3 := p3.other _ _ _ nem Be_2; have K_3 := hid (p3.kept _ K_2.out lem); clear p3 K_2 Bl_2 Bm_2 Be_2; have cl_3 := blk_cell Bl_3; have zl_3 := blk_lt Bl_3; have cm_3 := blk_cell Bm_3; have zm_3 := blk_lt Bm_3; have ce_3 := blk_cell Be_3; have ze_3 := blk_lt Be_3)
            | ((with_reducible refine at_st 31 ?_); refine wl_store rfl rfl rfl rfl Be_3 (by kernel_rfl) rfl (Nat.le_of_ble_eq_true rfl) (fun v4 p4 => ?_); have Be_4 : Blk v4 (u1.heap.size + 1) 31 [.bool false, .bool r, .bool true] := p4.blk; have Bl_4 := p4.other _ _ _ nle Bl_3; have Bm_4 := p4.other _ _ _ nme Bm_3; have K_4 := hid (p4.kept _ K_3.out lee); clear p4 K_3 Bl_3 cl_3 zl_3 Bm_3 cm_3 zm_3 Be_3 ce_3 ze_3; have cl_4 := blk_cell Bl_4; have zl_4 := blk_lt Bl_4; have cm_4 := blk_cell Bm_4; have zm_4 := blk_lt Bm_4; have ce_4 := blk_cell Be_4; have ze_4 := blk_lt Be_4)
            | ((with_reducible refine at_st 24 ?_); refine wl_store rfl rfl rfl rfl Bl_4 (by kernel_rfl) rfl (Nat.le_of_ble_eq_true rfl) (fun v5 p5 => ?_); have Bl_5 : Blk v5 bb 24 [.bool V.on, .int .u8 V.line, .int .u16 V.dot, .int .u8 V.lyc, .int .u8 V.sel, .bool V.high, .int .u16 V.extra] := p5.blk; have Bm_5 := p5.other _ _ _ nml Bm_4; have Be_5 := p5.other _ _ _ nel Be_4; have K_5 := hid (p5.kept _ K_4.out lel); clear p5 K_4 Bl_4 cl_4 zl_4 Bm_4 cm_4 zm_4 Be_4 ce_4 ze_4; have cl_5 := blk_cell Bl_5; have zl_5 := blk_lt Bl_5; have cm_5 := blk_cell Bm_5; have zm_5 := blk_lt Bm_5; have ce_5 := blk_cell Be_5; have ze_5 := blk_lt Be_5))
          refine (HM.out _).mono ?_
          rintro e u6 ⟨rfl, k6⟩
          have Bl_6 := blk_kept k6 Bl_5
          have Bm_6 := blk_kept k6 Bm_5
          have Be_6 := blk_kept k6 Be_5
          have K_6 := hid (K_5.out.trans k6)
          clear k6 K_5 Bl_5 cl_5 zl_5 Bm_5 cm_5 zm_5 Be_5 ce_5 ze_5
          have cl_6 := blk_cell Bl_6
          have zl_6 := blk_lt Bl_6
          have cm_6 := blk_cell Bm_6
          have zm_6 := blk_lt Bm_6
          have ce_6 := blk_cell Be_6
          have ze_6 := blk_lt Be_6
          go_wp2_with fail
          go_roundw
          case rel => exact ⟨j + 1, V, by omega, by first | (rw [F1.out]; done) | (rw [F1.out]; first | rfl | go_num), by first | (rw [D1.out]; done) | (rw [D1.out]; first | rfl | go_num), by first | go_num | rfl, HV, Bl_6, K_6.out⟩
          case measure => first | omega | (simp; omega) | (simp [intOf]; omega)
        · skip
          have AX := hid (frame_step j l hlt hA.out false false (decide_eq_false hF) (decide_eq_false hD))
          have F1 := hid (fN_no j hF)
          have D1 := hid (dN_no j hD)
          clear hF hD
          go_wp2_with fail
          refine (AX.out _ (by first | omega | (rw [IntKind.wrap_u16]; omega)) (by first | omega | (rw [IntKind.wrap_u16]; omega)) _).mono ?_
          rintro e u1 ⟨⟨V, r, rfl, hV⟩, k1⟩
          have HV := hid hV
          clear hV
          have Bl_1 := blk_kept k1 Bl_0
          have K_1 := hid (K_0.out.trans k1)
          clear k1 Bl_0 cl_0 zl_0
          have cl_1 := blk_cell Bl_1
          have zl_1 := blk_lt Bl_1
          have Bl_2 := blk_past (blk_past Bl_1 (.cells ([.bool false, .int .u8 0, .int .u16 0, .int .u8 0, .int .u8 0, .bool false, .int .u16 0] : List Value).toArray 24)) (.cells ([.bool false, .bool false, .bool false] : List Value).toArray 31)
          have Bm_2 : Blk ((u1.alloc (.cells ([.bool false, .int .u8 0, .int .u16 0, .int .u8 0, .int .u8 0, .bool false, .int .u16 0] : List Value).toArray 24)).alloc (.cells ([.bool false, .bool false, .bool false] : List Value).toArray 31)) u1.heap.size 24 [.bool false, .int .u8 0, .int .u16 0, .int .u8 0, .int .u8 0, .bool false, .int .u16 0] := blk_past (blk_new u1 _ _) _
          have Be_2 : Blk ((u1.alloc (.cells ([.bool false, .int .u8 0, .int .u16 0, .int .u8 0, .int .u8 0, .bool false, .int .u16 0] : List Value).toArray 24)).alloc (.cells ([.bool false, .bool false, .bool false] : List Value).toArray 31)) (u1.heap.size + 1) 31 [.bool false, .bool false, .bool false] := by have q := blk_new (u1.alloc (.cells ([.bool false, .int .u8 0, .int .u16 0, .int .u8 0, .int .u8 0, .bool false, .int .u16 0] : List Value).toArray 24)) [.bool false, .bool false, .bool false] 31; rw [World.size_alloc] at q; exact q
          have K_2 := hid ((K_1.out.alloc (.cells ([.bool false, .int .u8 0, .int .u16 0, .int .u8 0, .int .u8 0, .bool false, .int .u16 0] : List Value).toArray 24)).alloc (.cells ([.bool false, .bool false, .bool false] : List Value).toArray 31))
          have nlm : bb ≠ u1.heap.size := by omega
          have nml : u1.heap.size ≠ bb := by omega
          have nle : bb ≠ u1.heap.size + 1 := by omega
          have nel : u1.heap.size + 1 ≠ bb := by omega
          have nme : u1.heap.size ≠ u1.heap.size + 1 := by omega
          have nem : u1.heap.size + 1 ≠ u1.heap.size := by omega
          have lem : w.heap.size ≤ u1.heap.size := K_1.out.size
          have lee : w.heap.size ≤ u1.heap.size + 1 := by omega
          clear K_1 Bl_1 cl_1 zl_1
          go_wp2_with (first
            | ((with_reducible refine at_st 24 ?_); refine wl_store rfl rfl rfl rfl Bm_2 (by kernel_rfl) rfl (Nat.le_of_ble_eq_true rfl) (fun v3 p3 => ?_); have Bm_3 : Blk v3 u1.heap.size 24 [.bool V.on, .int .u8 V.line, .int .u16 V.dot, .int .u8 V.lyc, .int .u8 V.sel, .bool V.high, .int .u16 V.extra] := p3.blk; have Bl_3 := p3.other _ _ _ nlm Bl_2; have Be_3 := p3.other _ _ _ nem Be_2; have K_3 := hid (p3.kept _ K_2.out lem); clear p3 K_2 Bl_2 Bm_2 Be_2; have cl_3 := blk_cell Bl_3; have zl_3 := blk_lt Bl_3; have cm_3 := blk_cell Bm_3; have zm_3 := blk_lt Bm_3; have ce_3 := blk_cell Be_3; have ze_3 := blk_lt Be_3)
            | ((with_reducible refine at_st 31 ?_); refine wl_store rfl rfl rfl rfl Be_3 (by kernel_rfl) rfl (Nat.le_of_ble_eq_true rfl) (fun v4 p4 => ?_); have Be_4 : Blk v4 (u1.heap.size + 1) 31 [.bool false, .bool r, .bool false] := p4.blk; have Bl_4 := p4.other _ _ _ nle Bl_3; have Bm_4 := p4.other _ _ _ nme Bm_3; have K_4 := hid (p4.kept _ K_3.out lee); clear p4 K_3 Bl_3 cl_3 zl_3 Bm_3 cm_3 zm_3 Be_3 ce_3 ze_3; have cl_4 := blk_cell Bl_4; have zl_4 := blk_lt Bl_4; have cm_4 := blk_cell Bm_4; have zm_4 := blk_lt Bm_4; have ce_4 := blk_cell Be_4; have ze_4 := blk_lt Be_4)
            | ((with_reducible refine at_st 24 ?_); refine wl_store rfl rfl rfl rfl Bl_4 (by kernel_rfl) rfl (Nat.le_of_ble_eq_true rfl) (fun v5 p5 => ?_); have Bl_5 : Blk v5 bb 24 [.bool V.on, .int .u8 V.line, .int .u16 V.dot, .int .u8 V.lyc, .int .u8 V.sel, .bool V.high, .int .u16 V.extra] := p5.blk; have Bm_5 := p5.other _ _ _ nml Bm_4; have Be_5 := p5.other _ _ _ nel Be_4; have K_5 := hid (p5.kept _ K_4.out lel); clear p5 K_4 Bl_4 cl_4 zl_4 Bm_4 cm_4 zm_4 Be_4 ce_4 ze_4; have cl_5 := blk_cell Bl_5; have zl_5 := blk_lt Bl_5; have cm_5 := blk_cell Bm_5; have zm_5 := blk_lt Bm_5; have ce_5 := blk_cell Be_5; have ze_5 := blk_lt Be_5))
          go_roundw
          case rel => exact ⟨j + 1, V, by omega, by first | (rw [F1.out]; done) | (rw [F1.out]; first | rfl | go_num), by first | (rw [D1.out]; done) | (rw [D1.out]; first | rfl | go_num), by first | go_num | rfl, HV, Bl_5, K_5.out⟩
          case measure => first | omega | (simp; omega) | (simp [intOf]; omega)
    · have je : j = 70224 := by omega
      subst je
      obtain ⟨e1, e2, e3⟩ := at_end l hA.out
      have HM := hid (show ∀ u, Calls Try.prog 12 #[lcV l] u fun e w' => e = .returned (.int .i64 2) ∧ Kept u w' from fun u => by have m := pmode15 l u hA.out.inn; rw [e3] at m; exact m)
      have b1 : (l.line == 0) = true := by simpa using e1
      have b2 : (l.dot == 0) = true := by simpa using e2
      rw [fN_end, dN_end]
      clear e1 e2 e3 fi0 fi1 di0 di1
      go_wp2_with fail
      refine (HM.out _).mono ?_
      rintro e u9 ⟨rfl, k9⟩
      have K9 := hid (K_0.out.trans k9)
      clear k9
      go_wp2
      go_ret
      exact ⟨rfl, K9.out⟩
end Go.Proofs.Ytpgdkoiinigepaa
