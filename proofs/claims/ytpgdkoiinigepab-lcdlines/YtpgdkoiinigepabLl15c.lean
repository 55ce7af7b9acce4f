/- Layer 15: LcdLines, as a walk. -/
import Derived.Test.YtpgdkoiinigepabSw15
import Derived.Test.YtpgdkoiinigepabLf15
namespace Go.Proofs.Ytpgdkoiinigepab
open Go.RowKit
set_option linter.unusedVariables false
set_option linter.unusedSimpArgs false

theorem line_step (b x : Int) (j : Nat) (l : Lc) (b0 : 0 ≤ b) (b1 : b ≤ 152) (x0 : 0 ≤ x) (x1 : x ≤ 65535) (hj : j < 456) (h : AtL b x j l) (u : World) : Calls Try.prog 6 #[lcV l, .int .u16 x] u fun e w' => (∃ V f r d, e = .returned (.tuple #[lcV V, evV f r d]) ∧ AtL b x (j + 1) V) ∧ Kept u w' := by
  refine (pstep15 l x u h.inn x0 x1).mono ?_
  rintro e w' ⟨rfl, k⟩
  exact ⟨⟨_, _, _, _, rfl, lin_next b x j l b0 b1 x0 hj h⟩, k⟩
theorem line_mode (b x : Int) (j : Nat) (V : Lc) (m : Int) (b0 : 0 ≤ b) (x0 : 0 ≤ x) (h : AtL b x (j + 1) V) (q : lineM b x j = m) (u : World) : Calls Try.prog 7 #[lcV V] u fun e w' => e = .returned (.int .i64 m) ∧ Kept u w' := by
  have k := pmode15 V u h.inn
  rw [lin_mode b x j V b0 x0 h, q] at k
  exact k
set_option maxRecDepth 100000 in
set_option maxHeartbeats 4000000 in
theorem lines15 (line x : Int) (w : World) (l0 : 0 ≤ line) (l1 : line ≤ 255) (x0 : 0 ≤ x) (x1 : x ≤ 65535) : Calls Try.prog 3 #[.int .u8 line, .int .u16 x] w fun e w' => e = .returned (.bool true) ∧ Kept w w' := by
  have S := hid kshown15
  obtain ⟨b, hb0⟩ : ∃ b, line % 153 = b := ⟨_, rfl⟩
  have b0 : 0 ≤ b := by omega
  have b1 : b ≤ 152 := by omega
  have e1 : Int.tmod line 153 = b := by rw [Int.tmod_eq_emod_of_nonneg l0]; exact hb0
  have e2 : IntKind.u8.wrap b = b := by rw [IntKind.wrap_u8]; omega
  have A0 := hid (lin_start b x b0 b1)
  clear hb0
  go_enter Try.func3, Try.ntmps3
  go_wp2_with fail
  refine (S.out _).mono ?_
  rintro e u1 ⟨rfl, k1⟩
  have Bl_1 : Blk ((u1.alloc (.cells ([.bool true, .int .u8 b, .int .u16 455, .int .u8 0, .int .u8 0, .bool false, .int .u16 0] : List Value).toArray 25)).alloc (.cells ([.int .i64 0, .int .i64 0, .int .i64 0, .int .i64 0] : List Value).toArray 26)) u1.heap.size 25 [.bool true, .int .u8 b, .int .u16 455, .int .u8 0, .int .u8 0, .bool false, .int .u16 0] := blk_past (blk_new u1 _ _) _
  have Bn_1 : Blk ((u1.alloc (.cells ([.bool true, .int .u8 b, .int .u16 455, .int .u8 0, .int .u8 0, .bool false, .int .u16 0] : List Value).toArray 25)).alloc (.cells ([.int .i64 0, .int .i64 0, .int .i64 0, .int .i64 0] : List Value).toArray 26)) (u1.heap.size + 1) 26 [.int .i64 0, .int .i64 0, .int .i64 0, .int .i64 0] := by have q := blk_new (u1.alloc (.cells ([.bool true, .int .u8 b, .int .u16 455, .int .u8 0, .int .u8 0, .bool false, .int .u16 0] : List Value).toArray 25)) [.int .i64 0, .int .i64 0, .int .i64 0, .int .i64 0] 26; rw [World.size_alloc] at q; exact q
  have K_1 := hid ((k1.alloc (.cells ([.bool true, .int .u8 b, .int .u16 455, .int .u8 0, .int .u8 0, .bool false, .int .u16 0] : List Value).toArray 25)).alloc (.cells ([.int .i64 0, .int .i64 0, .int .i64 0, .int .i64 0] : List Value).toArray 26))
  have lo := k1.size
  clear k1
  obtain ⟨bl, hbl⟩ : ∃ y, u1.heap.size = y := ⟨_, rfl⟩
  have lel : w.heap.size ≤ bl := by omega
  have len : w.heap.size ≤ bl + 1 := by omega
  have nln : bl ≠ bl + 1 := by omega
  have nnl : bl + 1 ≠ bl := by omega
  go_wp2_with fail
  rw [hbl] at Bn_1
  rw [hbl] at Bl_1
  try rw [hbl]
  have BL := hid (And.intro Bl_1 Bn_1)
  clear Bl_1 Bn_1 lo
  go_loopw [8, 9, 10] (fun mv tv iv wr => ∃ (j : Nat) (l : Lc), j ≤ 456 ∧ mv = .int .i64 (lastM b x j) ∧ tv = .int .i64 (turnM b x j) ∧ iv = .int .i64 (j : Int) ∧ Hid (AtL b x j l) ∧ Blk wr bl 25 [.bool l.on, .int .u8 l.line, .int .u16 l.dot, .int .u8 l.lyc, .int .u8 l.sel, .bool l.high, .int .u16 l.extra] ∧ Blk wr (bl + 1) 26 [.int .i64 (cnt0 b x j), .int .i64 (cnt1 b j), .int .i64 (cnt2 b j), .int .i64 (cnt3 b x j)] ∧ Kept w wr) (fun _ _ iv _ => 456 - (intOf iv).toNat)
  case atStart =>
    refine ⟨0, ⟨true, b, 455, 0, 0, false, 0⟩, Nat.zero_le _, rfl, rfl, rfl, A0, BL.out.1, ?_, K_1.out⟩
    have z0 : cnt0 b x 0 = 0 := by unfold cnt0; have := most_in x x0; split <;> (try split) <;> omega
    have z1 : cnt1 b 0 = 0 := by unfold cnt1; split <;> rfl
    have z2 : cnt2 b 0 = 0 := by unfold cnt2; split <;> rfl
    have z3 : cnt3 b x 0 = 0 := by unfold cnt3; split <;> rfl
    rw [z0, z1, z2, z3]
    exact BL.out.2
  case round =>
    obtain ⟨j, l, hj, rfl, rfl, rfl, hA, hq, hn, hk⟩ := hrel
    have Bl_0 := hq
    have Bn_0 := hn
    have K_0 := hid hk
    have cl_0 := blk_cell hq
    have zl_0 := blk_lt hq
    have cn_0 := blk_cell hn
    have zn_0 := blk_lt hn
    clear hq hn hk BL K_1
    obtain ⟨⟨a0, a1⟩, ⟨a2, a3⟩, ⟨a4, a5⟩, ⟨a6, a7⟩, ⟨a8, a9⟩⟩ := cnt_in b x j x0 hj
    by_cases hlt : j < 456
    · have g1 : decide ((j : Int) < 456) = true := decide_eq_true (by omega)
      have AX := hid (line_step b x j l b0 b1 x0 x1 hlt hA.out)
      rcases lin_mode_cases b x j with hm | hm | hm | hm
      · by_cases he : (0 : Int) = lastM b x j
        · skip
          obtain ⟨q0, q1, q2, q3⟩ := lin_count b x j x0
          rw [hm] at q0 q1 q2 q3
          rw [if_pos (rfl : (0 : Int) = 0)] at q0
          rw [if_neg (show ¬ (0 : Int) = 1 by decide), Int.add_zero] at q1
          rw [if_neg (show ¬ (0 : Int) = 2 by decide), Int.add_zero] at q2
          rw [if_neg (show ¬ (0 : Int) = 3 by decide), Int.add_zero] at q3
          obtain ⟨t1, t2⟩ := lin_turn b x j x0
          rw [hm] at t1 t2
          rw [if_pos he, Int.add_zero] at t2
          have lm : ((0 : Int) != lastM b x j) = false := by rw [← he]; rfl
          have Q := hid (And.intro q0 (And.intro q1 (And.intro q2 (And.intro q3 (And.intro t1 t2)))))
          have HM0 := hid (fun V h u => line_mode b x j V 0 b0 x0 h hm u)
          clear q0 q1 q2 q3 t1 t2 he hm
          go_wp2_with fail
          refine (AX.out _).mono ?_
          rintro e u1 ⟨⟨V, f, r, d, rfl, hV⟩, k1⟩
          have HM := hid (HM0.out V hV)
          have vd : (V.dot != (j : Int)) = false := by rw [lin_dot b x j V hV]; simp
          have ve := lin_dot b x j V hV
          have vw : IntKind.i64.wrap V.dot = V.dot := by rw [IntKind.wrap_i64]; omega
          have HV := hid hV
          clear hV HM0 ve
          have Bl_1 := blk_kept k1 Bl_0
          have Bn_1 := blk_kept k1 Bn_0
          have K_1 := hid (K_0.out.trans k1)
          clear k1 Bl_0 cl_0 zl_0 Bn_0 cn_0 zn_0
          have cl_1 := blk_cell Bl_1
          have zl_1 := blk_lt Bl_1
          have cn_1 := blk_cell Bn_1
          have zn_1 := blk_lt Bn_1
          go_wp2_with (first
            | ((with_reducible refine at_st 25 ?_); refine wl_store rfl rfl rfl rfl Bl_1 (by kernel_rfl) rfl (Nat.le_of_ble_eq_true rfl) (fun v2 p2 => ?_); have Bl_2 : Blk v2 bl 25 [.bool V.on, .int .u8 V.line, .int .u16 V.dot, .int .u8 V.lyc, .int .u8 V.sel, .bool V.high, .int .u16 V.extra] := p2.blk; have Bn_2 := p2.other _ _ _ nnl Bn_1; have K_2 := hid (p2.kept _ K_1.out lel); clear p2 K_1 Bl_1 cl_1 zl_1 Bn_1 cn_1 zn_1; have cl_2 := blk_cell Bl_2; have zl_2 := blk_lt Bl_2; have cn_2 := blk_cell Bn_2; have zn_2 := blk_lt Bn_2))
          refine (HM.out _).mono ?_
          rintro e u3 ⟨rfl, k3⟩
          have Bl_3 := blk_kept k3 Bl_2
          have Bn_3 := blk_kept k3 Bn_2
          have K_3 := hid (K_2.out.trans k3)
          clear k3 K_2 Bl_2 cl_2 zl_2 Bn_2 cn_2 zn_2
          have cl_3 := blk_cell Bl_3
          have zl_3 := blk_lt Bl_3
          have cn_3 := blk_cell Bn_3
          have zn_3 := blk_lt Bn_3
          go_wp2_with (first
            | ((with_reducible refine at_st 3 ?_); refine wl_store rfl rfl rfl rfl Bn_3 (by kernel_rfl) rfl (Nat.le_of_ble_eq_true rfl) (fun v4 p4 => ?_); have Bn_4 : Blk v4 (bl + 1) 26 [.int .i64 (cnt0 b x j + 1), .int .i64 (cnt1 b j), .int .i64 (cnt2 b j), .int .i64 (cnt3 b x j)] := p4.blk; have Bl_4 := p4.other _ _ _ nln Bl_3; have K_4 := hid (p4.kept _ K_3.out len); clear p4 K_3 Bl_3 cl_3 zl_3 Bn_3 cn_3 zn_3; have cl_4 := blk_cell Bl_4; have zl_4 := blk_lt Bl_4; have cn_4 := blk_cell Bn_4; have zn_4 := blk_lt Bn_4))
          go_roundw
          case rel => exact ⟨j + 1, V, by omega, by rw [Q.out.2.2.2.2.1], by first | (rw [Q.out.2.2.2.2.2]; done) | (rw [Q.out.2.2.2.2.2]; first | rfl | go_num), by first | go_num | rfl, HV, Bl_4, by rw [Q.out.1, Q.out.2.1, Q.out.2.2.1, Q.out.2.2.2.1]; exact Bn_4, K_4.out⟩
          case measure => first | omega | (simp; omega) | (simp [intOf]; omega)
        · skip
          obtain ⟨q0, q1, q2, q3⟩ := lin_count b x j x0
          rw [hm] at q0 q1 q2 q3
          rw [if_pos (rfl : (0 : Int) = 0)] at q0
          rw [if_neg (show ¬ (0 : Int) = 1 by decide), Int.add_zero] at q1
          rw [if_neg (show ¬ (0 : Int) = 2 by decide), Int.add_zero] at q2
          rw [if_neg (show ¬ (0 : Int) = 3 by decide), Int.add_zero] at q3
          obtain ⟨t1, t2⟩ := lin_turn b x j x0
          rw [hm] at t1 t2
          rw [if_neg he] at t2
          have lm : ((0 : Int) != lastM b x j) = true := by simpa using he
          have Q := hid (And.intro q0 (And.intro q1 (And.intro q2 (And.intro q3 (And.intro t1 t2)))))
          have HM0 := hid (fun V h u => line_mode b x j V 0 b0 x0 h hm u)
          clear q0 q1 q2 q3 t1 t2 he hm
          go_wp2_with fail
          refine (AX.out _).mono ?_
          rintro e u1 ⟨⟨V, f, r, d, rfl, hV⟩, k1⟩
          have HM := hid (HM0.out V hV)
          have vd : (V.dot != (j : Int)) = false := by rw [lin_dot b x j V hV]; simp
          have ve := lin_dot b x j V hV
          have vw : IntKind.i64.wrap V.dot = V.dot := by rw [IntKind.wrap_i64]; omega
          have HV := hid hV
          clear hV HM0 ve
          have Bl_1 := blk_kept k1 Bl_0
          have Bn_1 := blk_kept k1 Bn_0
          have K_1 := hid (K_0.out.trans k1)
          clear k1 Bl_0 cl_0 zl_0 Bn_0 cn_0 zn_0
          have cl_1 := blk_cell Bl_1
          have zl_1 := blk_lt Bl_1
          have cn_1 := blk_cell Bn_1
          have zn_1 := blk_lt Bn_1
          go_wp2_with (first
            | ((with_reducible refine at_st 25 ?_); refine wl_store rfl rfl rfl rfl Bl_1 (by kernel_rfl) rfl (Nat.le_of_ble_eq_true rfl) (fun v2 p2 => ?_); have Bl_2 : Blk v2 bl 25 [.bool V.on, .int .u8 V.line, .int .u16 V.dot, .int .u8 V.lyc, .int .u8 V.sel, .bool V.high, .int .u16 V.extra] := p2.blk; have Bn_2 := p2.other _ _ _ nnl Bn_1; have K_2 := hid (p2.kept _ K_1.out lel); clear p2 K_1 Bl_1 cl_1 zl_1 Bn_1 cn_1 zn_1; have cl_2 := blk_cell Bl_2; have zl_2 := blk_lt Bl_2; have cn_2 := blk_cell Bn_2; have zn_2 := blk_lt Bn_2))
          refine (HM.out _).mono ?_
          rintro e u3 ⟨rfl, k3⟩
          have Bl_3 := blk_kept k3 Bl_2
          have Bn_3 := blk_kept k3 Bn_2
          have K_3 := hid (K_2.out.trans k3)
          clear k3 K_2 Bl_2 cl_2 zl_2 Bn_2 cn_2 zn_2
          have cl_3 := blk_cell Bl_3
          have zl_3 := blk_lt Bl_3
          have cn_3 := blk_cell Bn_3
          have zn_3 := blk_lt Bn_3
          go_wp2_with (first
            | ((with_reducible refine at_st 3 ?_); refine wl_store rfl rfl rfl rfl Bn_3 (by kernel_rfl) rfl (Nat.le_of_ble_eq_true rfl) (fun v4 p4 => ?_); have Bn_4 : Blk v4 (bl + 1) 26 [.int .i64 (cnt0 b x j + 1), .int .i64 (cnt1 b j), .int .i64 (cnt2 b j), .int .i64 (cnt3 b x j)] := p4.blk; have Bl_4 := p4.other _ _ _ nln Bl_3; have K_4 := hid (p4.kept _ K_3.out len); clear p4 K_3 Bl_3 cl_3 zl_3 Bn_3 cn_3 zn_3; have cl_4 := blk_cell Bl_4; have zl_4 := blk_lt Bl_4; have cn_4 := blk_cell Bn_4; have zn_4 := blk_lt Bn_4))
          go_roundw
          case rel => exact ⟨j + 1, V, by omega, by rw [Q.out.2.2.2.2.1], by first | (rw [Q.out.2.2.2.2.2]; done) | (rw [Q.out.2.2.2.2.2]; first | rfl | go_num), by first | go_num | rfl, HV, Bl_4, by rw [Q.out.1, Q.out.2.1, Q.out.2.2.1, Q.out.2.2.2.1]; exact Bn_4, K_4.out⟩
          case measure => first | omega | (simp; omega) | (simp [intOf]; omega)
      · by_cases he : (1 : Int) = lastM b x j
        · skip
          obtain ⟨q0, q1, q2, q3⟩ := lin_count b x j x0
          rw [hm] at q0 q1 q2 q3
          rw [if_neg (show ¬ (1 : Int) = 0 by decide), Int.add_zero] at q0
          rw [if_pos (rfl : (1 : Int) = 1)] at q1
          rw [if_neg (show ¬ (1 : Int) = 2 by decide), Int.add_zero] at q2
          rw [if_neg (show ¬ (1 : Int) = 3 by decide), Int.add_zero] at q3
          obtain ⟨t1, t2⟩ := lin_turn b x j x0
          rw [hm] at t1 t2
          rw [if_pos he, Int.add_zero] at t2
          have lm : ((1 : Int) != lastM b x j) = false := by rw [← he]; rfl
          have Q := hid (And.intro q0 (And.intro q1 (And.intro q2 (And.intro q3 (And.intro t1 t2)))))
          have HM0 := hid (fun V h u => line_mode b x j V 1 b0 x0 h hm u)
          clear q0 q1 q2 q3 t1 t2 he hm
          go_wp2_with fail
          refine (AX.out _).mono ?_
          rintro e u1 ⟨⟨V, f, r, d, rfl, hV⟩, k1⟩
          have HM := hid (HM0.out V hV)
          have vd : (V.dot != (j : Int)) = false := by rw [lin_dot b x j V hV]; simp
          have ve := lin_dot b x j V hV
          have vw : IntKind.i64.wrap V.dot = V.dot := by rw [IntKind.wrap_i64]; omega
          have HV := hid hV
          clear hV HM0 ve
          have Bl_1 := blk_kept k1 Bl_0
          have Bn_1 := blk_kept k1 Bn_0
          have K_1 := hid (K_0.out.trans k1)
          clear k1 Bl_0 cl_0 zl_0 Bn_0 cn_0 zn_0
          have cl_1 := blk_cell Bl_1
          have zl_1 := blk_lt Bl_1
          have cn_1 := blk_cell Bn_1
          have zn_1 := blk_lt Bn_1
          go_wp2_with (first
            | ((with_reducible refine at_st 25 ?_); refine wl_store rfl rfl rfl rfl Bl_1 (by kernel_rfl) rfl (Nat.le_of_ble_eq_true rfl) (fun v2 p2 => ?_); have Bl_2 : Blk v2 bl 25 [.bool V.on, .int .u8 V.line, .int .u16 V.dot, .int .u8 V.lyc, .int .u8 V.sel, .bool V.high, .int .u16 V.extra] := p2.blk; have Bn_2 := p2.other _ _ _ nnl Bn_1; have K_2 := hid (p2.kept _ K_1.out lel); clear p2 K_1 Bl_1 cl_1 zl_1 Bn_1 cn_1 zn_1; have cl_2 := blk_cell Bl_2; have zl_2 := blk_lt Bl_2; have cn_2 := blk_cell Bn_2; have zn_2 := blk_lt Bn_2))
          refine (HM.out _).mono ?_
          rintro e u3 ⟨rfl, k3⟩
          have Bl_3 := blk_kept k3 Bl_2
          have Bn_3 := blk_kept k3 Bn_2
          have K_3 := hid (K_2.out.trans k3)
          clear k3 K_2 Bl_2 cl_2 zl_2 Bn_2 cn_2 zn_2
          have cl_3 := blk_cell Bl_3
          have zl_3 := blk_lt Bl_3
          have cn_3 := blk_cell Bn_3
          have zn_3 := blk_lt Bn_3
          go_wp2_with (first
            | ((with_reducible refine at_st 3 ?_); refine wl_store rfl rfl rfl rfl Bn_3 (by kernel_rfl) rfl (Nat.le_of_ble_eq_true rfl) (fun v4 p4 => ?_); have Bn_4 : Blk v4 (bl + 1) 26 [.int .i64 (cnt0 b x j), .int .i64 (cnt1 b j + 1), .int .i64 (cnt2 b j), .int .i64 (cnt3 b x j)] := p4.blk; have Bl_4 := p4.other _ _ _ nln Bl_3; have K_4 := hid (p4.kept _ K_3.out len); clear p4 K_3 Bl_3 cl_3 zl_3 Bn_3 cn_3 zn_3; have cl_4 := blk_cell Bl_4; have zl_4 := blk_lt Bl_4; have cn_4 := blk_cell Bn_4; have zn_4 := blk_lt Bn_4))
          go_roundw
          case rel => exact ⟨j + 1, V, by omega, by rw [Q.out.2.2.2.2.1], by first | (rw [Q.out.2.2.2.2.2]; done) | (rw [Q.out.2.2.2.2.2]; first | rfl | go_num), by first | go_num | rfl, HV, Bl_4, by rw [Q.out.1, Q.out.2.1, Q.out.2.2.1, Q.out.2.2.2.1]; exact Bn_4, K_4.out⟩
          case measure => first | omega | (simp; omega) | (simp [intOf]; omega)
        · skip
          obtain ⟨q0, q1, q2, q3⟩ := lin_count b x j x0
          rw [hm] at q0 q1 q2 q3
          rw [if_neg (show ¬ (1 : Int) = 0 by decide), Int.add_zero] at q0
          rw [if_pos (rfl : (1 : Int) = 1)] at q1
          rw [if_neg (show ¬ (1 : Int) = 2 by decide), Int.add_zero] at q2
          rw [if_neg (show ¬ (1 : Int) = 3 by decide), Int.add_zero] at q3
          obtain ⟨t1, t2⟩ := lin_turn b x j x0
          rw [hm] at t1 t2
          rw [if_neg he] at t2
          have lm : ((1 : Int) != lastM b x j) = true := by simpa using he
          have Q := hid (And.intro q0 (And.intro q1 (And.intro q2 (And.intro q3 (And.intro t1 t2)))))
          have HM0 := hid (fun V h u => line_mode b x j V 1 b0 x0 h hm u)
          clear q0 q1 q2 q3 t1 t2 he hm
          go_wp2_with fail
          refine (AX.out _).mono ?_
          rintro e u1 ⟨⟨V, f, r, d, rfl, hV⟩, k1⟩
          have HM := hid (HM0.out V hV)
          have vd : (V.dot != (j : Int)) = false := by rw [lin_dot b x j V hV]; simp
          have ve := lin_dot b x j V hV
          have vw : IntKind.i64.wrap V.dot = V.dot := by rw [IntKind.wrap_i64]; omega
          have HV := hid hV
          clear hV HM0 ve
          have Bl_1 := blk_kept k1 Bl_0
          have Bn_1 := blk_kept k1 Bn_0
          have K_1 := hid (K_0.out.trans k1)
          clear k1 Bl_0 cl_0 zl_0 Bn_0 cn_0 zn_0
          have cl_1 := blk_cell Bl_1
          have zl_1 := blk_lt Bl_1
          have cn_1 := blk_cell Bn_1
          have zn_1 := blk_lt Bn_1
          go_wp2_with (first
            | ((with_reducible refine at_st 25 ?_); refine wl_store rfl rfl rfl rfl Bl_1 (by kernel_rfl) rfl (Nat.le_of_ble_eq_true rfl) (fun v2 p2 => ?_); have Bl_2 : Blk v2 bl 25 [.bool V.on, .int .u8 V.line, .int .u16 V.dot, .int .u8 V.lyc, .int .u8 V.sel, .bool V.high, .int .u16 V.extra] := p2.blk; have Bn_2 := p2.other _ _ _ nnl Bn_1; have K_2 := hid (p2.kept _ K_1.out lel); clear p2 K_1 Bl_1 cl_1 zl_1 Bn_1 cn_1 zn_1; have cl_2 := blk_cell Bl_2; have zl_2 := blk_lt Bl_2; have cn_2 := blk_cell Bn_2; have zn_2 := blk_lt Bn_2))
          refine (HM.out _).mono ?_
          rintro e u3 ⟨rfl, k3⟩
          have Bl_3 := blk_kept k3 Bl_2
          have Bn_3 := blk_kept k3 Bn_2
          have K_3 := hid (K_2.out.trans k3)
          clear k3 K_2 Bl_2 cl_2 zl_2 Bn_2 cn_2 zn_2
          have cl_3 := blk_cell Bl_3
          have zl_3 := blk_lt Bl_3
          have cn_3 := blk_cell Bn_3
          have zn_3 := blk_lt Bn_3
          go_wp2_with (first
            | ((with_reducible refine at_st 3 ?_); refine wl_store rfl rfl rfl rfl Bn_3 (by kernel_rfl) rfl (Nat.le_of_ble_eq_true rfl) (fun v4 p4 => ?_); have Bn_4 : Blk v4 (bl + 1) 26 [.int .i64 (cnt0 b x j), .int .i64 (cnt1 b j + 1), .int .i64 (cnt2 b j), .int .i64 (cnt3 b x j)] := p4.blk; have Bl_4 := p4.other _ _ _ nln Bl_3; have K_4 := hid (p4.kept _ K_3.out len); clear p4 K_3 Bl_3 cl_3 zl_3 Bn_3 cn_3 zn_3; have cl_4 := blk_cell Bl_4; have zl_4 := blk_lt Bl_4; have cn_4 := blk_cell Bn_4; have zn_4 := blk_lt Bn_4))
          go_roundw
          case rel => exact ⟨j + 1, V, by omega, by rw [Q.out.2.2.2.2.1], by first | (rw [Q.out.2.2.2.2.2]; done) | (rw [Q.out.2.2.2.2.2]; first | rfl | go_num), by first | go_num | rfl, HV, Bl_4, by rw [Q.out.1, Q.out.2.1, Q.out.2.2.1, Q.out.2.2.2.1]; exact Bn_4, K_4.out⟩
          case measure => first | omega | (simp; omega) | (simp [intOf]; omega)
      · by_cases he : (2 : Int) = lastM b x j
        · skip
          obtain ⟨q0, q1, q2, q3⟩ := lin_count b x j x0
          rw [hm] at q0 q1 q2 q3
          rw [if_neg (show ¬ (2 : Int) = 0 by decide), Int.add_zero] at q0
          rw [if_neg (show ¬ (2 : Int) = 1 by decide), Int.add_zero] at q1
          rw [if_pos (rfl : (2 : Int) = 2)] at q2
          rw [if_neg (show ¬ (2 : Int) = 3 by decide), Int.add_zero] at q3
          obtain ⟨t1, t2⟩ := lin_turn b x j x0
          rw [hm] at t1 t2
          rw [if_pos he, Int.add_zero] at t2
          have lm : ((2 : Int) != lastM b x j) = false := by rw [← he]; rfl
          have Q := hid (And.intro q0 (And.intro q1 (And.intro q2 (And.intro q3 (And.intro t1 t2)))))
          have HM0 := hid (fun V h u => line_mode b x j V 2 b0 x0 h hm u)
          clear q0 q1 q2 q3 t1 t2 he hm
          go_wp2_with fail
          refine (AX.out _).mono ?_
          rintro e u1 ⟨⟨V, f, r, d, rfl, hV⟩, k1⟩
          have HM := hid (HM0.out V hV)
          have vd : (V.dot != (j : Int)) = false := by rw [lin_dot b x j V hV]; simp
          have ve := lin_dot b x j V hV
          have vw : IntKind.i64.wrap V.dot = V.dot := by rw [IntKind.wrap_i64]; omega
          have HV := hid hV
          clear hV HM0 ve
          have Bl_1 := blk_kept k1 Bl_0
          have Bn_1 := blk_kept k1 Bn_0
          have K_1 := hid (K_0.out.trans k1)
          clear k1 Bl_0 cl_0 zl_0 Bn_0 cn_0 zn_0
          have cl_1 := blk_cell Bl_1
          have zl_1 := blk_lt Bl_1
          have cn_1 := blk_cell Bn_1
          have zn_1 := blk_lt Bn_1
          go_wp2_with (first
            | ((with_reducible refine at_st 25 ?_); refine wl_store rfl rfl rfl rfl Bl_1 (by kernel_rfl) rfl (Nat.le_of_ble_eq_true rfl) (fun v2 p2 => ?_); have Bl_2 : Blk v2 bl 25 [.bool V.on, .int .u8 V.line, .int .u16 V.dot, .int .u8 V.lyc, .int .u8 V.sel, .bool V.high, .int .u16 V.extra] := p2.blk; have Bn_2 := p2.other _ _ _ nnl Bn_1; have K_2 := hid (p2.kept _ K_1.out lel); clear p2 K_1 Bl_1 cl_1 zl_1 Bn_1 cn_1 zn_1; have cl_2 := blk_cell Bl_2; have zl_2 := blk_lt Bl_2; have cn_2 := blk_cell Bn_2; have zn_2 := blk_lt Bn_2))
          refine (HM.out _).mono ?_
          rintro e u3 ⟨rfl, k3⟩
          have Bl_3 := blk_kept k3 Bl_2
          have Bn_3 := blk_kept k3 Bn_2
          have K_3 := hid (K_2.out.trans k3)
          clear k3 K_2 Bl_2 cl_2 zl_2 Bn_2 cn_2 zn_2
          have cl_3 := blk_cell Bl_3
          have zl_3 := blk_lt Bl_3
          have cn_3 := blk_cell Bn_3
          have zn_3 := blk_lt Bn_3
          go_wp2_with (first
            | ((with_reducible refine at_st 3 ?_); refine wl_store rfl rfl rfl rfl Bn_3 (by kernel_rfl) rfl (Nat.le_of_ble_eq_true rfl) (fun v4 p4 => ?_); have Bn_4 : Blk v4 (bl + 1) 26 [.int .i64 (cnt0 b x j), .int .i64 (cnt1 b j), .int .i64 (cnt2 b j + 1), .int .i64 (cnt3 b x j)] := p4.blk; have Bl_4 := p4.other _ _ _ nln Bl_3; have K_4 := hid (p4.kept _ K_3.out len); clear p4 K_3 Bl_3 cl_3 zl_3 Bn_3 cn_3 zn_3; have cl_4 := blk_cell Bl_4; have zl_4 := blk_lt Bl_4; have cn_4 := blk_cell Bn_4; have zn_4 := blk_lt Bn_4))
          go_roundw
          case rel => exact ⟨j + 1, V, by omega, by rw [Q.out.2.2.2.2.1], by first | (rw [Q.out.2.2.2.2.2]; done) | (rw [Q.out.2.2.2.2.2]; first | rfl | go_num), by first | go_num | rfl, HV, Bl_4, by rw [Q.out.1, Q.out.2.1, Q.out.2.2.1, Q.out.2.2.2.1]; exact Bn_4, K_4.out⟩
          case measure => first | omega | (simp; omega) | (simp [intOf]; omega)
        · skip
          obtain ⟨q0, q1, q2, q3⟩ := lin_count b x j x0
          rw [hm] at q0 q1 q2 q3
          rw [if_neg (show ¬ (2 : Int) = 0 by decide), Int.add_zero] at q0
          rw [if_neg (show ¬ (2 : Int) = 1 by decide), Int.add_zero] at q1
          rw [if_pos (rfl : (2 : Int) = 2)] at q2
          rw [if_neg (show ¬ (2 : Int) = 3 by decide), Int.add_zero] at q3
          obtain ⟨t1, t2⟩ := lin_turn b x j x0
          rw [hm] at t1 t2
          rw [if_neg he] at t2
          have lm : ((2 : Int) != lastM b x j) = true := by simpa using he
          have Q := hid (And.intro q0 (And.intro q1 (And.intro q2 (And.intro q3 (And.intro t1 t2)))))
          have HM0 := hid (fun V h u => line_mode b x j V 2 b0 x0 h hm u)
          clear q0 q1 q2 q3 t1 t2 he hm
          go_wp2_with fail
          refine (AX.out _).mono ?_
          rintro e u1 ⟨⟨V, f, r, d, rfl, hV⟩, k1⟩
          have HM := hid (HM0.out V hV)
          have vd : (V.dot != (j : Int)) = false := by rw [lin_dot b x j V hV]; simp
          have ve := lin_dot b x j V hV
          have vw : IntKind.i64.wrap V.dot = V.dot := by rw [IntKind.wrap_i64]; omega
          have HV := hid hV
          clear hV HM0 ve
          have Bl_1 := blk_kept k1 Bl_0
          have Bn_1 := blk_kept k1 Bn_0
          have K_1 := hid (K_0.out.trans k1)
          clear k1 Bl_0 cl_0 zl_0 Bn_0 cn_0 zn_0
          have cl_1 := blk_cell Bl_1
          have zl_1 := blk_lt Bl_1
          have cn_1 := blk_cell Bn_1
          have zn_1 := blk_lt Bn_1
          go_wp2_with (first
            | ((with_reducible refine at_st 25 ?_); refine wl_store rfl rfl rfl rfl Bl_1 (by kernel_rfl) rfl (Nat.le_of_ble_eq_true rfl) (fun v2 p2 => ?_); have Bl_2 : Blk v2 bl 25 [.bool V.on, .int .u8 V.line, .int .u16 V.dot, .int .u8 V.lyc, .int .u8 V.sel, .bool V.high, .int .u16 V.extra] := p2.blk; have Bn_2 := p2.other _ _ _ nnl Bn_1; have K_2 := hid (p2.kept _ K_1.out lel); clear p2 K_1 Bl_1 cl_1 zl_1 Bn_1 cn_1 zn_1; have cl_2 := blk_cell Bl_2; have zl_2 := blk_lt Bl_2; have cn_2 := blk_cell Bn_2; have zn_2 := blk_lt Bn_2))
          refine (HM.out _).mono ?_
          rintro e u3 ⟨rfl, k3⟩
          have Bl_3 := blk_kept k3 Bl_2
          have Bn_3 := blk_kept k3 Bn_2
          have K_3 := hid (K_2.out.trans k3)
          clear k3 K_2 Bl_2 cl_2 zl_2 Bn_2 cn_2 zn_2
          have cl_3 := blk_cell Bl_3
          have zl_3 := blk_lt Bl_3
          have cn_3 := blk_cell Bn_3
          have zn_3 := blk_lt Bn_3
          go_wp2_with (first
            | ((with_reducible refine at_st 3 ?_); refine wl_store rfl rfl rfl rfl Bn_3 (by kernel_rfl) rfl (Nat.le_of_ble_eq_true rfl) (fun v4 p4 => ?_); have Bn_4 : Blk v4 (bl + 1) 26 [.int .i64 (cnt0 b x j), .int .i64 (cnt1 b j), .int .i64 (cnt2 b j + 1), .int .i64 (cnt3 b x j)] := p4.blk; have Bl_4 := p4.other _ _ _ nln Bl_3; have K_4 := hid (p4.kept _ K_3.out len); clear p4 K_3 Bl_3 cl_3 zl_3 Bn_3 cn_3 zn_3; have cl_4 := blk_cell Bl_4; have zl_4 := blk_lt Bl_4; have cn_4 := blk_cell Bn_4; have zn_4 := blk_lt Bn_4))
          go_roundw
          case rel => exact ⟨j + 1, V, by omega, by rw [Q.out.2.2.2.2.1], by first | (rw [Q.out.2.2.2.2.2]; done) | (rw [Q.out.2.2.2.2.2]; first | rfl | go_num), by first | go_num | rfl, HV, Bl_4, by rw [Q.out.1, Q.out.2.1, Q.out.2.2.1, Q.out.2.2.2.1]; exact Bn_4, K_4.out⟩
          case measure => first | omega | (simp; omega) | (simp [intOf]; omega)
      · by_cases he : (3 : Int) = lastM b x j
        · skip
          obtain ⟨q0, q1, q2, q3⟩ := lin_count b x j x0
          rw [hm] at q0 q1 q2 q3
          rw [if_neg (show ¬ (3 : Int) = 0 by decide), Int.add_zero] at q0
          rw [if_neg (show ¬ (3 : Int) = 1 by decide), Int.add_zero] at q1
          rw [if_neg (show ¬ (3 : Int) = 2 by decide), Int.add_zero] at q2
          rw [if_pos (rfl : (3 : Int) = 3)] at q3
          obtain ⟨t1, t2⟩ := lin_turn b x j x0
          rw [hm] at t1 t2
          rw [if_pos he, Int.add_zero] at t2
          have lm : ((3 : Int) != lastM b x j) = false := by rw [← he]; rfl
          have Q := hid (And.intro q0 (And.intro q1 (And.intro q2 (And.intro q3 (And.intro t1 t2)))))
          have HM0 := hid (fun V h u => line_mode b x j V 3 b0 x0 h hm u)
          clear q0 q1 q2 q3 t1 t2 he hm
          go_wp2_with fail
          refine (AX.out _).mono ?_
          rintro e u1 ⟨⟨V, f, r, d, rfl, hV⟩, k1⟩
          have HM := hid (HM0.out V hV)
          have vd : (V.dot != (j : Int)) = false := by rw [lin_dot b x j V hV]; simp
          have ve := lin_dot b x j V hV
          have vw : IntKind.i64.wrap V.dot = V.dot := by rw [IntKind.wrap_i64]; omega
          have HV := hid hV
          clear hV HM0 ve
          have Bl_1 := blk_kept k1 Bl_0
          have Bn_1 := blk_kept k1 Bn_0
          have K_1 := hid (K_0.out.trans k1)
          clear k1 Bl_0 cl_0 zl_0 Bn_0 cn_0 zn_0
          have cl_1 := blk_cell Bl_1
          have zl_1 := blk_lt Bl_1
          have cn_1 := blk_cell Bn_1
          have zn_1 := blk_lt Bn_1
          go_wp2_with (first
            | ((with_reducible refine at_st 25 ?_); refine wl_store rfl rfl rfl rfl Bl_1 (by kernel_rfl) rfl (Nat.le_of_ble_eq_true rfl) (fun v2 p2 => ?_); have Bl_2 : Blk v2 bl 25 [.bool V.on, .int .u8 V.line, .int .u16 V.dot, .int .u8 V.lyc, .int .u8 V.sel, .bool V.high, .int .u16 V.extra] := p2.blk; have Bn_2 := p2.other _ _ _ nnl Bn_1; have K_2 := hid (p2.kept _ K_1.out lel); clear p2 K_1 Bl_1 cl_1 zl_1 Bn_1 cn_1 zn_1; have cl_2 := blk_cell Bl_2; have zl_2 := blk_lt Bl_2; have cn_2 := blk_cell Bn_2; have zn_2 := blk_lt Bn_2))
          refine (HM.out _).mono ?_
          rintro e u3 ⟨rfl, k3⟩
          have Bl_3 := blk_kept k3 Bl_2
          have Bn_3 := blk_kept k3 Bn_2
          have K_3 := hid (K_2.out.trans k3)
          clear k3 K_2 Bl_2 cl_2 zl_2 Bn_2 cn_2 zn_2
          have cl_3 := blk_cell Bl_3
          have zl_3 := blk_lt Bl_3
          have cn_3 := blk_cell Bn_3
          have zn_3 := blk_lt Bn_3
          go_wp2_with (first
            | ((with_reducible refine at_st 3 ?_); refine wl_store rfl rfl rfl rfl Bn_3 (by kernel_rfl) rfl (Nat.le_of_ble_eq_true rfl) (fun v4 p4 => ?_); have Bn_4 : Blk v4 (bl + 1) 26 [.int .i64 (cnt0 b x j), .int .i64 (cnt1 b j), .int .i64 (cnt2 b j), .int .i64 (cnt3 b x j + 1)] := p4.blk; have Bl_4 := p4.other _ _ _ nln Bl_3; have K_4 := hid (p4.kept _ K_3.out len); clear p4 K_3 Bl_3 cl_3 zl_3 Bn_3 cn_3 zn_3; have cl_4 := blk_cell Bl_4; have zl_4 := blk_lt Bl_4; have cn_4 := blk_cell Bn_4; have zn_4 := blk_lt Bn_4))
          go_roundw
          case rel => exact ⟨j + 1, V, by omega, by rw [Q.out.2.2.2.2.1], by first | (rw [Q.out.2.2.2.2.2]; done) | (rw [Q.out.2.2.2.2.2]; first | rfl | go_num), by first | go_num | rfl, HV, Bl_4, by rw [Q.out.1, Q.out.2.1, Q.out.2.2.1, Q.out.2.2.2.1]; exact Bn_4, K_4.out⟩
          case measure => first | omega | (simp; omega) | (simp [intOf]; omega)
        · skip
          obtain ⟨q0, q1, q2, q3⟩ := lin_count b x j x0
          rw [hm] at q0 q1 q2 q3
          rw [if_neg (show ¬ (3 : Int) = 0 by decide), Int.add_zero] at q0
          rw [if_neg (show ¬ (3 : Int) = 1 by decide), Int.add_zero] at q1
          rw [if_neg (show ¬ (3 : Int) = 2 by decide), Int.add_zero] at q2
          rw [if_pos (rfl : (3 : Int) = 3)] at q3
          obtain ⟨t1, t2⟩ := lin_turn b x j x0
          rw [hm] at t1 t2
          rw [if_neg he] at t2
          have lm : ((3 : Int) != lastM b x j) = true := by simpa using he
          have Q := hid (And.intro q0 (And.intro q1 (And.intro q2 (And.intro q3 (And.intro t1 t2)))))
          have HM0 := hid (fun V h u => line_mode b x j V 3 b0 x0 h hm u)
          clear q0 q1 q2 q3 t1 t2 he hm
          go_wp2_with fail
          refine (AX.out _).mono ?_
          rintro e u1 ⟨⟨V, f, r, d, rfl, hV⟩, k1⟩
          have HM := hid (HM0.out V hV)
          have vd : (V.dot != (j : Int)) = false := by rw [lin_dot b x j V hV]; simp
          have ve := lin_dot b x j V hV
          have vw : IntKind.i64.wrap V.dot = V.dot := by rw [IntKind.wrap_i64]; omega
          have HV := hid hV
          clear hV HM0 ve
          have Bl_1 := blk_kept k1 Bl_0
          have Bn_1 := blk_kept k1 Bn_0
          have K_1 := hid (K_0.out.trans k1)
          clear k1 Bl_0 cl_0 zl_0 Bn_0 cn_0 zn_0
          have cl_1 := blk_cell Bl_1
          have zl_1 := blk_lt Bl_1
          have cn_1 := blk_cell Bn_1
          have zn_1 := blk_lt Bn_1
          go_wp2_with (first
            | ((with_reducible refine at_st 25 ?_); refine wl_store rfl rfl rfl rfl Bl_1 (by kernel_rfl) rfl (Nat.le_of_ble_eq_true rfl) (fun v2 p2 => ?_); have Bl_2 : Blk v2 bl 25 [.bool V.on, .int .u8 V.line, .int .u16 V.dot, .int .u8 V.lyc, .int .u8 V.sel, .bool V.high, .int .u16 V.extra] := p2.blk; have Bn_2 := p2.other _ _ _ nnl Bn_1; have K_2 := hid (p2.kept _ K_1.out lel); clear p2 K_1 Bl_1 cl_1 zl_1 Bn_1 cn_1 zn_1; have cl_2 := blk_cell Bl_2; have zl_2 := blk_lt Bl_2; have cn_2 := blk_cell Bn_2; have zn_2 := blk_lt Bn_2))
          refine (HM.out _).mono ?_
          rintro e u3 ⟨rfl, k3⟩
          have Bl_3 := blk_kept k3 Bl_2
          have Bn_3 := blk_kept k3 Bn_2
          have K_3 := hid (K_2.out.trans k3)
          clear k3 K_2 Bl_2 cl_2 zl_2 Bn_2 cn_2 zn_2
          have cl_3 := blk_cell Bl_3
          have zl_3 := blk_lt Bl_3
          have cn_3 := blk_cell Bn_3
          have zn_3 := blk_lt Bn_3
          go_wp2_with (first
            | ((with_reducible refine at_st 3 ?_); refine wl_store rfl rfl rfl rfl Bn_3 (by kernel_rfl) rfl (Nat.le_of_ble_eq_true rfl) (fun v4 p4 => ?_); have Bn_4 : Blk v4 (bl + 1) 26 [.int .i64 (cnt0 b x j), .int .i64 (cnt1 b j), .int .i64 (cnt2 b j), .int .i64 (cnt3 b x j + 1)] := p4.blk; have Bl_4 := p4.other _ _ _ nln Bl_3; have K_4 := hid (p4.kept _ K_3.out len); clear p4 K_3 Bl_3 cl_3 zl_3 Bn_3 cn_3 zn_3; have cl_4 := blk_cell Bl_4; have zl_4 := blk_lt Bl_4; have cn_4 := blk_cell Bn_4; have zn_4 := blk_lt Bn_4))
          go_roundw
          case rel => exact ⟨j + 1, V, by omega, by rw [Q.out.2.2.2.2.1], by first | (rw [Q.out.2.2.2.2.2]; done) | (rw [Q.out.2.2.2.2.2]; first | rfl | go_num), by first | go_num | rfl, HV, Bl_4, by rw [Q.out.1, Q.out.2.1, Q.out.2.2.1, Q.out.2.2.2.1]; exact Bn_4, K_4.out⟩
          case measure => first | omega | (simp; omega) | (simp [intOf]; omega)
    · have je : j = 456 := by omega
      subst je
      clear a0 a1 a2 a3 a4 a5 a6 a7 a8 a9
      by_cases hb : 143 ≤ b
      · have g2 : decide (143 ≤ b) = true := decide_eq_true hb
        rw [lin_end1 b hb] at Bn_0
        have cn := blk_cell Bn_0
        clear cn_0
        go_wp2
        go_ret
        exact ⟨rfl, K_0.out⟩
      · have g2 : decide (143 ≤ b) = false := decide_eq_false hb
        by_cases hx : x ≤ 200
        · skip
          obtain ⟨r0, r1, r2, r3, r4, r5⟩ := lin_end b x x0 hb
          have me : mostL x = x := by unfold mostL; rw [if_pos hx]
          rw [me] at r0 r3
          rw [r0, r1, r2, r3] at Bn_0
          rw [r4, r5]
          have cn := blk_cell Bn_0
          clear cn_0 r0 r1 r2 r3 r4 r5 me
          go_wp2
          go_ret
          exact ⟨rfl, K_0.out⟩
        · skip
          obtain ⟨r0, r1, r2, r3, r4, r5⟩ := lin_end b x x0 hb
          have me : mostL x = 200 := by unfold mostL; rw [if_neg hx]
          rw [me] at r0 r3
          rw [r0, r1, r2, r3] at Bn_0
          rw [r4, r5]
          have cn := blk_cell Bn_0
          clear cn_0 r0 r1 r2 r3 r4 r5 me
          go_wp2
          go_ret
          exact ⟨rfl, K_0.out⟩
end Go.Proofs.Ytpgdkoiinigepab
