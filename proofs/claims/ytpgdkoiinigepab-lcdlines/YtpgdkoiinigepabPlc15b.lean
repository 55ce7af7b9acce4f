/- What the program's calls of layer 15 come to: settled, onward, stat, Read, Write, Power. -/
import Derived.Test.YtpgdkoiinigepabPlc15a
namespace Go.Proofs.Ytpgdkoiinigepab
open Go.RowKit
set_option linter.unusedVariables false
set_option linter.unusedSimpArgs false

theorem and120_fin : ∀ a : Fin 256, bits .and .u8 (a.val : Int) 120 = (a.val : Int) / 8 % 16 * 8 := by decide +kernel
theorem and120 (a : Int) (h0 : 0 ≤ a) (h1 : a ≤ 255) : bits .and .u8 a 120 = a / 8 % 16 * 8 := fin8 (p := fun a => bits .and .u8 a 120 = a / 8 % 16 * 8) and120_fin a h0 h1
theorem or128_fin : ∀ a : Fin 256, bits .or .u8 128 ((a.val : Int) / 8 % 16 * 8) = 128 + (a.val : Int) / 8 % 16 * 8 := by decide +kernel
theorem or128_sel (a : Int) (h0 : 0 ≤ a) (h1 : a ≤ 255) : bits .or .u8 128 (a / 8 % 16 * 8) = 128 + a / 8 % 16 * 8 := fin8 (p := fun a => bits .or .u8 128 (a / 8 % 16 * 8) = 128 + a / 8 % 16 * 8) or128_fin a h0 h1
theorem orm_fin : ∀ a : Fin 256, ∀ n : Fin 8, bits .or .u8 (128 + (a.val : Int) / 8 % 16 * 8) ((n.val : Int) % 4) = 128 + (a.val : Int) / 8 % 16 * 8 + (n.val : Int) % 4 := by decide +kernel
theorem orm_sel (a m : Int) (h0 : 0 ≤ a) (h1 : a ≤ 255) (m0 : 0 ≤ m) (m1 : m ≤ 3) : bits .or .u8 (128 + a / 8 % 16 * 8) m = 128 + a / 8 % 16 * 8 + m := by
  have e := fin8n (p := fun a n => bits .or .u8 (128 + a / 8 % 16 * 8) (n % 4) = 128 + a / 8 % 16 * 8 + n % 4) orm_fin a m h0 h1 m0 (by omega)
  have e2 : m % 4 = m := by omega
  rw [e2] at e
  exact e
theorem or4_fin : ∀ a : Fin 256, ∀ n : Fin 8, bits .or .u8 (128 + (a.val : Int) / 8 % 16 * 8 + (n.val : Int) % 4) 4 = 128 + (a.val : Int) / 8 % 16 * 8 + (n.val : Int) % 4 + 4 := by decide +kernel
theorem or4_sel (a m : Int) (h0 : 0 ≤ a) (h1 : a ≤ 255) (m0 : 0 ≤ m) (m1 : m ≤ 3) : bits .or .u8 (128 + a / 8 % 16 * 8 + m) 4 = 128 + a / 8 % 16 * 8 + m + 4 := by
  have e := fin8n (p := fun a n => bits .or .u8 (128 + a / 8 % 16 * 8 + n % 4) 4 = 128 + a / 8 % 16 * 8 + n % 4 + 4) or4_fin a m h0 h1 m0 (by omega)
  have e2 : m % 4 = m := by omega
  rw [e2] at e
  exact e
set_option maxRecDepth 100000 in
set_option maxHeartbeats 4000000 in
theorem pset15_t (l : Lc) (w : World) (HA : ∀ u, Calls Try.prog 8 #[lcV l] u fun e w' => e = .returned (.bool true) ∧ Kept u w') : Calls Try.prog 11 #[lcV l] w fun e w' => e = .returned (.tuple #[lcV ⟨l.on, l.line, l.dot, l.lyc, l.sel, true, l.extra⟩, .bool (!l.high)]) ∧ Kept w w' := by
  have HA := hid HA
  obtain ⟨so, sl, sd, sy, ss, sh, se⟩ := l
  try simp only at *
  have X0 : Blk ((w.alloc (.cells ([.bool so, .int .u8 sl, .int .u16 sd, .int .u8 sy, .int .u8 ss, .bool sh, .int .u16 se] : List Value).toArray 25)).alloc (.cells ([.bool false, .int .u8 0, .int .u16 0, .int .u8 0, .int .u8 0, .bool false, .int .u16 0] : List Value).toArray 25)) w.heap.size 25 [.bool so, .int .u8 sl, .int .u16 sd, .int .u8 sy, .int .u8 ss, .bool sh, .int .u16 se] := blk_past (blk_new w _ _) _
  have X1 : Blk ((w.alloc (.cells ([.bool so, .int .u8 sl, .int .u16 sd, .int .u8 sy, .int .u8 ss, .bool sh, .int .u16 se] : List Value).toArray 25)).alloc (.cells ([.bool false, .int .u8 0, .int .u16 0, .int .u8 0, .int .u8 0, .bool false, .int .u16 0] : List Value).toArray 25)) (w.heap.size + 1) 25 [.bool false, .int .u8 0, .int .u16 0, .int .u8 0, .int .u8 0, .bool false, .int .u16 0] := by have q := blk_new (w.alloc (.cells ([.bool so, .int .u8 sl, .int .u16 sd, .int .u8 sy, .int .u8 ss, .bool sh, .int .u16 se] : List Value).toArray 25)) [.bool false, .int .u8 0, .int .u16 0, .int .u8 0, .int .u8 0, .bool false, .int .u16 0] 25; rw [World.size_alloc] at q; exact q
  have KX := hid (((Kept.refl w).alloc (.cells ([.bool so, .int .u8 sl, .int .u16 sd, .int .u8 sy, .int .u8 ss, .bool sh, .int .u16 se] : List Value).toArray 25)).alloc (.cells ([.bool false, .int .u8 0, .int .u16 0, .int .u8 0, .int .u8 0, .bool false, .int .u16 0] : List Value).toArray 25))
  go_enter Try.func11, Try.ntmps11
  go_wp2_with fail
  refine (HA.out _).mono ?_
  rintro e u1 ⟨rfl, k1⟩
  have Q1 := blk_kept k1 X0
  have R1 := blk_kept k1 X1
  have K1 := hid (KX.out.trans k1)
  have c1 := blk_cell Q1
  have z1 := blk_lt R1
  clear k1 X0 X1 KX
  go_wp2_with (first
    | ((with_reducible refine at_st 4 ?_); refine wl_store rfl rfl rfl rfl Q1 (by kernel_rfl) rfl (Nat.le_of_ble_eq_true rfl) (fun v2 p2 => ?_); have B2 : Blk v2 w.heap.size 25 [.bool so, .int .u8 sl, .int .u16 sd, .int .u8 sy, .int .u8 ss, .bool true, .int .u16 se] := p2.blk; have R2 := p2.other _ _ _ (Nat.succ_ne_self _) R1; have K2 := hid (p2.kept _ K1.out (Nat.le_refl _)); clear p2 K1 Q1 R1 c1; have c2 := blk_cell B2; have z2 := blk_lt R2)
    | ((with_reducible refine at_st 25 ?_); refine wl_store rfl rfl rfl rfl R2 (by kernel_rfl) rfl (Nat.le_of_ble_eq_true rfl) (fun v3 p3 => ?_); have B3 : Blk v3 (w.heap.size + 1) 25 [.bool so, .int .u8 sl, .int .u16 sd, .int .u8 sy, .int .u8 ss, .bool true, .int .u16 se] := p3.blk; have K3 := hid (p3.kept _ K2.out (Nat.le_succ _)); clear p3 K2 R2 B2 c2))
  exact bodyPost_ret (res_cell2 Try.results11 rfl B3 Try.underlying25 rfl (by kernel_rfl)) rfl ⟨rfl, K3.out⟩
set_option maxRecDepth 100000 in
set_option maxHeartbeats 4000000 in
theorem pset15_f (l : Lc) (w : World) (HA : ∀ u, Calls Try.prog 8 #[lcV l] u fun e w' => e = .returned (.bool false) ∧ Kept u w') : Calls Try.prog 11 #[lcV l] w fun e w' => e = .returned (.tuple #[lcV ⟨l.on, l.line, l.dot, l.lyc, l.sel, false, l.extra⟩, .bool false]) ∧ Kept w w' := by
  have HA := hid HA
  obtain ⟨so, sl, sd, sy, ss, sh, se⟩ := l
  try simp only at *
  have X0 : Blk ((w.alloc (.cells ([.bool so, .int .u8 sl, .int .u16 sd, .int .u8 sy, .int .u8 ss, .bool sh, .int .u16 se] : List Value).toArray 25)).alloc (.cells ([.bool false, .int .u8 0, .int .u16 0, .int .u8 0, .int .u8 0, .bool false, .int .u16 0] : List Value).toArray 25)) w.heap.size 25 [.bool so, .int .u8 sl, .int .u16 sd, .int .u8 sy, .int .u8 ss, .bool sh, .int .u16 se] := blk_past (blk_new w _ _) _
  have X1 : Blk ((w.alloc (.cells ([.bool so, .int .u8 sl, .int .u16 sd, .int .u8 sy, .int .u8 ss, .bool sh, .int .u16 se] : List Value).toArray 25)).alloc (.cells ([.bool false, .int .u8 0, .int .u16 0, .int .u8 0, .int .u8 0, .bool false, .int .u16 0] : List Value).toArray 25)) (w.heap.size + 1) 25 [.bool false, .int .u8 0, .int .u16 0, .int .u8 0, .int .u8 0, .bool false, .int .u16 0] := by have q := blk_new (w.alloc (.cells ([.bool so, .int .u8 sl, .int .u16 sd, .int .u8 sy, .int .u8 ss, .bool sh, .int .u16 se] : List Value).toArray 25)) [.bool false, .int .u8 0, .int .u16 0, .int .u8 0, .int .u8 0, .bool false, .int .u16 0] 25; rw [World.size_alloc] at q; exact q
  have KX := hid (((Kept.refl w).alloc (.cells ([.bool so, .int .u8 sl, .int .u16 sd, .int .u8 sy, .int .u8 ss, .bool sh, .int .u16 se] : List Value).toArray 25)).alloc (.cells ([.bool false, .int .u8 0, .int .u16 0, .int .u8 0, .int .u8 0, .bool false, .int .u16 0] : List Value).toArray 25))
  go_enter Try.func11, Try.ntmps11
  go_wp2_with fail
  refine (HA.out _).mono ?_
  rintro e u1 ⟨rfl, k1⟩
  have Q1 := blk_kept k1 X0
  have R1 := blk_kept k1 X1
  have K1 := hid (KX.out.trans k1)
  have c1 := blk_cell Q1
  have z1 := blk_lt R1
  clear k1 X0 X1 KX
  go_wp2_with (first
    | ((with_reducible refine at_st 4 ?_); refine wl_store rfl rfl rfl rfl Q1 (by kernel_rfl) rfl (Nat.le_of_ble_eq_true rfl) (fun v2 p2 => ?_); have B2 : Blk v2 w.heap.size 25 [.bool so, .int .u8 sl, .int .u16 sd, .int .u8 sy, .int .u8 ss, .bool false, .int .u16 se] := p2.blk; have R2 := p2.other _ _ _ (Nat.succ_ne_self _) R1; have K2 := hid (p2.kept _ K1.out (Nat.le_refl _)); clear p2 K1 Q1 R1 c1; have c2 := blk_cell B2; have z2 := blk_lt R2)
    | ((with_reducible refine at_st 25 ?_); refine wl_store rfl rfl rfl rfl R2 (by kernel_rfl) rfl (Nat.le_of_ble_eq_true rfl) (fun v3 p3 => ?_); have B3 : Blk v3 (w.heap.size + 1) 25 [.bool so, .int .u8 sl, .int .u16 sd, .int .u8 sy, .int .u8 ss, .bool false, .int .u16 se] := p3.blk; have K3 := hid (p3.kept _ K2.out (Nat.le_succ _)); clear p3 K2 R2 B2 c2))
  exact bodyPost_ret (res_cell2 Try.results11 rfl B3 Try.underlying25 rfl (by kernel_rfl)) rfl ⟨rfl, K3.out⟩
theorem pset15 (l : Lc) (w : World) (I : LcIn l) : Calls Try.prog 11 #[lcV l] w fun e w' => e = .returned (.tuple #[lcV (setL l), .bool (riseL l)]) ∧ Kept w w' := by
  have M := fun u => psrc15 l u I
  unfold setL riseL
  cases hs : srcL l <;> rw [hs] at M
  · exact pset15_f l w M
  · exact pset15_t l w M
set_option maxRecDepth 100000 in
set_option maxHeartbeats 4000000 in
theorem pon15_a (l : Lc) (w : World) (I : LcIn l) (q : l.dot < 455) : Calls Try.prog 10 #[lcV l] w fun e w' => e = .returned (lcV (onL l)) ∧ Kept w w' := by
  have E : onL l = ⟨l.on, l.line, l.dot + 1, l.lyc, l.sel, l.high, l.extra⟩ := by unfold onL; rw [if_pos q]
  rw [E]
  clear E
  obtain ⟨so, sl, sd, sy, ss, sh, se⟩ := l
  have l0 := I.l0
  have l1 := I.l1
  have d0 := I.d0
  have d1 := I.d1
  have y0 := I.y0
  have y1 := I.y1
  have s0 := I.s0
  have s1 := I.s1
  have e0 := I.e0
  have e1 := I.e1
  simp only at l0 l1 d0 d1 y0 y1 s0 s1 e0 e1
  try simp only at *
  have g1 : decide (sd < 455) = true := decide_eq_true q
  have g2 : IntKind.u16.wrap (sd + 1) = sd + 1 := by rw [IntKind.wrap_u16]; omega
  clear I
  go_enter Try.func10, Try.ntmps10
  go_wp2
  exact bodyPost_ret (v := lcV ⟨so, sl, (sd + 1), sy, ss, sh, se⟩) (by simp [results, Try.results10, go_sem]) rfl ⟨rfl, by repeat (first | with_reducible exact Kept.refl _ | with_reducible refine Kept.alloc ?_ _ | with_reducible refine Kept.drew ?_ | (with_reducible refine Kept.setCell8 ?_ ?_ _ _; rotate_left; (first | exact Nat.le_refl _ | omega | (simp; done) | (simp; omega))))⟩
set_option maxRecDepth 100000 in
set_option maxHeartbeats 4000000 in
theorem pon15_b (l : Lc) (w : World) (I : LcIn l) (q : ¬ l.dot < 455) (r : l.line < 153) : Calls Try.prog 10 #[lcV l] w fun e w' => e = .returned (lcV (onL l)) ∧ Kept w w' := by
  have E : onL l = ⟨l.on, l.line + 1, 0, l.lyc, l.sel, l.high, l.extra⟩ := by unfold onL; rw [if_neg q, if_pos r]
  rw [E]
  clear E
  obtain ⟨so, sl, sd, sy, ss, sh, se⟩ := l
  have l0 := I.l0
  have l1 := I.l1
  have d0 := I.d0
  have d1 := I.d1
  have y0 := I.y0
  have y1 := I.y1
  have s0 := I.s0
  have s1 := I.s1
  have e0 := I.e0
  have e1 := I.e1
  simp only at l0 l1 d0 d1 y0 y1 s0 s1 e0 e1
  try simp only at *
  have g1 : decide (sd < 455) = false := decide_eq_false q
  have g3 : decide (sl < 153) = true := decide_eq_true r
  have g2 : IntKind.u8.wrap (sl + 1) = sl + 1 := by rw [IntKind.wrap_u8]; omega
  clear I
  go_enter Try.func10, Try.ntmps10
  go_wp2
  exact bodyPost_ret (v := lcV ⟨so, (sl + 1), 0, sy, ss, sh, se⟩) (by simp [results, Try.results10, go_sem]) rfl ⟨rfl, by repeat (first | with_reducible exact Kept.refl _ | with_reducible refine Kept.alloc ?_ _ | with_reducible refine Kept.drew ?_ | (with_reducible refine Kept.setCell8 ?_ ?_ _ _; rotate_left; (first | exact Nat.le_refl _ | omega | (simp; done) | (simp; omega))))⟩
set_option maxRecDepth 100000 in
set_option maxHeartbeats 4000000 in
theorem pon15_c (l : Lc) (w : World) (I : LcIn l) (q : ¬ l.dot < 455) (r : ¬ l.line < 153) : Calls Try.prog 10 #[lcV l] w fun e w' => e = .returned (lcV (onL l)) ∧ Kept w w' := by
  have E : onL l = ⟨l.on, 0, 0, l.lyc, l.sel, l.high, l.extra⟩ := by unfold onL; rw [if_neg q, if_neg r]
  rw [E]
  clear E
  obtain ⟨so, sl, sd, sy, ss, sh, se⟩ := l
  have l0 := I.l0
  have l1 := I.l1
  have d0 := I.d0
  have d1 := I.d1
  have y0 := I.y0
  have y1 := I.y1
  have s0 := I.s0
  have s1 := I.s1
  have e0 := I.e0
  have e1 := I.e1
  simp only at l0 l1 d0 d1 y0 y1 s0 s1 e0 e1
  try simp only at *
  have g1 : decide (sd < 455) = false := decide_eq_false q
  have g3 : decide (sl < 153) = false := decide_eq_false r
  clear I
  go_enter Try.func10, Try.ntmps10
  go_wp2
  exact bodyPost_ret (v := lcV ⟨so, 0, 0, sy, ss, sh, se⟩) (by simp [results, Try.results10, go_sem]) rfl ⟨rfl, by repeat (first | with_reducible exact Kept.refl _ | with_reducible refine Kept.alloc ?_ _ | with_reducible refine Kept.drew ?_ | (with_reducible refine Kept.setCell8 ?_ ?_ _ _; rotate_left; (first | exact Nat.le_refl _ | omega | (simp; done) | (simp; omega))))⟩
theorem pon15 (l : Lc) (w : World) (I : LcIn l) : Calls Try.prog 10 #[lcV l] w fun e w' => e = .returned (lcV (onL l)) ∧ Kept w w' := by
  by_cases q : l.dot < 455
  · exact pon15_a l w I q
  by_cases r : l.line < 153
  · exact pon15_b l w I q r
  · exact pon15_c l w I q r
set_option maxRecDepth 100000 in
set_option maxHeartbeats 4000000 in
theorem pstat15_s (l : Lc) (m : Int) (w : World) (I : LcIn l) (m0 : 0 ≤ m) (m1 : m ≤ 3) (HM : ∀ u, Calls Try.prog 7 #[lcV l] u fun e w' => e = .returned (.int .i64 m) ∧ Kept u w') (HS : ∀ u, Calls Try.prog 14 #[lcV l] u fun e w' => e = .returned (.bool true) ∧ Kept u w') : Calls Try.prog 15 #[lcV l] w fun e w' => e = .returned (.int .u8 (128 + l.sel / 8 % 16 * 8 + m + 4)) ∧ Kept w w' := by
  have HM := hid HM
  have HS := hid HS
  have a1 := and120 l.sel I.s0 I.s1
  have a2 := or128_sel l.sel I.s0 I.s1
  have a3 := orm_sel l.sel m I.s0 I.s1 m0 m1
  have a4 := or4_sel l.sel m I.s0 I.s1 m0 m1
  have a5 : IntKind.u8.wrap m = m := by rw [IntKind.wrap_u8]; omega
  obtain ⟨so, sl, sd, sy, ss, sh, se⟩ := l
  try simp only at *
  clear I
  have Q0 : Blk (w.alloc (.cells ([.bool so, .int .u8 sl, .int .u16 sd, .int .u8 sy, .int .u8 ss, .bool sh, .int .u16 se] : List Value).toArray 25)) w.heap.size 25 [.bool so, .int .u8 sl, .int .u16 sd, .int .u8 sy, .int .u8 ss, .bool sh, .int .u16 se] := blk_new w _ _
  have K0 := hid ((Kept.refl w).alloc (.cells ([.bool so, .int .u8 sl, .int .u16 sd, .int .u8 sy, .int .u8 ss, .bool sh, .int .u16 se] : List Value).toArray 25))
  have c0 := blk_cell Q0
  go_enter Try.func15, Try.ntmps15
  go_wp2_with fail
  go_region_with (go_at_call 7; refine (HM.out _).mono ?_; rintro e v1 ⟨rfl, q1⟩; have QQ := blk_kept q1 (blk_drew Q0); have cq := blk_cell QQ; have zq := blk_lt QQ; have KQ := hid (K0.out.drew.trans q1))
  all_goals
    go_wp2_with fail
    refine (HS.out _).mono ?_
    rintro e v2 ⟨rfl, q2⟩
    have KR := hid (KQ.out.trans q2)
    clear q2
    go_wp2
    go_ret
    exact ⟨rfl, KR.out⟩
set_option maxRecDepth 100000 in
set_option maxHeartbeats 4000000 in
theorem pstat15_n (l : Lc) (m : Int) (w : World) (I : LcIn l) (m0 : 0 ≤ m) (m1 : m ≤ 3) (HM : ∀ u, Calls Try.prog 7 #[lcV l] u fun e w' => e = .returned (.int .i64 m) ∧ Kept u w') (HS : ∀ u, Calls Try.prog 14 #[lcV l] u fun e w' => e = .returned (.bool false) ∧ Kept u w') : Calls Try.prog 15 #[lcV l] w fun e w' => e = .returned (.int .u8 (128 + l.sel / 8 % 16 * 8 + m)) ∧ Kept w w' := by
  have HM := hid HM
  have HS := hid HS
  have a1 := and120 l.sel I.s0 I.s1
  have a2 := or128_sel l.sel I.s0 I.s1
  have a3 := orm_sel l.sel m I.s0 I.s1 m0 m1
  have a4 := or4_sel l.sel m I.s0 I.s1 m0 m1
  have a5 : IntKind.u8.wrap m = m := by rw [IntKind.wrap_u8]; omega
  obtain ⟨so, sl, sd, sy, ss, sh, se⟩ := l
  try simp only at *
  clear I
  have Q0 : Blk (w.alloc (.cells ([.bool so, .int .u8 sl, .int .u16 sd, .int .u8 sy, .int .u8 ss, .bool sh, .int .u16 se] : List Value).toArray 25)) w.heap.size 25 [.bool so, .int .u8 sl, .int .u16 sd, .int .u8 sy, .int .u8 ss, .bool sh, .int .u16 se] := blk_new w _ _
  have K0 := hid ((Kept.refl w).alloc (.cells ([.bool so, .int .u8 sl, .int .u16 sd, .int .u8 sy, .int .u8 ss, .bool sh, .int .u16 se] : List Value).toArray 25))
  have c0 := blk_cell Q0
  go_enter Try.func15, Try.ntmps15
  go_wp2_with fail
  go_region_with (go_at_call 7; refine (HM.out _).mono ?_; rintro e v1 ⟨rfl, q1⟩; have QQ := blk_kept q1 (blk_drew Q0); have cq := blk_cell QQ; have zq := blk_lt QQ; have KQ := hid (K0.out.drew.trans q1))
  all_goals
    go_wp2_with fail
    refine (HS.out _).mono ?_
    rintro e v2 ⟨rfl, q2⟩
    have KR := hid (KQ.out.trans q2)
    clear q2
    go_wp2
    go_ret
    exact ⟨rfl, KR.out⟩
theorem pstat15 (l : Lc) (w : World) (I : LcIn l) : Calls Try.prog 15 #[lcV l] w fun e w' => e = .returned (.int .u8 (statL l)) ∧ Kept w w' := by
  have M := fun u => pmode15 l u I
  have S := fun u => psame15 l u
  have mi := mode_in l
  unfold statL fourL
  by_cases q : l.line = l.lyc
  · rw [if_pos q]
    rw [show (l.line == l.lyc) = true by simpa using q] at S
    exact pstat15_s l _ w I mi.1 mi.2 M S
  · rw [if_neg q, Int.add_zero]
    rw [show (l.line == l.lyc) = false by simpa using q] at S
    exact pstat15_n l _ w I mi.1 mi.2 M S
set_option maxRecDepth 100000 in
set_option maxHeartbeats 4000000 in
theorem pread15_a (l : Lc) (w : World) (x : Int) (HA : ∀ u, Calls Try.prog 15 #[lcV l] u fun e w' => e = .returned (.int .u8 x) ∧ Kept u w') : Calls Try.prog 9 #[lcV l, .int .u16 65345] w fun e w' => e = .returned (.int .u8 x) ∧ Kept w w' := by
  have HA := hid HA
  obtain ⟨so, sl, sd, sy, ss, sh, se⟩ := l
  try simp only at *
  have Q0 : Blk (w.alloc (.cells ([.bool so, .int .u8 sl, .int .u16 sd, .int .u8 sy, .int .u8 ss, .bool sh, .int .u16 se] : List Value).toArray 25)) w.heap.size 25 [.bool so, .int .u8 sl, .int .u16 sd, .int .u8 sy, .int .u8 ss, .bool sh, .int .u16 se] := blk_new w _ _
  have K0 := hid ((Kept.refl w).alloc (.cells ([.bool so, .int .u8 sl, .int .u16 sd, .int .u8 sy, .int .u8 ss, .bool sh, .int .u16 se] : List Value).toArray 25))
  go_enter Try.func9, Try.ntmps9
  go_wp2_with fail
  refine (HA.out _).mono ?_
  rintro e u1 ⟨rfl, k1⟩
  have Q1 := blk_kept k1 Q0
  have K1 := hid (K0.out.trans k1)
  have c1 := blk_cell Q1
  clear k1 Q0 K0
  go_wp2
  go_ret
  exact ⟨rfl, K1.out⟩
set_option maxRecDepth 100000 in
set_option maxHeartbeats 4000000 in
theorem pread15 (l : Lc) (a : Int) (w : World) (I : LcIn l) (a0 : 0 ≤ a) (a1 : a ≤ 65535) : Calls Try.prog 9 #[lcV l, .int .u16 a] w fun e w' => e = .returned (.int .u8 (readL l a)) ∧ Kept w w' := by
  by_cases q0 : a = 65345
  · subst q0
    exact pread15_a l w _ (fun u => pstat15 l u I)
  have g0 : (a == 65345) = false := by simpa using q0
  obtain ⟨so, sl, sd, sy, ss, sh, se⟩ := l
  by_cases q1 : a = 65348
  · subst q1
    have E := hid (show readL ⟨so, sl, sd, sy, ss, sh, se⟩ 65348 = sl from rfl)
    clear I
    go_enter Try.func9, Try.ntmps9
    go_wp2
    go_ret
    exact ⟨by rw [E.out]; rfl, by repeat (first | with_reducible exact Kept.refl _ | with_reducible refine Kept.alloc ?_ _ | with_reducible refine Kept.drew ?_ | (with_reducible refine Kept.setCell8 ?_ ?_ _ _; rotate_left; (first | exact Nat.le_refl _ | omega | (simp; done) | (simp; omega))))⟩
  have g1 : (a == 65348) = false := by simpa using q1
  by_cases q2 : a = 65349
  · subst q2
    have E := hid (show readL ⟨so, sl, sd, sy, ss, sh, se⟩ 65349 = sy from rfl)
    clear I
    go_enter Try.func9, Try.ntmps9
    go_wp2
    go_ret
    exact ⟨by rw [E.out]; rfl, by repeat (first | with_reducible exact Kept.refl _ | with_reducible refine Kept.alloc ?_ _ | with_reducible refine Kept.drew ?_ | (with_reducible refine Kept.setCell8 ?_ ?_ _ _; rotate_left; (first | exact Nat.le_refl _ | omega | (simp; done) | (simp; omega))))⟩
  have g2 : (a == 65349) = false := by simpa using q2
  have E := hid (show readL ⟨so, sl, sd, sy, ss, sh, se⟩ a = 255 by unfold readL; rw [if_neg q0, if_neg q1, if_neg q2])
  clear I q0 q1 q2
  go_enter Try.func9, Try.ntmps9
  go_wp2
  go_ret
  exact ⟨by rw [E.out]; rfl, by repeat (first | with_reducible exact Kept.refl _ | with_reducible refine Kept.alloc ?_ _ | with_reducible refine Kept.drew ?_ | (with_reducible refine Kept.setCell8 ?_ ?_ _ _; rotate_left; (first | exact Nat.le_refl _ | omega | (simp; done) | (simp; omega))))⟩
end Go.Proofs.Ytpgdkoiinigepab
