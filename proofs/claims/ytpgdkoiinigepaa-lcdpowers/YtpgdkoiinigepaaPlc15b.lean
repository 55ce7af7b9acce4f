/- What the program's calls of layer 15 come to: settled, onward, stat, Read, Write, Power. -/
import Derived.Test.YtpgdkoiinigepaaPlc15a
namespace Go.Proofs.Ytpgdkoiinigepaa
open Go.RowKit
set_option linter.unusedVariables false
set_option linter.unusedSimpArgs false

theorem and120_fin : ∀ a : Fin 256, bits .and .u8 (a.val : Int) 120 = (a.val : Int) / 8 % 16 * 8 := by decide +kernel
theorem and120 (a : Int) (h0 : 0 ≤ a) (h1 : a ≤ 255) : bits .and .u8 a 120 = a / 8 % 16 * 8 := fin8 (p := fun a => bits .and .u8 a 120 = a / 8 % 16 * 8) and120_fin a h0 h1
theorem or128_fin : ∀ a : Fin 256, bits .or .u8 128 ((a.val : Int) / 8 % 16 * 8) = 128 + (a.val : Int) / 8 % 16 * 8 := by decide +kernel
theorem or128_sel (a : Int) (h0 : 0 ≤ a) (h1 : a ≤ 255) : bits .or .u8 128 (a / 8 % 16 * 8) = 128 + a / 8 % 16 * 8 := fin8 (p := fun a => bits .or .u8 128 (a / 8 % 16 * 8) = 128 + a / 8 % 16 * 8) or128_fin a h0 h1
theorem orm_fin : ∀ a : Fin 256, ∀ n : Fin 8, bits .or .u8 (128 + (a.val : Int) / 8 % 16 * 8) ((n.val : Int) % 4) = 128 + (a.val : Int) / 8 % 16 * 8 + (n.val : Int) % 4 := by decide +kernel
theorem orm_sel (a m : Int) (h0 : 0 ≤ a) (h1 : a ≤ 255) (m0 : 0 ≤ m) (m1 : m ≤ 3) : bits .or .u8 (128 + a / 8 % 16 * 8) m = 128 + a / 8 % 16 * 8 + m := by
  have e := fin8n (p := fun a n => bits .or .u8 (128 + a / 8 % 16 * 8) (n % 4) = 128 + a / 8 % 16 * 8 + n % 4) orm_fin a m h0 h1 m0 (by omega)
  have e2 : m % 4 = m := by omega
  rw [e2] at e
  exact e
theorem or4_fin : ∀ a : Fin 256, ∀ n : Fin 8, bits .or .u8 (128 + (a.val : Int) / 8 % 16 * 8 + (n.val : Int) % 4) 4 = 128 + (a.val : Int) / 8 % 16 * 8 + (n.val : Int) % 4 + 4 := by decide +kernel
theorem or4_sel (a m : Int) (h0 : 0 ≤ a) (h1 : a ≤ 255) (m0 : 0 ≤ m) (m1 : m ≤ 3) : bits .or .u8 (128 + a / 8 % 16 * 8 + m) 4 = 128 + a / 8 % 16 * 8 + m + 4 := by
  have e := fin8n (p := fun a n => bits .or .u8 (128 + a / 8 % 16 * 8 + n % 4) 4 = 128 + a / 8 % 16 * 8 + n % 4 + 4) or4_fin a m h0 h1 m0 (by omega)
  have e2 : m % 4 = m := by omega
  rw [e2] at e
  exact e
set_option maxRecDepth 100000 in
set_option maxHeartbeats 4000000 in
theorem pset15_t (l : Lc) (w : World) (HA : ∀ u, Calls Try.prog 14 #[lcV l] u fun e w' => e = .returned (.bool true) ∧ Kept u w') : Calls Try.prog 29 #[lcV l] w fun e w' => e = .returned (.tuple #[lcV ⟨l.on, l.line, l.dot, l.lyc, l.sel, true, l.extra⟩, .bool (!l.high)]) ∧ Kept w w' := by
  have HA := hid HA
  obtain ⟨so, sl, sd, sy, ss, sh, se⟩ := l
  try simp only at *
  have X0 : Blk ((w.alloc (.cells ([.bool so, .int .u8 sl, .int .u16 sd, .int .u8 sy, .int .u8 ss, .bool sh, .int .u16 se] : List Value).toArray 24)).alloc (.cells ([.bool false, .int .u8 0, .int .u16 0, .int .u8 0, .int .u8 0, .bool false, .int .u16 0] : List Value).toArray 24)) w.heap.size 24 [.bool so, .int .u8 sl, .int .u16 sd, .int .u8 sy, .int .u8 ss, .bool sh, .int .u16 se] := blk_past (blk_new w _ _) _
  have X1 : Blk ((w.alloc (.cells ([.bool so, .int .u8 sl, .int .u16 sd, .int .u8 sy, .int .u8 ss, .bool sh, .int .u16 se] : List Value).toArray 24)).alloc (.cells ([.bool false, .int .u8 0, .int .u16 0, .int .u8 0, .int .u8 0, .bool false, .int .u16 0] : List Value).toArray 24)) (w.heap.size + 1) 24 [.bool false, .int .u8 0, .int .u16 0, .int .u8 0, .int .u8 0, .bool false, .int .u16 0] := by have q := blk_new (w.alloc (.cells ([.bool so, .int .u8 sl, .int .u16 sd, .int .u8 sy, .int .u8 ss, .bool sh, .int .u16 se] : List Value).toArray 24)) [.bool false, .int .u8 0, .int .u16 0, .int .u8 0, .int .u8 0, .bool false, .int .u16 0] 24; rw [World.size_alloc] at q; exact q
  have KX := hid (((Kept.refl w).alloc (.cells ([.bool so, .int .u8 sl, .int .u16 sd, .int .u8 sy, .int .u8 ss, .bool sh, .int .u16 se] : List Value).toArray 24)).alloc (.cells ([.bool false, .int .u8 0, .int .u16 0, .int .u8 0, .int .u8 0, .bool false, .int .u16 0] : List Value).toArray 24))
  go_enter Try.func29, Try.ntmps29
  go_wp2_with fail
  refine (HA.out _).mono ?_
  rintro e u1 ⟨rfl, k1⟩
  have Q1 := blk_kept k1 X0
  have R1 := blk_kept k1 X1
  have K1 := hid (KX.out.trans k1)
  have c1 := blk_cell Q1
  have z1 := blk_lt R1
  clear k1 X0 X1 KX
  go_wp2_with (first
    | ((with_reducible refine at_st 4 ?_); refine wl_store rfl rfl rfl rfl Q1 (by kernel_rfl) rfl (Nat.le_of_ble_eq_true rfl) (fun v2 p2 => ?_); have B2 : Blk v2 w.heap.size 24 [.bool so, .int .u8 sl, .int .u16 sd, .int .u8 sy, .int .u8 ss, .bool true, .int .u16 se] := p2.blk; have R2 := p2.other _ _ _ (Nat.succ_ne_self _) R1; have K2 := hid (p2.kept _ K1.out (Nat.le_refl _)); clear p2 K1 Q1 R1 c1; have c2 := blk_cell B2; have z2 := blk_lt R2)
    | ((with_reducible refine at_st 24 ?_); refine wl_store rfl rfl rfl rfl R2 (by kernel_rfl) rfl (Nat.le_of_ble_eq_true rfl) (fun v3 p3 => ?_); have B3 : Blk v3 (w.heap.size + 1) 24 [.bool so, .int .u8 sl, .int .u16 sd, .int .u8 sy, .int .u8 ss, .bool true, .int .u16 se] := p3.blk; have K3 := hid (p3.kept _ K2.out (Nat.le_succ _)); clear p3 K2 R2 B2 c2))
  exact bodyPost_ret (res_cell2 Try.results29 rfl B3 Try.underlying24 rfl (by kernel_rfl)) rfl ⟨rfl, K3.out⟩
set_option maxRecDepth 100000 in
set_option maxHeartbeats 4000000 in
theorem pset15_f (l : Lc) (w : World) (HA : ∀ u, Calls Try.prog 14 #[lcV l] u fun e w' => e = .returned (.bool false) ∧ Kept u w') : Calls Try.prog 29 #[lcV l] w fun e w' => e = .returned (.tuple #[lcV ⟨l.on, l.line, l.dot, l.lyc, l.sel, false, l.extra⟩, .bool false]) ∧ Kept w w' := by
  have HA := hid HA
  obtain ⟨so, sl, sd, sy, ss, sh, se⟩ := l
  try simp only at *
  have X0 : Blk ((w.alloc (.cells ([.bool so, .int .u8 sl, .int .u16 sd, .int .u8 sy, .int .u8 ss, .bool sh, .int .u16 se] : List Value).toArray 24)).alloc (.cells ([.bool false, .int .u8 0, .int .u16 0, .int .u8 0, .int .u8 0, .bool false, .int .u16 0] : List Value).toArray 24)) w.heap.size 24 [.bool so, .int .u8 sl, .int .u16 sd, .int .u8 sy, .int .u8 ss, .bool sh, .int .u16 se] := blk_past (blk_new w _ _) _
  have X1 : Blk ((w.alloc (.cells ([.bool so, .int .u8 sl, .int .u16 sd, .int .u8 sy, .int .u8 ss, .bool sh, .int .u16 se] : List Value).toArray 24)).alloc (.cells ([.bool false, .int .u8 0, .int .u16 0, .int .u8 0, .int .u8 0, .bool false, .int .u16 0] : List Value).toArray 24)) (w.heap.size + 1) 24 [.bool false, .int .u8 0, .int .u16 0, .int .u8 0, .int .u8 0, .bool false, .int .u16 0] := by have q := blk_new (w.alloc (.cells ([.bool so, .int .u8 sl, .int .u16 sd, .int .u8 sy, .int .u8 ss, .bool sh, .int .u16 se] : List Value).toArray 24)) [.bool false, .int .u8 0, .int .u16 0, .int .u8 0, .int .u8 0, .bool false, .int .u16 0] 24; rw [World.size_alloc] at q; exact q
  have KX := hid (((Kept.refl w).alloc (.cells ([.bool so, .int .u8 sl, .int .u16 sd, .int .u8 sy, .int .u8 ss, .bool sh, .int .u16 se] : List Value).toArray 24)).alloc (.cells ([.bool false, .int .u8 0, .int .u16 0, .int .u8 0, .int .u8 0, .bool false, .int .u16 0] : List Value).toArray 24))
  go_enter Try.func29, Try.ntmps29
  go_wp2_with fail
  refine (HA.out _).mono ?_
  rintro e u1 ⟨rfl, k1⟩
  have Q1 := blk_kept k1 X0
  have R1 := blk_kept k1 X1
  have K1 := hid (KX.out.trans k1)
  have c1 := blk_cell Q1
  have z1 := blk_lt R1
  clear k1 X0 X1 KX
  go_wp2_with (first
    | ((with_reducible refine at_st 4 ?_); refine wl_store rfl rfl rfl rfl Q1 (by kernel_rfl) rfl (Nat.le_of_ble_eq_true rfl) (fun v2 p2 => ?_); have B2 : Blk v2 w.heap.size 24 [.bool so, .int .u8 sl, .int .u16 sd, .int .u8 sy, .int .u8 ss, .bool false, .int .u16 se] := p2.blk; have R2 := p2.other _ _ _ (Nat.succ_ne_self _) R1; have K2 := hid (p2.kept _ K1.out (Nat.le_refl _)); clear p2 K1 Q1 R1 c1; have c2 := blk_cell B2; have z2 := blk_lt R2)
    | ((with_reducible refine at_st 24 ?_); refine wl_store rfl rfl rfl rfl R2 (by kernel_rfl) rfl (Nat.le_of_ble_eq_true rfl) (fun v3 p3 => ?_); have B3 : Blk v3 (w.heap.size + 1) 24 [.bool so, .int .u8 sl, .int .u16 sd, .int .u8 sy, .int .u8 ss, .bool false, .int .u16 se] := p3.blk; have K3 := hid (p3.kept _ K2.out (Nat.le_succ _)); clear p3 K2 R2 B2 c2))
  exact bodyPost_ret (res_cell2 Try.results29 rfl B3 Try.underlying24 rfl (by kernel_rfl)) rfl ⟨rfl, K3.out⟩
theorem pset15 (l : Lc) (w : World) (I : LcIn l) : Calls Try.prog 29 #[lcV l] w fun e w' => e = .returned (.tuple #[lcV (setL l), .bool (riseL l)]) ∧ Kept w w' := by
  have M := fun u => psrc15 l u I
  unfold setL riseL
  cases hs : srcL l <;> rw [hs] at M
  · exact pset15_f l w M
  · exact pset15_t l w M
set_option maxRecDepth 100000 in
set_option maxHeartbeats 4000000 in
theorem pon15_a (l : Lc) (w : World) (I : LcIn l) (q : l.dot < 455) : Calls Try.prog 28 #[lcV l] w fun e w' => e = .returned (lcV (onL l)) ∧ Kept w w' := by
  have E : onL l = ⟨l.on, l.line, l.dot + 1, l.lyc, l.sel, l.high, l.extra⟩ := by unfold onL; rw [if_pos q]
  rw [E]
  clear E
  obtain ⟨so, sl, sd, sy, ss, sh, se⟩ := l
  have l0 := I.l0
  have l1 := I.l1
  have d0 := I.d0
  have d1 := I.d1
  have y0 := I.y0
  have y1 := I.y1
  have s0 := I.s0
  have s1 := I.s1
  have e0 := I.e0
  have e1 := I.e1
  simp only at l0 l1 d0 d1 y0 y1 s0 s1 e0 e1
  try simp only at *
  have g1 : decide (sd < 455) = true := decide_eq_true q
  have g2 : IntKind.u16.wrap (sd + 1) = sd + 1 := by rw [IntKind.wrap_u16]; omega
  clear I
  go_enter Try.func28, Try.ntmps28
  go_wp2
  exact bodyPost_ret (v := lcV ⟨so, sl, (sd + 1), sy, ss, sh, se⟩) (by simp [results, Try.results28, go_sem]) rfl ⟨rfl, by repeat (first | with_reducible exact Kept.refl _ | with_reducible refine Kept.alloc ?_ _ | with_reducible refine Kept.drew ?_ | (with_reducible refine Kept.setCell8 ?_ ?_ _ _; rotate_left; (first | exact Nat.le_refl _ | omega | (simp; done) | (simp; omega))))⟩
set_option maxRecDepth 100000 in
set_option maxHeartbeats 4000000 in
theorem pon15_b (l : Lc) (w : World) (I : LcIn l) (q : ¬ l.dot < 455) (r : l.line < 153) : Calls Try.prog 28 #[lcV l] w fun e w' => e = .returned (lcV (onL l)) ∧ Kept w w' := by
  have E : onL l = ⟨l.on, l.line + 1, 0, l.lyc, l.sel, l.high, l.extra⟩ := by unfold onL; rw [if_neg q, if_pos r]
  rw [E]
  clear E
  obtain ⟨so, sl, sd, sy, ss, sh, se⟩ := l
  have l0 := I.l0
  have l1 := I.l1
  have d0 := I.d0
  have d1 := I.d1
  have y0 := I.y0
  have y1 := I.y1
  have s0 := I.s0
  have s1 := I.s1
  have e0 := I.e0
  have e1 := I.e1
  simp only at l0 l1 d0 d1 y0 y1 s0 s1 e0 e1
  try simp only at *
  have g1 : decide (sd < 455) = false := decide_eq_false q
  have g3 : decide (sl < 153) = true := decide_eq_true r
  have g2 : IntKind.u8.wrap (sl + 1) = sl + 1 := by rw [IntKind.wrap_u8]; omega
  clear I
  go_enter Try.func28, Try.ntmps28
  go_wp2
  exact bodyPost_ret (v := lcV ⟨so, (sl + 1), 0, sy, ss, sh, se⟩) (by simp [results, Try.results28, go_sem]) rfl ⟨rfl, by repeat (first | with_reducible exact Kept.refl _ | with_reducible refine Kept.alloc ?_ _ | with_reducible refine Kept.drew ?_ | (with_reducible refine Kept.setCell8 ?_ ?_ _ _; rotate_left; (first | exact Nat.le_refl _ | omega | (simp; done) | (simp; omega))))⟩
set_option maxRecDepth 100000 in
set_option maxHeartbeats 4000000 in
theorem pon15_c (l : Lc) (w : World) (I : LcIn l) (q : ¬ l.dot < 455) (r : ¬ l.line < 153) : Calls Try.prog 28 #[lcV l] w fun e w' => e = .returned (lcV (onL l)) ∧ Kept w w' := by
  have E : onL l = ⟨l.on, 0, 0, l.lyc, l.sel, l.high, l.extra⟩ := by unfold onL; rw [if_neg q, if_neg r]
  rw [E]
  clear E
  obtain ⟨so, sl, sd, sy, ss, sh, se⟩ := l
  have l0 := I.l0
  have l1 := I.l1
  have d0 := I.d0
  have d1 := I.d1
  have y0 := I.y0
  have y1 := I.y1
  have s0 := I.s0
  have s1 := I.s1
  have e0 := I.e0
  have e1 := I.e1
  simp only at l0 l1 d0 d1 y0 y1 s0 s1 e0 e1
  try simp only at *
  have g1 : decide (sd < 455) = false := decide_eq_false q
  have g3 : decide (sl < 153) = false := decide_eq_false r
  clear I
  go_enter Try.func28, Try.ntmps28
  go_wp2
  exact bodyPost_ret (v := lcV ⟨so, 0, 0, sy, ss, sh, se⟩) (by simp [results, Try.results28, go_sem]) rfl ⟨rfl, by repeat (first | with_reducible exact Kept.refl _ | with_reducible refine Kept.alloc ?_ _ | with_reducible refine Kept.drew ?_ | (with_reducible refine Kept.setCell8 ?_ ?_ _ _; rotate_left; (first | exact Nat.le_refl _ | omega | (simp; done) | (simp; omega))))⟩
theorem pon15 (l : Lc) (w : World) (I : LcIn l) : Calls Try.prog 28 #[lcV l] w fun e w' => e = .returned (lcV (onL l)) ∧ Kept w w' := by
  by_cases q : l.dot < 455
  · exact pon15_a l w I q
  by_cases r : l.line < 153
  · exact pon15_b l w I q r
  · exact pon15_c l w I q r
set_option maxRecDepth 100000 in
set_option maxHeartbeats 4000000 in
theorem pstat15_s (l : Lc) (m : Int) (w : World) (I : LcIn l) (m0 : 0 ≤ m) (m1 : m ≤ 3) (HM : ∀ u, Calls Try.prog 12 #[lcV l] u fun e w' => e = .returned (.int .i64 m) ∧ Kept u w') (HS : ∀ u, Calls Try.prog 26 #[lcV l] u fun e w' => e = .returned (.bool true) ∧ Kept u w') : Calls Try.prog 31 #[lcV l] w fun e w' => e = .returned (.int .u8 (128 + l.sel / 8 % 16 * 8 + m + 4)) ∧ Kept w w' := by
  have HM := hid HM
  have HS := hid HS
  have a1 := and120 l.sel I.s0 I.s1
  have a2 := or128_sel l.sel I.s0 I.s1
  have a3 := orm_sel l.sel m I.s0 I.s1 m0 m1
  have a4 := or4_sel l.sel m I.s0 I.s1 m0 m1
  have a5 : IntKind.u8.wrap m = m := by rw [IntKind.wrap_u8]; omega
  obtain ⟨so, sl, sd, sy, ss, sh, se⟩ := l
  try simp only at *
  clear I
  have Q0 : Blk (w.alloc (.cells ([.bool so, .int .u8 sl, .int .u16 sd, .int .u8 sy, .int .u8 ss, .bool sh, .int .u16 se] : List Value).toArray 24)) w.heap.size 24 [.bool so, .int .u8 sl, .int .u16 sd, .int .u8 sy, .int .u8 ss, .bool sh, .int .u16 se] := blk_new w _ _
  have K0 := hid ((Kept.refl w).alloc (.cells ([.bool so, .int .u8 sl, .int .u16 sd, .int .u8 sy, .int .u8 ss, .bool sh, .int .u16 se] : List Value).toArray 24))
  have c0 := blk_cell Q0
  go_enter Try.func31, Try.ntmps31
  go_wp2_with fail
  go_region_with (go_at_call 12; refine (HM.out _).mono ?_; rintro e v1 ⟨rfl, q1⟩; have QQ := blk_kept q1 (blk_drew Q0); have cq := blk_cell QQ; have zq := blk_lt QQ; have KQ := hid (K0.out.drew.trans q1))
  all_goals
    go_wp2_with fail
    refine (HS.out _).mono ?_
    rintro e v2 ⟨rfl, q2⟩
    have KR := hid (KQ.out.trans q2)
    clear q2
    go_wp2
    go_ret
    exact ⟨rfl, KR.out⟩
set_option maxRecDepth 100000 in
set_option maxHeartbeats 4000000 in
theorem pstat15_n (l : Lc) (m : Int) (w : World) (I : LcIn l) (m0 : 0 ≤ m) (m1 : m ≤ 3) (HM : ∀ u, Calls Try.prog 12 #[lcV l] u fun e w' => e = .returned (.int .i64 m) ∧ Kept u w') (HS : ∀ u, Calls Try.prog 26 #[lcV l] u fun e w' => e = .returned (.bool false) ∧ Kept u w') : Calls Try.prog 31 #[lcV l] w fun e w' => e = .returned (.int .u8 (128 + l.sel / 8 % 16 * 8 + m)) ∧ Kept w w' := by
  have HM := hid HM
  have HS := hid HS
  have a1 := and120 l.sel I.s0 I.s1
  have a2 := or128_sel l.sel I.s0 I.s1
  have a3 := orm_sel l.sel m I.s0 I.s1 m0 m1
  have a4 := or4_sel l.sel m I.s0 I.s1 m0 m1
  have a5 : IntKind.u8.wrap m = m := by rw [IntKind.wrap_u8]; omega
  obtain ⟨so, sl, sd, sy, ss, sh, se⟩ := l
  try simp only at *
  clear I
  have Q0 : Blk (w.alloc (.cells ([.bool so, .int .u8 sl, .int .u16 sd, .int .u8 sy, .int .u8 ss, .bool sh, .int .u16 se] : List Value).toArray 24)) w.heap.size 24 [.bool so, .int .u8 sl, .int .u16 sd, .int .u8 sy, .int .u8 ss, .bool sh, .int .u16 se] := blk_new w _ _
  have K0 := hid ((Kept.refl w).alloc (.cells ([.bool so, .int .u8 sl, .int .u16 sd, .int .u8 sy, .int .u8 ss, .bool sh, .int .u16 se] : List Value).toArray 24))
  have c0 := blk_cell Q0
  go_enter Try.func31, Try.ntmps31
  go_wp2_with fail
  go_region_with (go_at_call 12; refine (HM.out _).mono ?_; rintro e v1 ⟨rfl, q1⟩; have QQ := blk_kept q1 (blk_drew Q0); have cq := blk_cell QQ; have zq := blk_lt QQ; have KQ := hid (K0.out.drew.trans q1))
  all_goals
    go_wp2_with fail
    refine (HS.out _).mono ?_
    rintro e v2 ⟨rfl, q2⟩
    have KR := hid (KQ.out.trans q2)
    clear q2
    go_wp2
    go_ret
    exact ⟨rfl, KR.out⟩
theorem pstat15 (l : Lc) (w : World) (I : LcIn l) : Calls Try.prog 31 #[lcV l] w fun e w' => e = .returned (.int .u8 (statL l)) ∧ Kept w w' := by
  have M := fun u => pmode15 l u I
  have S := fun u => psame15 l u
  have mi := mode_in l
  unfold statL fourL
  by_cases q : l.line = l.lyc
  · rw [if_pos q]
    rw [show (l.line == l.lyc) = true by simpa using q] at S
    exact pstat15_s l _ w I mi.1 mi.2 M S
  · rw [if_neg q, Int.add_zero]
    rw [show (l.line == l.lyc) = false by simpa using q] at S
    exact pstat15_n l _ w I mi.1 mi.2 M S
set_option maxRecDepth 100000 in
set_option maxHeartbeats 4000000 in
theorem pread15_a (l : Lc) (w : World) (x : Int) (HA : ∀ u, Calls Try.prog 31 #[lcV l] u fun e w' => e = .returned (.int .u8 x) ∧ Kept u w') : Calls Try.prog 20 #[lcV l, .int .u16 65345] w fun e w' => e = .returned (.int .u8 x) ∧ Kept w w' := by
  have HA := hid HA
  obtain ⟨so, sl, sd, sy, ss, sh, se⟩ := l
  try simp only at *
  have Q0 : Blk (w.alloc (.cells ([.bool so, .int .u8 sl, .int .u16 sd, .int .u8 sy, .int .u8 ss, .bool sh, .int .u16 se] : List Value).toArray 24)) w.heap.size 24 [.bool so, .int .u8 sl, .int .u16 sd, .int .u8 sy, .int .u8 ss, .bool sh, .int .u16 se] := blk_new w _ _
  have K0 := hid ((Kept.refl w).alloc (.cells ([.bool so, .int .u8 sl, .int .u16 sd, .int .u8 sy, .int .u8 ss, .bool sh, .int .u16 se] : List Value).toArray 24))
  go_enter Try.func20, Try.ntmps20
  go_wp2_with fail
  refine (HA.out _).mono ?_
  rintro e u1 ⟨rfl, k1⟩
  have Q1 := blk_kept k1 Q0
  have K1 := hid (K0.out.trans k1)
  have c1 := blk_cell Q1
  clear k1 Q0 K0
  go_wp2
  go_ret
  exact ⟨rfl, K1.out⟩
set_option maxRecDepth 100000 in
set_option maxHeartbeats 4000000 in
theorem pread15 (l : Lc) (a : Int) (w : World) (I : LcIn l) (a0 : 0 ≤ a) (a1 : a ≤ 65535) : Calls Try.prog 20 #[lcV l, .int .u16 a] w fun e w' => e = .returned (.int .u8 (readL l a)) ∧ Kept w w' := by
  by_cases q0 : a = 65345
  · subst q0
    exact pread15_a l w _ (fun u => pstat15 l u I)
  have g0 : (a == 65345) = false := by simpa using q0
  obtain ⟨so, sl, sd, sy, ss, sh, se⟩ := l
  by_cases q1 : a = 65348
  · subst q1
    have E := hid (show readL ⟨so, sl, sd, sy, ss, sh, se⟩ 65348 = sl from rfl)
    clear I
    go_enter Try.func20, Try.ntmps20
    go_wp2
    go_ret
    exact ⟨by rw [E.out]; rfl, by repeat (first | with_reducible exact Kept.refl _ | with_reducible refine Kept.alloc ?_ _ | with_reducible refine Kept.drew ?_ | (with_reducible refine Kept.setCell8 ?_ ?_ _ _; rotate_left; (first | exact Nat.le_refl _ | omega | (simp; done) | (simp; omega))))⟩
  have g1 : (a == 65348) = false := by simpa using q1
  by_cases q2 : a = 65349
  · subst q2
    have E := hid (show readL ⟨so, sl, sd, sy, ss, sh, se⟩ 65349 = sy from rfl)
    clear I
    go_enter Try.func20, Try.ntmps20
    go_wp2
    go_ret
    exact ⟨by rw [E.out]; rfl, by repeat (first | with_reducible exact Kept.refl _ | with_reducible refine Kept.alloc ?_ _ | with_reducible refine Kept.drew ?_ | (with_reducible refine Kept.setCell8 ?_ ?_ _ _; rotate_left; (first | exact Nat.le_refl _ | omega | (simp; done) | (simp; omega))))⟩
  have g2 : (a == 65349) = false := by simpa using q2
  have E := hid (show readL ⟨so, sl, sd, sy, ss, sh, se⟩ a = 255 by unfold readL; rw [if_neg q0, if_neg q1, if_neg q2])
  clear I q0 q1 q2
  go_enter Try.func20, Try.ntmps20
  go_wp2
  go_ret
  exact ⟨by rw [E.out]; rfl, by repeat (first | with_reducible exact Kept.refl _ | with_reducible refine Kept.alloc ?_ _ | with_reducible refine Kept.drew ?_ | (with_reducible refine Kept.setCell8 ?_ ?_ _ _; rotate_left; (first | exact Nat.le_refl _ | omega | (simp; done) | (simp; omega))))⟩
set_option maxRecDepth 100000 in
set_option maxHeartbeats 4000000 in
theorem ppow15_tt (l : Lc) (w : World) (I : LcIn l) (h : l.on = true) : Calls Try.prog 18 #[lcV l, .bool true] w fun e w' => e = .returned (.tuple #[lcV (powL l true), .bool (powR l true)]) ∧ Kept w w' := by
  have E : powL l true = l := by unfold powL; rw [if_pos h]
  have E2 : powR l true = false := by unfold powR; rw [if_pos h]
  rw [E, E2]
  clear E E2
  obtain ⟨so, sl, sd, sy, ss, sh, se⟩ := l
  have l0 := I.l0
  have l1 := I.l1
  have d0 := I.d0
  have d1 := I.d1
  have y0 := I.y0
  have y1 := I.y1
  have s0 := I.s0
  have s1 := I.s1
  have e0 := I.e0
  have e1 := I.e1
  simp only at l0 l1 d0 d1 y0 y1 s0 s1 e0 e1
  try simp only at *
  subst h
  clear I
  go_enter Try.func18, Try.ntmps18
  go_wp2
  exact bodyPost_ret (v := .tuple #[lcV ⟨true, sl, sd, sy, ss, sh, se⟩, .bool false]) (by simp [results, Try.results18, go_sem]) rfl ⟨rfl, by repeat (first | with_reducible exact Kept.refl _ | with_reducible refine Kept.alloc ?_ _ | with_reducible refine Kept.drew ?_ | (with_reducible refine Kept.setCell8 ?_ ?_ _ _; rotate_left; (first | exact Nat.le_refl _ | omega | (simp; done) | (simp; omega))))⟩
set_option maxRecDepth 100000 in
set_option maxHeartbeats 4000000 in
theorem ppow15_ff (l : Lc) (w : World) (I : LcIn l) (h : l.on = false) : Calls Try.prog 18 #[lcV l, .bool false] w fun e w' => e = .returned (.tuple #[lcV (powL l false), .bool (powR l false)]) ∧ Kept w w' := by
  have E : powL l false = l := by unfold powL; rw [if_pos h]
  have E2 : powR l false = false := by unfold powR; rw [if_pos h]
  rw [E, E2]
  clear E E2
  obtain ⟨so, sl, sd, sy, ss, sh, se⟩ := l
  have l0 := I.l0
  have l1 := I.l1
  have d0 := I.d0
  have d1 := I.d1
  have y0 := I.y0
  have y1 := I.y1
  have s0 := I.s0
  have s1 := I.s1
  have e0 := I.e0
  have e1 := I.e1
  simp only at l0 l1 d0 d1 y0 y1 s0 s1 e0 e1
  try simp only at *
  subst h
  clear I
  go_enter Try.func18, Try.ntmps18
  go_wp2
  exact bodyPost_ret (v := .tuple #[lcV ⟨false, sl, sd, sy, ss, sh, se⟩, .bool false]) (by simp [results, Try.results18, go_sem]) rfl ⟨rfl, by repeat (first | with_reducible exact Kept.refl _ | with_reducible refine Kept.alloc ?_ _ | with_reducible refine Kept.drew ?_ | (with_reducible refine Kept.setCell8 ?_ ?_ _ _; rotate_left; (first | exact Nat.le_refl _ | omega | (simp; done) | (simp; omega))))⟩
set_option maxRecDepth 100000 in
set_option maxHeartbeats 4000000 in
theorem ppow15_tf (l : Lc) (V : Lc) (x : Bool) (w : World) (h : l.on = true) (HA : ∀ u, Calls Try.prog 29 #[lcV (bareL l false)] u fun e w' => e = .returned (.tuple #[lcV V, .bool x]) ∧ Kept u w') : Calls Try.prog 18 #[lcV l, .bool false] w fun e w' => e = .returned (.tuple #[lcV V, .bool x]) ∧ Kept w w' := by
  unfold bareL at HA
  have HA := hid HA
  obtain ⟨so, sl, sd, sy, ss, sh, se⟩ := l
  try simp only at *
  subst h
  have X0 : Blk ((w.alloc (.cells ([.bool true, .int .u8 sl, .int .u16 sd, .int .u8 sy, .int .u8 ss, .bool sh, .int .u16 se] : List Value).toArray 24)).alloc (.cells ([.bool false, .int .u8 0, .int .u16 0, .int .u8 0, .int .u8 0, .bool false, .int .u16 0] : List Value).toArray 24)) w.heap.size 24 [.bool true, .int .u8 sl, .int .u16 sd, .int .u8 sy, .int .u8 ss, .bool sh, .int .u16 se] := blk_past (blk_new w _ _) _
  have X1 : Blk ((w.alloc (.cells ([.bool true, .int .u8 sl, .int .u16 sd, .int .u8 sy, .int .u8 ss, .bool sh, .int .u16 se] : List Value).toArray 24)).alloc (.cells ([.bool false, .int .u8 0, .int .u16 0, .int .u8 0, .int .u8 0, .bool false, .int .u16 0] : List Value).toArray 24)) (w.heap.size + 1) 24 [.bool false, .int .u8 0, .int .u16 0, .int .u8 0, .int .u8 0, .bool false, .int .u16 0] := by have q := blk_new (w.alloc (.cells ([.bool true, .int .u8 sl, .int .u16 sd, .int .u8 sy, .int .u8 ss, .bool sh, .int .u16 se] : List Value).toArray 24)) [.bool false, .int .u8 0, .int .u16 0, .int .u8 0, .int .u8 0, .bool false, .int .u16 0] 24; rw [World.size_alloc] at q; exact q
  have KX := hid (((Kept.refl w).alloc (.cells ([.bool true, .int .u8 sl, .int .u16 sd, .int .u8 sy, .int .u8 ss, .bool sh, .int .u16 se] : List Value).toArray 24)).alloc (.cells ([.bool false, .int .u8 0, .int .u16 0, .int .u8 0, .int .u8 0, .bool false, .int .u16 0] : List Value).toArray 24))
  go_enter Try.func18, Try.ntmps18
  go_wp2_with (first
    | ((with_reducible refine at_st 4 ?_); refine wl_store rfl rfl rfl rfl X0 (by kernel_rfl) rfl (Nat.le_of_ble_eq_true rfl) (fun v1 p1 => ?_); have B1 : Blk v1 w.heap.size 24 [.bool false, .int .u8 sl, .int .u16 sd, .int .u8 sy, .int .u8 ss, .bool sh, .int .u16 se] := p1.blk; have R1 := p1.other _ _ _ (Nat.succ_ne_self _) X1; have K1 := hid (p1.kept _ KX.out (Nat.le_refl _)); clear p1 KX X0 X1; have c1 := blk_cell B1; have z1 := blk_lt R1)
    | ((with_reducible refine at_st 5 ?_); refine wl_store rfl rfl rfl rfl B1 (by kernel_rfl) rfl (Nat.le_of_ble_eq_true rfl) (fun v2 p2 => ?_); have B2 : Blk v2 w.heap.size 24 [.bool false, .int .u8 0, .int .u16 sd, .int .u8 sy, .int .u8 ss, .bool sh, .int .u16 se] := p2.blk; have R2 := p2.other _ _ _ (Nat.succ_ne_self _) R1; have K2 := hid (p2.kept _ K1.out (Nat.le_refl _)); clear p2 K1 B1 R1 c1 z1; have c2 := blk_cell B2; have z2 := blk_lt R2)
    | ((with_reducible refine at_st 22 ?_); refine wl_store rfl rfl rfl rfl B2 (by kernel_rfl) rfl (Nat.le_of_ble_eq_true rfl) (fun v3 p3 => ?_); have B3 : Blk v3 w.heap.size 24 [.bool false, .int .u8 0, .int .u16 0, .int .u8 sy, .int .u8 ss, .bool sh, .int .u16 se] := p3.blk; have R3 := p3.other _ _ _ (Nat.succ_ne_self _) R2; have K3 := hid (p3.kept _ K2.out (Nat.le_refl _)); clear p3 K2 B2 R2 c2 z2; have c3 := blk_cell B3; have z3 := blk_lt R3)
    | ((with_reducible refine at_st 22 ?_); refine wl_store rfl rfl rfl rfl B3 (by kernel_rfl) rfl (Nat.le_of_ble_eq_true rfl) (fun v4 p4 => ?_); have B4 : Blk v4 w.heap.size 24 [.bool false, .int .u8 0, .int .u16 0, .int .u8 sy, .int .u8 ss, .bool sh, .int .u16 0] := p4.blk; have R4 := p4.other _ _ _ (Nat.succ_ne_self _) R3; have K4 := hid (p4.kept _ K3.out (Nat.le_refl _)); clear p4 K3 B3 R3 c3 z3; have c4 := blk_cell B4; have z4 := blk_lt R4))
  refine (HA.out _).mono ?_
  rintro e u5 ⟨rfl, k5⟩
  have R5 := blk_kept k5 R4
  have K5 := hid (K4.out.trans k5)
  clear k5 B4 R4 K4 c4 z4
  go_wp2_with ((with_reducible refine at_st 24 ?_); refine wl_store rfl rfl rfl rfl R5 (by kernel_rfl) rfl (Nat.le_of_ble_eq_true rfl) (fun v6 p6 => ?_); have B6 : Blk v6 (w.heap.size + 1) 24 [.bool V.on, .int .u8 V.line, .int .u16 V.dot, .int .u8 V.lyc, .int .u8 V.sel, .bool V.high, .int .u16 V.extra] := p6.blk; have K6 := hid (p6.kept _ K5.out (Nat.le_succ _)); clear p6 K5 R5)
  exact bodyPost_ret (res_cell2 Try.results18 rfl B6 Try.underlying24 rfl (by kernel_rfl)) rfl ⟨rfl, K6.out⟩
set_option maxRecDepth 100000 in
set_option maxHeartbeats 4000000 in
theorem ppow15_ft (l : Lc) (V : Lc) (x : Bool) (w : World) (h : l.on = false) (HA : ∀ u, Calls Try.prog 29 #[lcV (bareL l true)] u fun e w' => e = .returned (.tuple #[lcV V, .bool x]) ∧ Kept u w') : Calls Try.prog 18 #[lcV l, .bool true] w fun e w' => e = .returned (.tuple #[lcV V, .bool x]) ∧ Kept w w' := by
  unfold bareL at HA
  have HA := hid HA
  obtain ⟨so, sl, sd, sy, ss, sh, se⟩ := l
  try simp only at *
  subst h
  have X0 : Blk ((w.alloc (.cells ([.bool false, .int .u8 sl, .int .u16 sd, .int .u8 sy, .int .u8 ss, .bool sh, .int .u16 se] : List Value).toArray 24)).alloc (.cells ([.bool false, .int .u8 0, .int .u16 0, .int .u8 0, .int .u8 0, .bool false, .int .u16 0] : List Value).toArray 24)) w.heap.size 24 [.bool false, .int .u8 sl, .int .u16 sd, .int .u8 sy, .int .u8 ss, .bool sh, .int .u16 se] := blk_past (blk_new w _ _) _
  have X1 : Blk ((w.alloc (.cells ([.bool false, .int .u8 sl, .int .u16 sd, .int .u8 sy, .int .u8 ss, .bool sh, .int .u16 se] : List Value).toArray 24)).alloc (.cells ([.bool false, .int .u8 0, .int .u16 0, .int .u8 0, .int .u8 0, .bool false, .int .u16 0] : List Value).toArray 24)) (w.heap.size + 1) 24 [.bool false, .int .u8 0, .int .u16 0, .int .u8 0, .int .u8 0, .bool false, .int .u16 0] := by have q := blk_new (w.alloc (.cells ([.bool false, .int .u8 sl, .int .u16 sd, .int .u8 sy, .int .u8 ss, .bool sh, .int .u16 se] : List Value).toArray 24)) [.bool false, .int .u8 0, .int .u16 0, .int .u8 0, .int .u8 0, .bool false, .int .u16 0] 24; rw [World.size_alloc] at q; exact q
  have KX := hid (((Kept.refl w).alloc (.cells ([.bool false, .int .u8 sl, .int .u16 sd, .int .u8 sy, .int .u8 ss, .bool sh, .int .u16 se] : List Value).toArray 24)).alloc (.cells ([.bool false, .int .u8 0, .int .u16 0, .int .u8 0, .int .u8 0, .bool false, .int .u16 0] : List Value).toArray 24))
  go_enter Try.func18, Try.ntmps18
  go_wp2_with (first
    | ((with_reducible refine at_st 4 ?_); refine wl_store rfl rfl rfl rfl X0 (by kernel_rfl) rfl (Nat.le_of_ble_eq_true rfl) (fun v1 p1 => ?_); have B1 : Blk v1 w.heap.size 24 [.bool true, .int .u8 sl, .int .u16 sd, .int .u8 sy, .int .u8 ss, .bool sh, .int .u16 se] := p1.blk; have R1 := p1.other _ _ _ (Nat.succ_ne_self _) X1; have K1 := hid (p1.kept _ KX.out (Nat.le_refl _)); clear p1 KX X0 X1; have c1 := blk_cell B1; have z1 := blk_lt R1)
    | ((with_reducible refine at_st 5 ?_); refine wl_store rfl rfl rfl rfl B1 (by kernel_rfl) rfl (Nat.le_of_ble_eq_true rfl) (fun v2 p2 => ?_); have B2 : Blk v2 w.heap.size 24 [.bool true, .int .u8 0, .int .u16 sd, .int .u8 sy, .int .u8 ss, .bool sh, .int .u16 se] := p2.blk; have R2 := p2.other _ _ _ (Nat.succ_ne_self _) R1; have K2 := hid (p2.kept _ K1.out (Nat.le_refl _)); clear p2 K1 B1 R1 c1 z1; have c2 := blk_cell B2; have z2 := blk_lt R2)
    | ((with_reducible refine at_st 22 ?_); refine wl_store rfl rfl rfl rfl B2 (by kernel_rfl) rfl (Nat.le_of_ble_eq_true rfl) (fun v3 p3 => ?_); have B3 : Blk v3 w.heap.size 24 [.bool true, .int .u8 0, .int .u16 0, .int .u8 sy, .int .u8 ss, .bool sh, .int .u16 se] := p3.blk; have R3 := p3.other _ _ _ (Nat.succ_ne_self _) R2; have K3 := hid (p3.kept _ K2.out (Nat.le_refl _)); clear p3 K2 B2 R2 c2 z2; have c3 := blk_cell B3; have z3 := blk_lt R3)
    | ((with_reducible refine at_st 22 ?_); refine wl_store rfl rfl rfl rfl B3 (by kernel_rfl) rfl (Nat.le_of_ble_eq_true rfl) (fun v4 p4 => ?_); have B4 : Blk v4 w.heap.size 24 [.bool true, .int .u8 0, .int .u16 0, .int .u8 sy, .int .u8 ss, .bool sh, .int .u16 0] := p4.blk; have R4 := p4.other _ _ _ (Nat.succ_ne_self _) R3; have K4 := hid (p4.kept _ K3.out (Nat.le_refl _)); clear p4 K3 B3 R3 c3 z3; have c4 := blk_cell B4; have z4 := blk_lt R4))
  refine (HA.out _).mono ?_
  rintro e u5 ⟨rfl, k5⟩
  have R5 := blk_kept k5 R4
  have K5 := hid (K4.out.trans k5)
  clear k5 B4 R4 K4 c4 z4
  go_wp2_with ((with_reducible refine at_st 24 ?_); refine wl_store rfl rfl rfl rfl R5 (by kernel_rfl) rfl (Nat.le_of_ble_eq_true rfl) (fun v6 p6 => ?_); have B6 : Blk v6 (w.heap.size + 1) 24 [.bool V.on, .int .u8 V.line, .int .u16 V.dot, .int .u8 V.lyc, .int .u8 V.sel, .bool V.high, .int .u16 V.extra] := p6.blk; have K6 := hid (p6.kept _ K5.out (Nat.le_succ _)); clear p6 K5 R5)
  exact bodyPost_ret (res_cell2 Try.results18 rfl B6 Try.underlying24 rfl (by kernel_rfl)) rfl ⟨rfl, K6.out⟩
theorem ppow15 (l : Lc) (on : Bool) (w : World) (I : LcIn l) : Calls Try.prog 18 #[lcV l, .bool on] w fun e w' => e = .returned (.tuple #[lcV (powL l on), .bool (powR l on)]) ∧ Kept w w' := by
  have A := fun u => pset15 (bareL l on) u (bare_in I on)
  cases on <;> cases h : l.on
  · exact ppow15_ff l w I h
  · rw [show powL l false = setL (bareL l false) by unfold powL; rw [if_neg (by rw [h]; decide)], show powR l false = riseL (bareL l false) by unfold powR; rw [if_neg (by rw [h]; decide)]]
    exact ppow15_tf l _ _ w h A
  · rw [show powL l true = setL (bareL l true) by unfold powL; rw [if_neg (by rw [h]; decide)], show powR l true = riseL (bareL l true) by unfold powR; rw [if_neg (by rw [h]; decide)]]
    exact ppow15_ft l _ _ w h A
  · exact ppow15_tt l w I h
set_option maxRecDepth 100000 in
set_option maxHeartbeats 4000000 in
theorem pwrite15_sel (l : Lc) (v : Int) (V : Lc) (x : Bool) (w : World) (v0 : 0 ≤ v) (v1 : v ≤ 255) (HA : ∀ u, Calls Try.prog 29 #[lcV (toldL l 65345 v)] u fun e w' => e = .returned (.tuple #[lcV V, .bool x]) ∧ Kept u w') : Calls Try.prog 22 #[lcV l, .int .u16 65345, .int .u8 v] w fun e w' => e = .returned (.tuple #[lcV V, .bool x]) ∧ Kept w w' := by
  have E : toldL l 65345 v = ⟨l.on, l.line, l.dot, l.lyc, (v / 8 % 16 * 8), l.high, l.extra⟩ := by unfold toldL; rfl
  rw [E] at HA
  clear E
  have HA := hid HA
  have a1 := and120 v v0 v1
  obtain ⟨so, sl, sd, sy, ss, sh, se⟩ := l
  try simp only at *
  have X0 : Blk ((w.alloc (.cells ([.bool so, .int .u8 sl, .int .u16 sd, .int .u8 sy, .int .u8 ss, .bool sh, .int .u16 se] : List Value).toArray 24)).alloc (.cells ([.bool false, .int .u8 0, .int .u16 0, .int .u8 0, .int .u8 0, .bool false, .int .u16 0] : List Value).toArray 24)) w.heap.size 24 [.bool so, .int .u8 sl, .int .u16 sd, .int .u8 sy, .int .u8 ss, .bool sh, .int .u16 se] := blk_past (blk_new w _ _) _
  have X1 : Blk ((w.alloc (.cells ([.bool so, .int .u8 sl, .int .u16 sd, .int .u8 sy, .int .u8 ss, .bool sh, .int .u16 se] : List Value).toArray 24)).alloc (.cells ([.bool false, .int .u8 0, .int .u16 0, .int .u8 0, .int .u8 0, .bool false, .int .u16 0] : List Value).toArray 24)) (w.heap.size + 1) 24 [.bool false, .int .u8 0, .int .u16 0, .int .u8 0, .int .u8 0, .bool false, .int .u16 0] := by have q := blk_new (w.alloc (.cells ([.bool so, .int .u8 sl, .int .u16 sd, .int .u8 sy, .int .u8 ss, .bool sh, .int .u16 se] : List Value).toArray 24)) [.bool false, .int .u8 0, .int .u16 0, .int .u8 0, .int .u8 0, .bool false, .int .u16 0] 24; rw [World.size_alloc] at q; exact q
  have KX := hid (((Kept.refl w).alloc (.cells ([.bool so, .int .u8 sl, .int .u16 sd, .int .u8 sy, .int .u8 ss, .bool sh, .int .u16 se] : List Value).toArray 24)).alloc (.cells ([.bool false, .int .u8 0, .int .u16 0, .int .u8 0, .int .u8 0, .bool false, .int .u16 0] : List Value).toArray 24))
  go_enter Try.func22, Try.ntmps22
  go_wp2_with ((with_reducible refine at_st 5 ?_); refine wl_store rfl rfl rfl rfl X0 (by kernel_rfl) rfl (Nat.le_of_ble_eq_true rfl) (fun v1 p1 => ?_); have B1 : Blk v1 w.heap.size 24 [.bool so, .int .u8 sl, .int .u16 sd, .int .u8 sy, .int .u8 (v / 8 % 16 * 8), .bool sh, .int .u16 se] := p1.blk; have R1 := p1.other _ _ _ (Nat.succ_ne_self _) X1; have K1 := hid (p1.kept _ KX.out (Nat.le_refl _)); clear p1 KX X0 X1; have c1 := blk_cell B1; have z1 := blk_lt R1)
  refine (HA.out _).mono ?_
  rintro e u5 ⟨rfl, k5⟩
  have R5 := blk_kept k5 R1
  have K5 := hid (K1.out.trans k5)
  clear k5 B1 R1 K1 c1 z1
  go_wp2_with ((with_reducible refine at_st 24 ?_); refine wl_store rfl rfl rfl rfl R5 (by kernel_rfl) rfl (Nat.le_of_ble_eq_true rfl) (fun v6 p6 => ?_); have B6 : Blk v6 (w.heap.size + 1) 24 [.bool V.on, .int .u8 V.line, .int .u16 V.dot, .int .u8 V.lyc, .int .u8 V.sel, .bool V.high, .int .u16 V.extra] := p6.blk; have K6 := hid (p6.kept _ K5.out (Nat.le_succ _)); clear p6 K5 R5)
  exact bodyPost_ret (res_cell2 Try.results22 rfl B6 Try.underlying24 rfl (by kernel_rfl)) rfl ⟨rfl, K6.out⟩
set_option maxRecDepth 100000 in
set_option maxHeartbeats 4000000 in
theorem pwrite15_lyc (l : Lc) (v : Int) (V : Lc) (x : Bool) (w : World) (v0 : 0 ≤ v) (v1 : v ≤ 255) (HA : ∀ u, Calls Try.prog 29 #[lcV (toldL l 65349 v)] u fun e w' => e = .returned (.tuple #[lcV V, .bool x]) ∧ Kept u w') : Calls Try.prog 22 #[lcV l, .int .u16 65349, .int .u8 v] w fun e w' => e = .returned (.tuple #[lcV V, .bool x]) ∧ Kept w w' := by
  have E : toldL l 65349 v = ⟨l.on, l.line, l.dot, v, l.sel, l.high, l.extra⟩ := by unfold toldL; rfl
  rw [E] at HA
  clear E
  have HA := hid HA
  obtain ⟨so, sl, sd, sy, ss, sh, se⟩ := l
  try simp only at *
  have X0 : Blk ((w.alloc (.cells ([.bool so, .int .u8 sl, .int .u16 sd, .int .u8 sy, .int .u8 ss, .bool sh, .int .u16 se] : List Value).toArray 24)).alloc (.cells ([.bool false, .int .u8 0, .int .u16 0, .int .u8 0, .int .u8 0, .bool false, .int .u16 0] : List Value).toArray 24)) w.heap.size 24 [.bool so, .int .u8 sl, .int .u16 sd, .int .u8 sy, .int .u8 ss, .bool sh, .int .u16 se] := blk_past (blk_new w _ _) _
  have X1 : Blk ((w.alloc (.cells ([.bool so, .int .u8 sl, .int .u16 sd, .int .u8 sy, .int .u8 ss, .bool sh, .int .u16 se] : List Value).toArray 24)).alloc (.cells ([.bool false, .int .u8 0, .int .u16 0, .int .u8 0, .int .u8 0, .bool false, .int .u16 0] : List Value).toArray 24)) (w.heap.size + 1) 24 [.bool false, .int .u8 0, .int .u16 0, .int .u8 0, .int .u8 0, .bool false, .int .u16 0] := by have q := blk_new (w.alloc (.cells ([.bool so, .int .u8 sl, .int .u16 sd, .int .u8 sy, .int .u8 ss, .bool sh, .int .u16 se] : List Value).toArray 24)) [.bool false, .int .u8 0, .int .u16 0, .int .u8 0, .int .u8 0, .bool false, .int .u16 0] 24; rw [World.size_alloc] at q; exact q
  have KX := hid (((Kept.refl w).alloc (.cells ([.bool so, .int .u8 sl, .int .u16 sd, .int .u8 sy, .int .u8 ss, .bool sh, .int .u16 se] : List Value).toArray 24)).alloc (.cells ([.bool false, .int .u8 0, .int .u16 0, .int .u8 0, .int .u8 0, .bool false, .int .u16 0] : List Value).toArray 24))
  go_enter Try.func22, Try.ntmps22
  go_wp2_with ((with_reducible refine at_st 5 ?_); refine wl_store rfl rfl rfl rfl X0 (by kernel_rfl) rfl (Nat.le_of_ble_eq_true rfl) (fun v1 p1 => ?_); have B1 : Blk v1 w.heap.size 24 [.bool so, .int .u8 sl, .int .u16 sd, .int .u8 v, .int .u8 ss, .bool sh, .int .u16 se] := p1.blk; have R1 := p1.other _ _ _ (Nat.succ_ne_self _) X1; have K1 := hid (p1.kept _ KX.out (Nat.le_refl _)); clear p1 KX X0 X1; have c1 := blk_cell B1; have z1 := blk_lt R1)
  refine (HA.out _).mono ?_
  rintro e u5 ⟨rfl, k5⟩
  have R5 := blk_kept k5 R1
  have K5 := hid (K1.out.trans k5)
  clear k5 B1 R1 K1 c1 z1
  go_wp2_with ((with_reducible refine at_st 24 ?_); refine wl_store rfl rfl rfl rfl R5 (by kernel_rfl) rfl (Nat.le_of_ble_eq_true rfl) (fun v6 p6 => ?_); have B6 : Blk v6 (w.heap.size + 1) 24 [.bool V.on, .int .u8 V.line, .int .u16 V.dot, .int .u8 V.lyc, .int .u8 V.sel, .bool V.high, .int .u16 V.extra] := p6.blk; have K6 := hid (p6.kept _ K5.out (Nat.le_succ _)); clear p6 K5 R5)
  exact bodyPost_ret (res_cell2 Try.results22 rfl B6 Try.underlying24 rfl (by kernel_rfl)) rfl ⟨rfl, K6.out⟩
set_option maxRecDepth 100000 in
set_option maxHeartbeats 4000000 in
theorem pwrite15_no (l : Lc) (a v : Int) (w : World) (I : LcIn l) (q0 : a ≠ 65345) (q1 : a ≠ 65349) : Calls Try.prog 22 #[lcV l, .int .u16 a, .int .u8 v] w fun e w' => e = .returned (.tuple #[lcV (writeL l a v), .bool (writeR l a v)]) ∧ Kept w w' := by
  have E : writeL l a v = l := by unfold writeL; rw [if_neg (by omega)]
  have E2 : writeR l a v = false := by unfold writeR; rw [if_neg (by omega)]
  rw [E, E2]
  clear E E2
  obtain ⟨so, sl, sd, sy, ss, sh, se⟩ := l
  have l0 := I.l0
  have l1 := I.l1
  have d0 := I.d0
  have d1 := I.d1
  have y0 := I.y0
  have y1 := I.y1
  have s0 := I.s0
  have s1 := I.s1
  have e0 := I.e0
  have e1 := I.e1
  simp only at l0 l1 d0 d1 y0 y1 s0 s1 e0 e1
  try simp only at *
  have g0 : (a == 65345) = false := by simpa using q0
  have g1 : (a == 65349) = false := by simpa using q1
  have g2 : (a != 65345) = true := by simpa using q0
  have g3 : (a != 65349) = true := by simpa using q1
  clear q0 q1
  clear I
  go_enter Try.func22, Try.ntmps22
  go_wp2
  exact bodyPost_ret (v := .tuple #[lcV ⟨so, sl, sd, sy, ss, sh, se⟩, .bool false]) (by simp [results, Try.results22, go_sem]) rfl ⟨rfl, by repeat (first | with_reducible exact Kept.refl _ | with_reducible refine Kept.alloc ?_ _ | with_reducible refine Kept.drew ?_ | (with_reducible refine Kept.setCell8 ?_ ?_ _ _; rotate_left; (first | exact Nat.le_refl _ | omega | (simp; done) | (simp; omega))))⟩
theorem pwrite15 (l : Lc) (a v : Int) (w : World) (I : LcIn l) (v0 : 0 ≤ v) (v1 : v ≤ 255) : Calls Try.prog 22 #[lcV l, .int .u16 a, .int .u8 v] w fun e w' => e = .returned (.tuple #[lcV (writeL l a v), .bool (writeR l a v)]) ∧ Kept w w' := by
  have A := fun u => pset15 (toldL l a v) u (told_in I a v v0 v1)
  by_cases q0 : a = 65345
  · subst q0
    rw [show writeL l 65345 v = setL (toldL l 65345 v) by unfold writeL; rw [if_pos (.inl rfl)], show writeR l 65345 v = riseL (toldL l 65345 v) by unfold writeR; rw [if_pos (.inl rfl)]]
    exact pwrite15_sel l v _ _ w v0 v1 A
  by_cases q1 : a = 65349
  · subst q1
    rw [show writeL l 65349 v = setL (toldL l 65349 v) by unfold writeL; rw [if_pos (.inr rfl)], show writeR l 65349 v = riseL (toldL l 65349 v) by unfold writeR; rw [if_pos (.inr rfl)]]
    exact pwrite15_lyc l v _ _ w v0 v1 A
  · exact pwrite15_no l a v w I q0 q1
end Go.Proofs.Ytpgdkoiinigepaa
