/- What the program's calls of layer 15 come to: drawEnd, lets, same, Mode, Source, Locks. -/
import Derived.Test.YtpgdkoiinigepaaLc15
import Derived.Test.YtpgdkoiinigepaaK8
import Derived.Test.YtpgdkoiinigepaaBk
import Derived.Test.YtpgdkoiinigepaaChecked
import Derived.Handy
import Derived.Deep.RegionHeld3
namespace Go.Proofs.Ytpgdkoiinigepaa
open Go.RowKit
set_option linter.unusedVariables false
set_option linter.unusedSimpArgs false

abbrev lcV (l : Lc) : Value := .agg #[.bool l.on, .int .u8 l.line, .int .u16 l.dot, .int .u8 l.lyc, .int .u8 l.sel, .bool l.high, .int .u16 l.extra]
abbrev evV (f r d : Bool) : Value := .agg #[.bool f, .bool r, .bool d]
theorem and8_fin : ∀ a : Fin 256, (bits .and .u8 (a.val : Int) 8 != 0) = bitOf (a.val : Int) 3 := by decide +kernel
theorem and8_bit (a : Int) (h0 : 0 ≤ a) (h1 : a ≤ 255) : (bits .and .u8 a 8 != 0) = bitOf a 3 := fin8 (p := fun a => (bits .and .u8 a 8 != 0) = bitOf a 3) and8_fin a h0 h1
theorem and16_fin : ∀ a : Fin 256, (bits .and .u8 (a.val : Int) 16 != 0) = bitOf (a.val : Int) 4 := by decide +kernel
theorem and16_bit (a : Int) (h0 : 0 ≤ a) (h1 : a ≤ 255) : (bits .and .u8 a 16 != 0) = bitOf a 4 := fin8 (p := fun a => (bits .and .u8 a 16 != 0) = bitOf a 4) and16_fin a h0 h1
theorem and32_fin : ∀ a : Fin 256, (bits .and .u8 (a.val : Int) 32 != 0) = bitOf (a.val : Int) 5 := by decide +kernel
theorem and32_bit (a : Int) (h0 : 0 ≤ a) (h1 : a ≤ 255) : (bits .and .u8 a 32 != 0) = bitOf a 5 := fin8 (p := fun a => (bits .and .u8 a 32 != 0) = bitOf a 5) and32_fin a h0 h1
theorem and64_fin : ∀ a : Fin 256, (bits .and .u8 (a.val : Int) 64 != 0) = bitOf (a.val : Int) 6 := by decide +kernel
theorem and64_bit (a : Int) (h0 : 0 ≤ a) (h1 : a ≤ 255) : (bits .and .u8 a 64 != 0) = bitOf a 6 := fin8 (p := fun a => (bits .and .u8 a 64 != 0) = bitOf a 6) and64_fin a h0 h1
set_option maxRecDepth 100000 in
set_option maxHeartbeats 4000000 in
theorem pend15 (l : Lc) (w : World) (I : LcIn l) : Calls Try.prog 24 #[lcV l] w fun e w' => e = .returned (.int .i64 (252 + l.extra)) ∧ w' = w.alloc (.cells ([.bool l.on, .int .u8 l.line, .int .u16 l.dot, .int .u8 l.lyc, .int .u8 l.sel, .bool l.high, .int .u16 l.extra] : List Value).toArray 24) := by
  obtain ⟨so, sl, sd, sy, ss, sh, se⟩ := l
  have l0 := I.l0
  have l1 := I.l1
  have d0 := I.d0
  have d1 := I.d1
  have y0 := I.y0
  have y1 := I.y1
  have s0 := I.s0
  have s1 := I.s1
  have e0 := I.e0
  have e1 := I.e1
  simp only at l0 l1 d0 d1 y0 y1 s0 s1 e0 e1
  clear I
  go_enter Try.func24, Try.ntmps24
  go_wp2
  go_ret
  exact ⟨rfl, rfl⟩
set_option maxRecDepth 100000 in
set_option maxHeartbeats 4000000 in
theorem plet15 (l : Lc) (s : Int) (w : World) : Calls Try.prog 25 #[lcV l, .int .u8 s] w fun e w' => e = .returned (.bool (bits .and .u8 l.sel s != 0)) ∧ Kept w w' := by
  obtain ⟨so, sl, sd, sy, ss, sh, se⟩ := l
  go_enter Try.func25, Try.ntmps25
  go_wp2
  go_ret
  exact ⟨rfl, (Kept.refl w).alloc _⟩
set_option maxRecDepth 100000 in
set_option maxHeartbeats 4000000 in
theorem psame15 (l : Lc) (w : World) : Calls Try.prog 26 #[lcV l] w fun e w' => e = .returned (.bool (l.line == l.lyc)) ∧ Kept w w' := by
  obtain ⟨so, sl, sd, sy, ss, sh, se⟩ := l
  go_enter Try.func26, Try.ntmps26
  go_wp2
  go_ret
  exact ⟨rfl, (Kept.refl w).alloc _⟩
set_option maxRecDepth 100000 in
set_option maxHeartbeats 4000000 in
theorem pmode15_a (l : Lc) (w : World) (I : LcIn l) (h : l.on = false) : Calls Try.prog 12 #[lcV l] w fun e w' => e = .returned (.int .i64 (modeL l)) ∧ Kept w w' := by
  have E : modeL l = 0 := by unfold modeL; rw [h]; rfl
  rw [E]
  clear E
  obtain ⟨so, sl, sd, sy, ss, sh, se⟩ := l
  have l0 := I.l0
  have l1 := I.l1
  have d0 := I.d0
  have d1 := I.d1
  have y0 := I.y0
  have y1 := I.y1
  have s0 := I.s0
  have s1 := I.s1
  have e0 := I.e0
  have e1 := I.e1
  simp only at l0 l1 d0 d1 y0 y1 s0 s1 e0 e1
  try simp only at *
  subst h
  clear I
  go_enter Try.func12, Try.ntmps12
  go_wp2
  go_ret
  exact ⟨rfl, by repeat (first | with_reducible exact Kept.refl _ | with_reducible refine Kept.alloc ?_ _ | with_reducible refine Kept.drew ?_ | (with_reducible refine Kept.setCell8 ?_ ?_ _ _; rotate_left; (first | exact Nat.le_refl _ | omega | (simp; done) | (simp; omega))))⟩
set_option maxRecDepth 100000 in
set_option maxHeartbeats 4000000 in
theorem pmode15_b (l : Lc) (w : World) (I : LcIn l) (h : l.on = true) (q : 144 ≤ l.line) : Calls Try.prog 12 #[lcV l] w fun e w' => e = .returned (.int .i64 (modeL l)) ∧ Kept w w' := by
  have E : modeL l = 1 := by unfold modeL; rw [if_pos h, if_pos q]
  rw [E]
  clear E
  obtain ⟨so, sl, sd, sy, ss, sh, se⟩ := l
  have l0 := I.l0
  have l1 := I.l1
  have d0 := I.d0
  have d1 := I.d1
  have y0 := I.y0
  have y1 := I.y1
  have s0 := I.s0
  have s1 := I.s1
  have e0 := I.e0
  have e1 := I.e1
  simp only at l0 l1 d0 d1 y0 y1 s0 s1 e0 e1
  try simp only at *
  subst h
  have g1 : decide (144 ≤ sl) = true := decide_eq_true q
  clear I
  go_enter Try.func12, Try.ntmps12
  go_wp2
  go_ret
  exact ⟨rfl, by repeat (first | with_reducible exact Kept.refl _ | with_reducible refine Kept.alloc ?_ _ | with_reducible refine Kept.drew ?_ | (with_reducible refine Kept.setCell8 ?_ ?_ _ _; rotate_left; (first | exact Nat.le_refl _ | omega | (simp; done) | (simp; omega))))⟩
set_option maxRecDepth 100000 in
set_option maxHeartbeats 4000000 in
theorem pmode15_c (l : Lc) (w : World) (I : LcIn l) (h : l.on = true) (q : ¬ 144 ≤ l.line) (r : l.dot < 80) : Calls Try.prog 12 #[lcV l] w fun e w' => e = .returned (.int .i64 (modeL l)) ∧ Kept w w' := by
  have E : modeL l = 2 := by unfold modeL; rw [if_pos h, if_neg q, if_pos r]
  rw [E]
  clear E
  obtain ⟨so, sl, sd, sy, ss, sh, se⟩ := l
  have l0 := I.l0
  have l1 := I.l1
  have d0 := I.d0
  have d1 := I.d1
  have y0 := I.y0
  have y1 := I.y1
  have s0 := I.s0
  have s1 := I.s1
  have e0 := I.e0
  have e1 := I.e1
  simp only at l0 l1 d0 d1 y0 y1 s0 s1 e0 e1
  try simp only at *
  subst h
  have g1 : decide (144 ≤ sl) = false := decide_eq_false q
  have g2 : decide (sd < 80) = true := decide_eq_true r
  clear I
  go_enter Try.func12, Try.ntmps12
  go_wp2
  go_ret
  exact ⟨rfl, by repeat (first | with_reducible exact Kept.refl _ | with_reducible refine Kept.alloc ?_ _ | with_reducible refine Kept.drew ?_ | (with_reducible refine Kept.setCell8 ?_ ?_ _ _; rotate_left; (first | exact Nat.le_refl _ | omega | (simp; done) | (simp; omega))))⟩
set_option maxRecDepth 100000 in
set_option maxHeartbeats 4000000 in
theorem pmode15_d (l : Lc) (w : World) (I : LcIn l) (h : l.on = true) (q : ¬ 144 ≤ l.line) (r : ¬ l.dot < 80) (t : l.dot < 252 + l.extra) : Calls Try.prog 12 #[lcV l] w fun e w' => e = .returned (.int .i64 (modeL l)) ∧ Kept w w' := by
  have E : modeL l = 3 := by unfold modeL; rw [if_pos h, if_neg q, if_neg r, if_pos t]
  rw [E]
  clear E
  have HD := hid (fun u => pend15 l u I)
  obtain ⟨so, sl, sd, sy, ss, sh, se⟩ := l
  have l0 := I.l0
  have l1 := I.l1
  have d0 := I.d0
  have d1 := I.d1
  have y0 := I.y0
  have y1 := I.y1
  have s0 := I.s0
  have s1 := I.s1
  have e0 := I.e0
  have e1 := I.e1
  simp only at l0 l1 d0 d1 y0 y1 s0 s1 e0 e1
  try simp only at *
  subst h
  have g1 : decide (144 ≤ sl) = false := decide_eq_false q
  have g2 : decide (sd < 80) = false := decide_eq_false r
  have g3 : decide (sd < 252 + se) = true := decide_eq_true t
  have g4 : IntKind.i64.wrap sd = sd := by rw [IntKind.wrap_i64]; omega
  have g5 : IntKind.i64.wrap (252 + se) = 252 + se := by rw [IntKind.wrap_i64]; omega
  have g6 : decide (IntKind.i64.wrap sd < 252 + se) = true := by rw [g4]; exact g3
  clear I
  go_enter Try.func12, Try.ntmps12
  go_wp2_with fail
  go_region_with (go_at_call 24; refine (HD.out _).mono ?_; rintro e v1 ⟨rfl, rfl⟩)
  all_goals
    go_wp2
    go_ret
    exact ⟨rfl, by repeat (first | with_reducible exact Kept.refl _ | with_reducible refine Kept.alloc ?_ _ | with_reducible refine Kept.drew ?_ | (with_reducible refine Kept.setCell8 ?_ ?_ _ _; rotate_left; (first | exact Nat.le_refl _ | omega | (simp; done) | (simp; omega))))⟩
set_option maxRecDepth 100000 in
set_option maxHeartbeats 4000000 in
theorem pmode15_e (l : Lc) (w : World) (I : LcIn l) (h : l.on = true) (q : ¬ 144 ≤ l.line) (r : ¬ l.dot < 80) (t : ¬ l.dot < 252 + l.extra) : Calls Try.prog 12 #[lcV l] w fun e w' => e = .returned (.int .i64 (modeL l)) ∧ Kept w w' := by
  have E : modeL l = 0 := by unfold modeL; rw [if_pos h, if_neg q, if_neg r, if_neg t]
  rw [E]
  clear E
  have HD := hid (fun u => pend15 l u I)
  obtain ⟨so, sl, sd, sy, ss, sh, se⟩ := l
  have l0 := I.l0
  have l1 := I.l1
  have d0 := I.d0
  have d1 := I.d1
  have y0 := I.y0
  have y1 := I.y1
  have s0 := I.s0
  have s1 := I.s1
  have e0 := I.e0
  have e1 := I.e1
  simp only at l0 l1 d0 d1 y0 y1 s0 s1 e0 e1
  try simp only at *
  subst h
  have g1 : decide (144 ≤ sl) = false := decide_eq_false q
  have g2 : decide (sd < 80) = false := decide_eq_false r
  have g3 : decide (sd < 252 + se) = false := decide_eq_false t
  have g4 : IntKind.i64.wrap sd = sd := by rw [IntKind.wrap_i64]; omega
  have g5 : IntKind.i64.wrap (252 + se) = 252 + se := by rw [IntKind.wrap_i64]; omega
  have g6 : decide (IntKind.i64.wrap sd < 252 + se) = false := by rw [g4]; exact g3
  clear I
  go_enter Try.func12, Try.ntmps12
  go_wp2_with fail
  go_region_with (go_at_call 24; refine (HD.out _).mono ?_; rintro e v1 ⟨rfl, rfl⟩)
  all_goals
    go_wp2
    go_ret
    exact ⟨rfl, by repeat (first | with_reducible exact Kept.refl _ | with_reducible refine Kept.alloc ?_ _ | with_reducible refine Kept.drew ?_ | (with_reducible refine Kept.setCell8 ?_ ?_ _ _; rotate_left; (first | exact Nat.le_refl _ | omega | (simp; done) | (simp; omega))))⟩
theorem pmode15 (l : Lc) (w : World) (I : LcIn l) : Calls Try.prog 12 #[lcV l] w fun e w' => e = .returned (.int .i64 (modeL l)) ∧ Kept w w' := by
  cases h : l.on
  · exact pmode15_a l w I h
  by_cases q : 144 ≤ l.line
  · exact pmode15_b l w I h q
  by_cases r : l.dot < 80
  · exact pmode15_c l w I h q r
  by_cases t : l.dot < 252 + l.extra
  · exact pmode15_d l w I h q r t
  · exact pmode15_e l w I h q r t
set_option maxRecDepth 100000 in
set_option maxHeartbeats 4000000 in
theorem psrc15_0t (l : Lc) (b6 : Bool) (w : World) (h : l.on = true) (HM : ∀ u, Calls Try.prog 12 #[lcV l] u fun e w' => e = .returned (.int .i64 0) ∧ Kept u w') (HA : ∀ u, Calls Try.prog 25 #[lcV l, .int .u8 8] u fun e w' => e = .returned (.bool true) ∧ Kept u w') : Calls Try.prog 14 #[lcV l] w fun e w' => e = .returned (.bool true) ∧ Kept w w' := by
  have HM := hid HM
  have HA := hid HA
  obtain ⟨so, sl, sd, sy, ss, sh, se⟩ := l
  try simp only at *
  subst h
  have Q0 : Blk (w.alloc (.cells ([.bool true, .int .u8 sl, .int .u16 sd, .int .u8 sy, .int .u8 ss, .bool sh, .int .u16 se] : List Value).toArray 24)) w.heap.size 24 [.bool true, .int .u8 sl, .int .u16 sd, .int .u8 sy, .int .u8 ss, .bool sh, .int .u16 se] := blk_new w _ _
  have K0 := hid ((Kept.refl w).alloc (.cells ([.bool true, .int .u8 sl, .int .u16 sd, .int .u8 sy, .int .u8 ss, .bool sh, .int .u16 se] : List Value).toArray 24))
  go_enter Try.func14, Try.ntmps14
  go_wp2_with fail
  refine (HM.out _).mono ?_
  rintro e u1 ⟨rfl, k1⟩
  have Q1 := blk_kept k1 Q0
  have K1 := hid (K0.out.trans k1)
  have c1 := blk_cell Q1
  clear k1 Q0 K0
  go_wp2_with fail
  refine (HA.out _).mono ?_
  rintro e u2 ⟨rfl, k2⟩
  have Q2 := blk_kept k2 Q1
  have K2 := hid (K1.out.trans k2)
  have c2 := blk_cell Q2
  clear k2 Q1 K1
  clear c1
  go_wp2
  go_ret
  exact ⟨rfl, K2.out⟩
set_option maxRecDepth 100000 in
set_option maxHeartbeats 4000000 in
theorem psrc15_0f1 (l : Lc) (b6 : Bool) (w : World) (h : l.on = true) (HM : ∀ u, Calls Try.prog 12 #[lcV l] u fun e w' => e = .returned (.int .i64 0) ∧ Kept u w') (HA : ∀ u, Calls Try.prog 25 #[lcV l, .int .u8 8] u fun e w' => e = .returned (.bool false) ∧ Kept u w') (HS : ∀ u, Calls Try.prog 26 #[lcV l] u fun e w' => e = .returned (.bool true) ∧ Kept u w') (HB : ∀ u, Calls Try.prog 25 #[lcV l, .int .u8 64] u fun e w' => e = .returned (.bool b6) ∧ Kept u w') : Calls Try.prog 14 #[lcV l] w fun e w' => e = .returned (.bool b6) ∧ Kept w w' := by
  have HM := hid HM
  have HA := hid HA
  have HS := hid HS
  have HB := hid HB
  obtain ⟨so, sl, sd, sy, ss, sh, se⟩ := l
  try simp only at *
  subst h
  have Q0 : Blk (w.alloc (.cells ([.bool true, .int .u8 sl, .int .u16 sd, .int .u8 sy, .int .u8 ss, .bool sh, .int .u16 se] : List Value).toArray 24)) w.heap.size 24 [.bool true, .int .u8 sl, .int .u16 sd, .int .u8 sy, .int .u8 ss, .bool sh, .int .u16 se] := blk_new w _ _
  have K0 := hid ((Kept.refl w).alloc (.cells ([.bool true, .int .u8 sl, .int .u16 sd, .int .u8 sy, .int .u8 ss, .bool sh, .int .u16 se] : List Value).toArray 24))
  go_enter Try.func14, Try.ntmps14
  go_wp2_with fail
  refine (HM.out _).mono ?_
  rintro e u1 ⟨rfl, k1⟩
  have Q1 := blk_kept k1 Q0
  have K1 := hid (K0.out.trans k1)
  have c1 := blk_cell Q1
  clear k1 Q0 K0
  go_wp2_with fail
  refine (HA.out _).mono ?_
  rintro e u2 ⟨rfl, k2⟩
  have Q2 := blk_kept k2 Q1
  have K2 := hid (K1.out.trans k2)
  have c2 := blk_cell Q2
  clear k2 Q1 K1
  clear c1
  go_wp2_with fail
  refine (HS.out _).mono ?_
  rintro e u3 ⟨rfl, k3⟩
  have Q3 := blk_kept k3 Q2
  have K3 := hid (K2.out.trans k3)
  have c3 := blk_cell Q3
  clear k3 Q2 K2
  clear c2
  go_wp2_with fail
  refine (HB.out _).mono ?_
  rintro e u4 ⟨rfl, k4⟩
  have Q4 := blk_kept k4 Q3
  have K4 := hid (K3.out.trans k4)
  have c4 := blk_cell Q4
  clear k4 Q3 K3
  clear c3
  go_wp2
  go_ret
  exact ⟨rfl, K4.out⟩
set_option maxRecDepth 100000 in
set_option maxHeartbeats 4000000 in
theorem psrc15_0f0 (l : Lc) (b6 : Bool) (w : World) (h : l.on = true) (HM : ∀ u, Calls Try.prog 12 #[lcV l] u fun e w' => e = .returned (.int .i64 0) ∧ Kept u w') (HA : ∀ u, Calls Try.prog 25 #[lcV l, .int .u8 8] u fun e w' => e = .returned (.bool false) ∧ Kept u w') (HS : ∀ u, Calls Try.prog 26 #[lcV l] u fun e w' => e = .returned (.bool false) ∧ Kept u w') : Calls Try.prog 14 #[lcV l] w fun e w' => e = .returned (.bool false) ∧ Kept w w' := by
  have HM := hid HM
  have HA := hid HA
  have HS := hid HS
  obtain ⟨so, sl, sd, sy, ss, sh, se⟩ := l
  try simp only at *
  subst h
  have Q0 : Blk (w.alloc (.cells ([.bool true, .int .u8 sl, .int .u16 sd, .int .u8 sy, .int .u8 ss, .bool sh, .int .u16 se] : List Value).toArray 24)) w.heap.size 24 [.bool true, .int .u8 sl, .int .u16 sd, .int .u8 sy, .int .u8 ss, .bool sh, .int .u16 se] := blk_new w _ _
  have K0 := hid ((Kept.refl w).alloc (.cells ([.bool true, .int .u8 sl, .int .u16 sd, .int .u8 sy, .int .u8 ss, .bool sh, .int .u16 se] : List Value).toArray 24))
  go_enter Try.func14, Try.ntmps14
  go_wp2_with fail
  refine (HM.out _).mono ?_
  rintro e u1 ⟨rfl, k1⟩
  have Q1 := blk_kept k1 Q0
  have K1 := hid (K0.out.trans k1)
  have c1 := blk_cell Q1
  clear k1 Q0 K0
  go_wp2_with fail
  refine (HA.out _).mono ?_
  rintro e u2 ⟨rfl, k2⟩
  have Q2 := blk_kept k2 Q1
  have K2 := hid (K1.out.trans k2)
  have c2 := blk_cell Q2
  clear k2 Q1 K1
  clear c1
  go_wp2_with fail
  refine (HS.out _).mono ?_
  rintro e u3 ⟨rfl, k3⟩
  have Q3 := blk_kept k3 Q2
  have K3 := hid (K2.out.trans k3)
  have c3 := blk_cell Q3
  clear k3 Q2 K2
  clear c2
  go_wp2
  go_ret
  exact ⟨rfl, K3.out⟩
set_option maxRecDepth 100000 in
set_option maxHeartbeats 4000000 in
theorem psrc15_1t (l : Lc) (b6 : Bool) (w : World) (h : l.on = true) (HM : ∀ u, Calls Try.prog 12 #[lcV l] u fun e w' => e = .returned (.int .i64 1) ∧ Kept u w') (HA : ∀ u, Calls Try.prog 25 #[lcV l, .int .u8 16] u fun e w' => e = .returned (.bool true) ∧ Kept u w') : Calls Try.prog 14 #[lcV l] w fun e w' => e = .returned (.bool true) ∧ Kept w w' := by
  have HM := hid HM
  have HA := hid HA
  obtain ⟨so, sl, sd, sy, ss, sh, se⟩ := l
  try simp only at *
  subst h
  have Q0 : Blk (w.alloc (.cells ([.bool true, .int .u8 sl, .int .u16 sd, .int .u8 sy, .int .u8 ss, .bool sh, .int .u16 se] : List Value).toArray 24)) w.heap.size 24 [.bool true, .int .u8 sl, .int .u16 sd, .int .u8 sy, .int .u8 ss, .bool sh, .int .u16 se] := blk_new w _ _
  have K0 := hid ((Kept.refl w).alloc (.cells ([.bool true, .int .u8 sl, .int .u16 sd, .int .u8 sy, .int .u8 ss, .bool sh, .int .u16 se] : List Value).toArray 24))
  go_enter Try.func14, Try.ntmps14
  go_wp2_with fail
  refine (HM.out _).mono ?_
  rintro e u1 ⟨rfl, k1⟩
  have Q1 := blk_kept k1 Q0
  have K1 := hid (K0.out.trans k1)
  have c1 := blk_cell Q1
  clear k1 Q0 K0
  go_wp2_with fail
  refine (HA.out _).mono ?_
  rintro e u2 ⟨rfl, k2⟩
  have Q2 := blk_kept k2 Q1
  have K2 := hid (K1.out.trans k2)
  have c2 := blk_cell Q2
  clear k2 Q1 K1
  clear c1
  go_wp2
  go_ret
  exact ⟨rfl, K2.out⟩
set_option maxRecDepth 100000 in
set_option maxHeartbeats 4000000 in
theorem psrc15_1f1 (l : Lc) (b6 : Bool) (w : World) (h : l.on = true) (HM : ∀ u, Calls Try.prog 12 #[lcV l] u fun e w' => e = .returned (.int .i64 1) ∧ Kept u w') (HA : ∀ u, Calls Try.prog 25 #[lcV l, .int .u8 16] u fun e w' => e = .returned (.bool false) ∧ Kept u w') (HS : ∀ u, Calls Try.prog 26 #[lcV l] u fun e w' => e = .returned (.bool true) ∧ Kept u w') (HB : ∀ u, Calls Try.prog 25 #[lcV l, .int .u8 64] u fun e w' => e = .returned (.bool b6) ∧ Kept u w') : Calls Try.prog 14 #[lcV l] w fun e w' => e = .returned (.bool b6) ∧ Kept w w' := by
  have HM := hid HM
  have HA := hid HA
  have HS := hid HS
  have HB := hid HB
  obtain ⟨so, sl, sd, sy, ss, sh, se⟩ := l
  try simp only at *
  subst h
  have Q0 : Blk (w.alloc (.cells ([.bool true, .int .u8 sl, .int .u16 sd, .int .u8 sy, .int .u8 ss, .bool sh, .int .u16 se] : List Value).toArray 24)) w.heap.size 24 [.bool true, .int .u8 sl, .int .u16 sd, .int .u8 sy, .int .u8 ss, .bool sh, .int .u16 se] := blk_new w _ _
  have K0 := hid ((Kept.refl w).alloc (.cells ([.bool true, .int .u8 sl, .int .u16 sd, .int .u8 sy, .int .u8 ss, .bool sh, .int .u16 se] : List Value).toArray 24))
  go_enter Try.func14, Try.ntmps14
  go_wp2_with fail
  refine (HM.out _).mono ?_
  rintro e u1 ⟨rfl, k1⟩
  have Q1 := blk_kept k1 Q0
  have K1 := hid (K0.out.trans k1)
  have c1 := blk_cell Q1
  clear k1 Q0 K0
  go_wp2_with fail
  refine (HA.out _).mono ?_
  rintro e u2 ⟨rfl, k2⟩
  have Q2 := blk_kept k2 Q1
  have K2 := hid (K1.out.trans k2)
  have c2 := blk_cell Q2
  clear k2 Q1 K1
  clear c1
  go_wp2_with fail
  refine (HS.out _).mono ?_
  rintro e u3 ⟨rfl, k3⟩
  have Q3 := blk_kept k3 Q2
  have K3 := hid (K2.out.trans k3)
  have c3 := blk_cell Q3
  clear k3 Q2 K2
  clear c2
  go_wp2_with fail
  refine (HB.out _).mono ?_
  rintro e u4 ⟨rfl, k4⟩
  have Q4 := blk_kept k4 Q3
  have K4 := hid (K3.out.trans k4)
  have c4 := blk_cell Q4
  clear k4 Q3 K3
  clear c3
  go_wp2
  go_ret
  exact ⟨rfl, K4.out⟩
set_option maxRecDepth 100000 in
set_option maxHeartbeats 4000000 in
theorem psrc15_1f0 (l : Lc) (b6 : Bool) (w : World) (h : l.on = true) (HM : ∀ u, Calls Try.prog 12 #[lcV l] u fun e w' => e = .returned (.int .i64 1) ∧ Kept u w') (HA : ∀ u, Calls Try.prog 25 #[lcV l, .int .u8 16] u fun e w' => e = .returned (.bool false) ∧ Kept u w') (HS : ∀ u, Calls Try.prog 26 #[lcV l] u fun e w' => e = .returned (.bool false) ∧ Kept u w') : Calls Try.prog 14 #[lcV l] w fun e w' => e = .returned (.bool false) ∧ Kept w w' := by
  have HM := hid HM
  have HA := hid HA
  have HS := hid HS
  obtain ⟨so, sl, sd, sy, ss, sh, se⟩ := l
  try simp only at *
  subst h
  have Q0 : Blk (w.alloc (.cells ([.bool true, .int .u8 sl, .int .u16 sd, .int .u8 sy, .int .u8 ss, .bool sh, .int .u16 se] : List Value).toArray 24)) w.heap.size 24 [.bool true, .int .u8 sl, .int .u16 sd, .int .u8 sy, .int .u8 ss, .bool sh, .int .u16 se] := blk_new w _ _
  have K0 := hid ((Kept.refl w).alloc (.cells ([.bool true, .int .u8 sl, .int .u16 sd, .int .u8 sy, .int .u8 ss, .bool sh, .int .u16 se] : List Value).toArray 24))
  go_enter Try.func14, Try.ntmps14
  go_wp2_with fail
  refine (HM.out _).mono ?_
  rintro e u1 ⟨rfl, k1⟩
  have Q1 := blk_kept k1 Q0
  have K1 := hid (K0.out.trans k1)
  have c1 := blk_cell Q1
  clear k1 Q0 K0
  go_wp2_with fail
  refine (HA.out _).mono ?_
  rintro e u2 ⟨rfl, k2⟩
  have Q2 := blk_kept k2 Q1
  have K2 := hid (K1.out.trans k2)
  have c2 := blk_cell Q2
  clear k2 Q1 K1
  clear c1
  go_wp2_with fail
  refine (HS.out _).mono ?_
  rintro e u3 ⟨rfl, k3⟩
  have Q3 := blk_kept k3 Q2
  have K3 := hid (K2.out.trans k3)
  have c3 := blk_cell Q3
  clear k3 Q2 K2
  clear c2
  go_wp2
  go_ret
  exact ⟨rfl, K3.out⟩
set_option maxRecDepth 100000 in
set_option maxHeartbeats 4000000 in
theorem psrc15_2t (l : Lc) (b6 : Bool) (w : World) (h : l.on = true) (HM : ∀ u, Calls Try.prog 12 #[lcV l] u fun e w' => e = .returned (.int .i64 2) ∧ Kept u w') (HA : ∀ u, Calls Try.prog 25 #[lcV l, .int .u8 32] u fun e w' => e = .returned (.bool true) ∧ Kept u w') : Calls Try.prog 14 #[lcV l] w fun e w' => e = .returned (.bool true) ∧ Kept w w' := by
  have HM := hid HM
  have HA := hid HA
  obtain ⟨so, sl, sd, sy, ss, sh, se⟩ := l
  try simp only at *
  subst h
  have Q0 : Blk (w.alloc (.cells ([.bool true, .int .u8 sl, .int .u16 sd, .int .u8 sy, .int .u8 ss, .bool sh, .int .u16 se] : List Value).toArray 24)) w.heap.size 24 [.bool true, .int .u8 sl, .int .u16 sd, .int .u8 sy, .int .u8 ss, .bool sh, .int .u16 se] := blk_new w _ _
  have K0 := hid ((Kept.refl w).alloc (.cells ([.bool true, .int .u8 sl, .int .u16 sd, .int .u8 sy, .int .u8 ss, .bool sh, .int .u16 se] : List Value).toArray 24))
  go_enter Try.func14, Try.ntmps14
  go_wp2_with fail
  refine (HM.out _).mono ?_
  rintro e u1 ⟨rfl, k1⟩
  have Q1 := blk_kept k1 Q0
  have K1 := hid (K0.out.trans k1)
  have c1 := blk_cell Q1
  clear k1 Q0 K0
  go_wp2_with fail
  refine (HA.out _).mono ?_
  rintro e u2 ⟨rfl, k2⟩
  have Q2 := blk_kept k2 Q1
  have K2 := hid (K1.out.trans k2)
  have c2 := blk_cell Q2
  clear k2 Q1 K1
  clear c1
  go_wp2
  go_ret
  exact ⟨rfl, K2.out⟩
set_option maxRecDepth 100000 in
set_option maxHeartbeats 4000000 in
theorem psrc15_2f1 (l : Lc) (b6 : Bool) (w : World) (h : l.on = true) (HM : ∀ u, Calls Try.prog 12 #[lcV l] u fun e w' => e = .returned (.int .i64 2) ∧ Kept u w') (HA : ∀ u, Calls Try.prog 25 #[lcV l, .int .u8 32] u fun e w' => e = .returned (.bool false) ∧ Kept u w') (HS : ∀ u, Calls Try.prog 26 #[lcV l] u fun e w' => e = .returned (.bool true) ∧ Kept u w') (HB : ∀ u, Calls Try.prog 25 #[lcV l, .int .u8 64] u fun e w' => e = .returned (.bool b6) ∧ Kept u w') : Calls Try.prog 14 #[lcV l] w fun e w' => e = .returned (.bool b6) ∧ Kept w w' := by
  have HM := hid HM
  have HA := hid HA
  have HS := hid HS
  have HB := hid HB
  obtain ⟨so, sl, sd, sy, ss, sh, se⟩ := l
  try simp only at *
  subst h
  have Q0 : Blk (w.alloc (.cells ([.bool true, .int .u8 sl, .int .u16 sd, .int .u8 sy, .int .u8 ss, .bool sh, .int .u16 se] : List Value).toArray 24)) w.heap.size 24 [.bool true, .int .u8 sl, .int .u16 sd, .int .u8 sy, .int .u8 ss, .bool sh, .int .u16 se] := blk_new w _ _
  have K0 := hid ((Kept.refl w).alloc (.cells ([.bool true, .int .u8 sl, .int .u16 sd, .int .u8 sy, .int .u8 ss, .bool sh, .int .u16 se] : List Value).toArray 24))
  go_enter Try.func14, Try.ntmps14
  go_wp2_with fail
  refine (HM.out _).mono ?_
  rintro e u1 ⟨rfl, k1⟩
  have Q1 := blk_kept k1 Q0
  have K1 := hid (K0.out.trans k1)
  have c1 := blk_cell Q1
  clear k1 Q0 K0
  go_wp2_with fail
  refine (HA.out _).mono ?_
  rintro e u2 ⟨rfl, k2⟩
  have Q2 := blk_kept k2 Q1
  have K2 := hid (K1.out.trans k2)
  have c2 := blk_cell Q2
  clear k2 Q1 K1
  clear c1
  go_wp2_with fail
  refine (HS.out _).mono ?_
  rintro e u3 ⟨rfl, k3⟩
  have Q3 := blk_kept k3 Q2
  have K3 := hid (K2.out.trans k3)
  have c3 := blk_cell Q3
  clear k3 Q2 K2
  clear c2
  go_wp2_with fail
  refine (HB.out _).mono ?_
  rintro e u4 ⟨rfl, k4⟩
  have Q4 := blk_kept k4 Q3
  have K4 := hid (K3.out.trans k4)
  have c4 := blk_cell Q4
  clear k4 Q3 K3
  clear c3
  go_wp2
  go_ret
  exact ⟨rfl, K4.out⟩
set_option maxRecDepth 100000 in
set_option maxHeartbeats 4000000 in
theorem psrc15_2f0 (l : Lc) (b6 : Bool) (w : World) (h : l.on = true) (HM : ∀ u, Calls Try.prog 12 #[lcV l] u fun e w' => e = .returned (.int .i64 2) ∧ Kept u w') (HA : ∀ u, Calls Try.prog 25 #[lcV l, .int .u8 32] u fun e w' => e = .returned (.bool false) ∧ Kept u w') (HS : ∀ u, Calls Try.prog 26 #[lcV l] u fun e w' => e = .returned (.bool false) ∧ Kept u w') : Calls Try.prog 14 #[lcV l] w fun e w' => e = .returned (.bool false) ∧ Kept w w' := by
  have HM := hid HM
  have HA := hid HA
  have HS := hid HS
  obtain ⟨so, sl, sd, sy, ss, sh, se⟩ := l
  try simp only at *
  subst h
  have Q0 : Blk (w.alloc (.cells ([.bool true, .int .u8 sl, .int .u16 sd, .int .u8 sy, .int .u8 ss, .bool sh, .int .u16 se] : List Value).toArray 24)) w.heap.size 24 [.bool true, .int .u8 sl, .int .u16 sd, .int .u8 sy, .int .u8 ss, .bool sh, .int .u16 se] := blk_new w _ _
  have K0 := hid ((Kept.refl w).alloc (.cells ([.bool true, .int .u8 sl, .int .u16 sd, .int .u8 sy, .int .u8 ss, .bool sh, .int .u16 se] : List Value).toArray 24))
  go_enter Try.func14, Try.ntmps14
  go_wp2_with fail
  refine (HM.out _).mono ?_
  rintro e u1 ⟨rfl, k1⟩
  have Q1 := blk_kept k1 Q0
  have K1 := hid (K0.out.trans k1)
  have c1 := blk_cell Q1
  clear k1 Q0 K0
  go_wp2_with fail
  refine (HA.out _).mono ?_
  rintro e u2 ⟨rfl, k2⟩
  have Q2 := blk_kept k2 Q1
  have K2 := hid (K1.out.trans k2)
  have c2 := blk_cell Q2
  clear k2 Q1 K1
  clear c1
  go_wp2_with fail
  refine (HS.out _).mono ?_
  rintro e u3 ⟨rfl, k3⟩
  have Q3 := blk_kept k3 Q2
  have K3 := hid (K2.out.trans k3)
  have c3 := blk_cell Q3
  clear k3 Q2 K2
  clear c2
  go_wp2
  go_ret
  exact ⟨rfl, K3.out⟩
set_option maxRecDepth 100000 in
set_option maxHeartbeats 4000000 in
theorem psrc15_3f1 (l : Lc) (b6 : Bool) (w : World) (h : l.on = true) (HM : ∀ u, Calls Try.prog 12 #[lcV l] u fun e w' => e = .returned (.int .i64 3) ∧ Kept u w') (HS : ∀ u, Calls Try.prog 26 #[lcV l] u fun e w' => e = .returned (.bool true) ∧ Kept u w') (HB : ∀ u, Calls Try.prog 25 #[lcV l, .int .u8 64] u fun e w' => e = .returned (.bool b6) ∧ Kept u w') : Calls Try.prog 14 #[lcV l] w fun e w' => e = .returned (.bool b6) ∧ Kept w w' := by
  have HM := hid HM
  have HS := hid HS
  have HB := hid HB
  obtain ⟨so, sl, sd, sy, ss, sh, se⟩ := l
  try simp only at *
  subst h
  have Q0 : Blk (w.alloc (.cells ([.bool true, .int .u8 sl, .int .u16 sd, .int .u8 sy, .int .u8 ss, .bool sh, .int .u16 se] : List Value).toArray 24)) w.heap.size 24 [.bool true, .int .u8 sl, .int .u16 sd, .int .u8 sy, .int .u8 ss, .bool sh, .int .u16 se] := blk_new w _ _
  have K0 := hid ((Kept.refl w).alloc (.cells ([.bool true, .int .u8 sl, .int .u16 sd, .int .u8 sy, .int .u8 ss, .bool sh, .int .u16 se] : List Value).toArray 24))
  go_enter Try.func14, Try.ntmps14
  go_wp2_with fail
  refine (HM.out _).mono ?_
  rintro e u1 ⟨rfl, k1⟩
  have Q1 := blk_kept k1 Q0
  have K1 := hid (K0.out.trans k1)
  have c1 := blk_cell Q1
  clear k1 Q0 K0
  go_wp2_with fail
  refine (HS.out _).mono ?_
  rintro e u2 ⟨rfl, k2⟩
  have Q2 := blk_kept k2 Q1
  have K2 := hid (K1.out.trans k2)
  have c2 := blk_cell Q2
  clear k2 Q1 K1
  clear c1
  go_wp2_with fail
  refine (HB.out _).mono ?_
  rintro e u3 ⟨rfl, k3⟩
  have Q3 := blk_kept k3 Q2
  have K3 := hid (K2.out.trans k3)
  have c3 := blk_cell Q3
  clear k3 Q2 K2
  clear c2
  go_wp2
  go_ret
  exact ⟨rfl, K3.out⟩
set_option maxRecDepth 100000 in
set_option maxHeartbeats 4000000 in
theorem psrc15_3f0 (l : Lc) (b6 : Bool) (w : World) (h : l.on = true) (HM : ∀ u, Calls Try.prog 12 #[lcV l] u fun e w' => e = .returned (.int .i64 3) ∧ Kept u w') (HS : ∀ u, Calls Try.prog 26 #[lcV l] u fun e w' => e = .returned (.bool false) ∧ Kept u w') : Calls Try.prog 14 #[lcV l] w fun e w' => e = .returned (.bool false) ∧ Kept w w' := by
  have HM := hid HM
  have HS := hid HS
  obtain ⟨so, sl, sd, sy, ss, sh, se⟩ := l
  try simp only at *
  subst h
  have Q0 : Blk (w.alloc (.cells ([.bool true, .int .u8 sl, .int .u16 sd, .int .u8 sy, .int .u8 ss, .bool sh, .int .u16 se] : List Value).toArray 24)) w.heap.size 24 [.bool true, .int .u8 sl, .int .u16 sd, .int .u8 sy, .int .u8 ss, .bool sh, .int .u16 se] := blk_new w _ _
  have K0 := hid ((Kept.refl w).alloc (.cells ([.bool true, .int .u8 sl, .int .u16 sd, .int .u8 sy, .int .u8 ss, .bool sh, .int .u16 se] : List Value).toArray 24))
  go_enter Try.func14, Try.ntmps14
  go_wp2_with fail
  refine (HM.out _).mono ?_
  rintro e u1 ⟨rfl, k1⟩
  have Q1 := blk_kept k1 Q0
  have K1 := hid (K0.out.trans k1)
  have c1 := blk_cell Q1
  clear k1 Q0 K0
  go_wp2_with fail
  refine (HS.out _).mono ?_
  rintro e u2 ⟨rfl, k2⟩
  have Q2 := blk_kept k2 Q1
  have K2 := hid (K1.out.trans k2)
  have c2 := blk_cell Q2
  clear k2 Q1 K1
  clear c1
  go_wp2
  go_ret
  exact ⟨rfl, K2.out⟩
set_option maxRecDepth 100000 in
set_option maxHeartbeats 4000000 in
theorem psrc15_off (l : Lc) (w : World) (h : l.on = false) : Calls Try.prog 14 #[lcV l] w fun e w' => e = .returned (.bool false) ∧ Kept w w' := by
  obtain ⟨so, sl, sd, sy, ss, sh, se⟩ := l
  try simp only at *
  subst h
  go_enter Try.func14, Try.ntmps14
  go_wp2
  go_ret
  exact ⟨rfl, by repeat (first | with_reducible exact Kept.refl _ | with_reducible refine Kept.alloc ?_ _ | with_reducible refine Kept.drew ?_ | (with_reducible refine Kept.setCell8 ?_ ?_ _ _; rotate_left; (first | exact Nat.le_refl _ | omega | (simp; done) | (simp; omega))))⟩
theorem psrc15 (l : Lc) (w : World) (I : LcIn l) : Calls Try.prog 14 #[lcV l] w fun e w' => e = .returned (.bool (srcL l)) ∧ Kept w w' := by
  cases h : l.on
  · rw [src_off l h]
    exact psrc15_off l w h
  have M := fun u => pmode15 l u I
  have S := fun u => psame15 l u
  have B := fun u => plet15 l 64 u
  rw [and64_bit l.sel I.s0 I.s1] at B
  rcases mode_cases l with hm | hm | hm | hm
  · rw [src_0 l h hm]
    rw [hm] at M
    have A := fun u => plet15 l 8 u
    rw [and8_bit l.sel I.s0 I.s1] at A
    cases ha : bitOf l.sel 3
    · rw [ha] at A
      rw [Bool.false_or]
      cases hs : (l.line == l.lyc)
      · rw [hs] at S
        exact psrc15_0f0 l false w h M A S
      · rw [hs] at S
        exact psrc15_0f1 l _ w h M A S B
    · rw [ha] at A
      rw [Bool.true_or]
      exact psrc15_0t l false w h M A
  · rw [src_1 l h hm]
    rw [hm] at M
    have A := fun u => plet15 l 16 u
    rw [and16_bit l.sel I.s0 I.s1] at A
    cases ha : bitOf l.sel 4
    · rw [ha] at A
      rw [Bool.false_or]
      cases hs : (l.line == l.lyc)
      · rw [hs] at S
        exact psrc15_1f0 l false w h M A S
      · rw [hs] at S
        exact psrc15_1f1 l _ w h M A S B
    · rw [ha] at A
      rw [Bool.true_or]
      exact psrc15_1t l false w h M A
  · rw [src_2 l h hm]
    rw [hm] at M
    have A := fun u => plet15 l 32 u
    rw [and32_bit l.sel I.s0 I.s1] at A
    cases ha : bitOf l.sel 5
    · rw [ha] at A
      rw [Bool.false_or]
      cases hs : (l.line == l.lyc)
      · rw [hs] at S
        exact psrc15_2f0 l false w h M A S
      · rw [hs] at S
        exact psrc15_2f1 l _ w h M A S B
    · rw [ha] at A
      rw [Bool.true_or]
      exact psrc15_2t l false w h M A
  · rw [src_3 l h hm]
    rw [hm] at M
    cases hs : (l.line == l.lyc)
    · rw [hs] at S
      exact psrc15_3f0 l false w h M S
    · rw [hs] at S
      exact psrc15_3f1 l _ w h M S B
set_option maxRecDepth 100000 in
set_option maxHeartbeats 4000000 in
theorem plock15_0 (l : Lc) (w : World) (HM : ∀ u, Calls Try.prog 12 #[lcV l] u fun e w' => e = .returned (.int .i64 0) ∧ Kept u w') : Calls Try.prog 10 #[lcV l] w fun e w' => e = .returned (.tuple #[.bool false, .bool false]) ∧ Kept w w' := by
  have HM := hid HM
  obtain ⟨so, sl, sd, sy, ss, sh, se⟩ := l
  try simp only at *
  have Q0 : Blk (w.alloc (.cells ([.bool so, .int .u8 sl, .int .u16 sd, .int .u8 sy, .int .u8 ss, .bool sh, .int .u16 se] : List Value).toArray 24)) w.heap.size 24 [.bool so, .int .u8 sl, .int .u16 sd, .int .u8 sy, .int .u8 ss, .bool sh, .int .u16 se] := blk_new w _ _
  have K0 := hid ((Kept.refl w).alloc (.cells ([.bool so, .int .u8 sl, .int .u16 sd, .int .u8 sy, .int .u8 ss, .bool sh, .int .u16 se] : List Value).toArray 24))
  go_enter Try.func10, Try.ntmps10
  go_wp2_with fail
  refine (HM.out _).mono ?_
  rintro e u1 ⟨rfl, k1⟩
  have Q1 := blk_kept k1 Q0
  have K1 := hid (K0.out.trans k1)
  have c1 := blk_cell Q1
  clear k1 Q0 K0
  go_wp2
  exact bodyPost_ret (v := .tuple #[.bool false, .bool false]) (by simp [results, Try.results10, go_sem]) rfl ⟨rfl, K1.out⟩
set_option maxRecDepth 100000 in
set_option maxHeartbeats 4000000 in
theorem plock15_1 (l : Lc) (w : World) (HM : ∀ u, Calls Try.prog 12 #[lcV l] u fun e w' => e = .returned (.int .i64 1) ∧ Kept u w') : Calls Try.prog 10 #[lcV l] w fun e w' => e = .returned (.tuple #[.bool false, .bool false]) ∧ Kept w w' := by
  have HM := hid HM
  obtain ⟨so, sl, sd, sy, ss, sh, se⟩ := l
  try simp only at *
  have Q0 : Blk (w.alloc (.cells ([.bool so, .int .u8 sl, .int .u16 sd, .int .u8 sy, .int .u8 ss, .bool sh, .int .u16 se] : List Value).toArray 24)) w.heap.size 24 [.bool so, .int .u8 sl, .int .u16 sd, .int .u8 sy, .int .u8 ss, .bool sh, .int .u16 se] := blk_new w _ _
  have K0 := hid ((Kept.refl w).alloc (.cells ([.bool so, .int .u8 sl, .int .u16 sd, .int .u8 sy, .int .u8 ss, .bool sh, .int .u16 se] : List Value).toArray 24))
  go_enter Try.func10, Try.ntmps10
  go_wp2_with fail
  refine (HM.out _).mono ?_
  rintro e u1 ⟨rfl, k1⟩
  have Q1 := blk_kept k1 Q0
  have K1 := hid (K0.out.trans k1)
  have c1 := blk_cell Q1
  clear k1 Q0 K0
  go_wp2
  exact bodyPost_ret (v := .tuple #[.bool false, .bool false]) (by simp [results, Try.results10, go_sem]) rfl ⟨rfl, K1.out⟩
set_option maxRecDepth 100000 in
set_option maxHeartbeats 4000000 in
theorem plock15_2 (l : Lc) (w : World) (HM : ∀ u, Calls Try.prog 12 #[lcV l] u fun e w' => e = .returned (.int .i64 2) ∧ Kept u w') : Calls Try.prog 10 #[lcV l] w fun e w' => e = .returned (.tuple #[.bool false, .bool true]) ∧ Kept w w' := by
  have HM := hid HM
  obtain ⟨so, sl, sd, sy, ss, sh, se⟩ := l
  try simp only at *
  have Q0 : Blk (w.alloc (.cells ([.bool so, .int .u8 sl, .int .u16 sd, .int .u8 sy, .int .u8 ss, .bool sh, .int .u16 se] : List Value).toArray 24)) w.heap.size 24 [.bool so, .int .u8 sl, .int .u16 sd, .int .u8 sy, .int .u8 ss, .bool sh, .int .u16 se] := blk_new w _ _
  have K0 := hid ((Kept.refl w).alloc (.cells ([.bool so, .int .u8 sl, .int .u16 sd, .int .u8 sy, .int .u8 ss, .bool sh, .int .u16 se] : List Value).toArray 24))
  go_enter Try.func10, Try.ntmps10
  go_wp2_with fail
  refine (HM.out _).mono ?_
  rintro e u1 ⟨rfl, k1⟩
  have Q1 := blk_kept k1 Q0
  have K1 := hid (K0.out.trans k1)
  have c1 := blk_cell Q1
  clear k1 Q0 K0
  go_wp2
  exact bodyPost_ret (v := .tuple #[.bool false, .bool true]) (by simp [results, Try.results10, go_sem]) rfl ⟨rfl, K1.out⟩
set_option maxRecDepth 100000 in
set_option maxHeartbeats 4000000 in
theorem plock15_3 (l : Lc) (w : World) (HM : ∀ u, Calls Try.prog 12 #[lcV l] u fun e w' => e = .returned (.int .i64 3) ∧ Kept u w') : Calls Try.prog 10 #[lcV l] w fun e w' => e = .returned (.tuple #[.bool true, .bool true]) ∧ Kept w w' := by
  have HM := hid HM
  obtain ⟨so, sl, sd, sy, ss, sh, se⟩ := l
  try simp only at *
  have Q0 : Blk (w.alloc (.cells ([.bool so, .int .u8 sl, .int .u16 sd, .int .u8 sy, .int .u8 ss, .bool sh, .int .u16 se] : List Value).toArray 24)) w.heap.size 24 [.bool so, .int .u8 sl, .int .u16 sd, .int .u8 sy, .int .u8 ss, .bool sh, .int .u16 se] := blk_new w _ _
  have K0 := hid ((Kept.refl w).alloc (.cells ([.bool so, .int .u8 sl, .int .u16 sd, .int .u8 sy, .int .u8 ss, .bool sh, .int .u16 se] : List Value).toArray 24))
  go_enter Try.func10, Try.ntmps10
  go_wp2_with fail
  refine (HM.out _).mono ?_
  rintro e u1 ⟨rfl, k1⟩
  have Q1 := blk_kept k1 Q0
  have K1 := hid (K0.out.trans k1)
  have c1 := blk_cell Q1
  clear k1 Q0 K0
  go_wp2
  exact bodyPost_ret (v := .tuple #[.bool true, .bool true]) (by simp [results, Try.results10, go_sem]) rfl ⟨rfl, K1.out⟩
theorem plock15 (l : Lc) (w : World) (I : LcIn l) : Calls Try.prog 10 #[lcV l] w fun e w' => e = .returned (.tuple #[.bool (modeL l == 3), .bool (decide (2 ≤ modeL l))]) ∧ Kept w w' := by
  have M := fun u => pmode15 l u I
  rcases mode_cases l with hm | hm | hm | hm <;> rw [hm] at M ⊢
  · exact plock15_0 l w M
  · exact plock15_1 l w M
  · exact plock15_2 l w M
  · exact plock15_3 l w M
end Go.Proofs.Ytpgdkoiinigepaa
