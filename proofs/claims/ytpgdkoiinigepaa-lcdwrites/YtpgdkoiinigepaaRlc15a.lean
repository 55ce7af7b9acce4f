/- What the document's answers of layer 15 come to: Mode, Source, Locks. -/
import Derived.Test.YtpgdkoiinigepaaPlc15c
import Derived.Test.YtpgdkoiinigepaaRef
namespace Go.Proofs.Ytpgdkoiinigepaa
open Go.RowKit
set_option linter.unusedVariables false
set_option linter.unusedSimpArgs false

set_option maxRecDepth 100000 in
set_option maxHeartbeats 4000000 in
theorem rmode15_a (l : Lc) (w : World) (I : LcIn l) (h : l.on = false) : Calls Try.prog 13 #[lcV l] w fun e w' => e = .returned (.int .i64 (modeL l)) ∧ Kept w w' := by
  have E : modeL l = 0 := by unfold modeL; rw [h]; rfl
  rw [E]
  clear E
  obtain ⟨so, sl, sd, sy, ss, sh, se⟩ := l
  have l0 := I.l0
  have l1 := I.l1
  have d0 := I.d0
  have d1 := I.d1
  have y0 := I.y0
  have y1 := I.y1
  have s0 := I.s0
  have s1 := I.s1
  have e0 := I.e0
  have e1 := I.e1
  simp only at l0 l1 d0 d1 y0 y1 s0 s1 e0 e1
  try simp only at *
  subst h
  clear I
  go_enter Try.func13, Try.ntmps13
  go_wp2
  go_ret
  exact ⟨rfl, by repeat (first | with_reducible exact Kept.refl _ | with_reducible refine Kept.alloc ?_ _ | with_reducible refine Kept.drew ?_ | (with_reducible refine Kept.setCell8 ?_ ?_ _ _; rotate_left; (first | exact Nat.le_refl _ | omega | (simp; done) | (simp; omega))))⟩
set_option maxRecDepth 100000 in
set_option maxHeartbeats 4000000 in
theorem rmode15_b (l : Lc) (w : World) (I : LcIn l) (h : l.on = true) (q : 144 ≤ l.line) : Calls Try.prog 13 #[lcV l] w fun e w' => e = .returned (.int .i64 (modeL l)) ∧ Kept w w' := by
  have E : modeL l = 1 := by unfold modeL; rw [if_pos h, if_pos q]
  rw [E]
  clear E
  obtain ⟨so, sl, sd, sy, ss, sh, se⟩ := l
  have l0 := I.l0
  have l1 := I.l1
  have d0 := I.d0
  have d1 := I.d1
  have y0 := I.y0
  have y1 := I.y1
  have s0 := I.s0
  have s1 := I.s1
  have e0 := I.e0
  have e1 := I.e1
  simp only at l0 l1 d0 d1 y0 y1 s0 s1 e0 e1
  try simp only at *
  subst h
  have g1 : decide (144 ≤ sl) = true := decide_eq_true q
  clear I
  go_enter Try.func13, Try.ntmps13
  go_wp2
  go_ret
  exact ⟨rfl, by repeat (first | with_reducible exact Kept.refl _ | with_reducible refine Kept.alloc ?_ _ | with_reducible refine Kept.drew ?_ | (with_reducible refine Kept.setCell8 ?_ ?_ _ _; rotate_left; (first | exact Nat.le_refl _ | omega | (simp; done) | (simp; omega))))⟩
set_option maxRecDepth 100000 in
set_option maxHeartbeats 4000000 in
theorem rmode15_c (l : Lc) (w : World) (I : LcIn l) (h : l.on = true) (q : ¬ 144 ≤ l.line) (r : l.dot < 80) : Calls Try.prog 13 #[lcV l] w fun e w' => e = .returned (.int .i64 (modeL l)) ∧ Kept w w' := by
  have E : modeL l = 2 := by unfold modeL; rw [if_pos h, if_neg q, if_pos r]
  rw [E]
  clear E
  obtain ⟨so, sl, sd, sy, ss, sh, se⟩ := l
  have l0 := I.l0
  have l1 := I.l1
  have d0 := I.d0
  have d1 := I.d1
  have y0 := I.y0
  have y1 := I.y1
  have s0 := I.s0
  have s1 := I.s1
  have e0 := I.e0
  have e1 := I.e1
  simp only at l0 l1 d0 d1 y0 y1 s0 s1 e0 e1
  try simp only at *
  subst h
  have g1 : decide (144 ≤ sl) = false := decide_eq_false q
  have g2 : decide (sd < 80) = true := decide_eq_true r
  clear I
  go_enter Try.func13, Try.ntmps13
  go_wp2
  go_ret
  exact ⟨rfl, by repeat (first | with_reducible exact Kept.refl _ | with_reducible refine Kept.alloc ?_ _ | with_reducible refine Kept.drew ?_ | (with_reducible refine Kept.setCell8 ?_ ?_ _ _; rotate_left; (first | exact Nat.le_refl _ | omega | (simp; done) | (simp; omega))))⟩
set_option maxRecDepth 100000 in
set_option maxHeartbeats 4000000 in
theorem rmode15_d (l : Lc) (w : World) (I : LcIn l) (h : l.on = true) (q : ¬ 144 ≤ l.line) (r : ¬ l.dot < 80) (t : l.dot < 252 + l.extra) : Calls Try.prog 13 #[lcV l] w fun e w' => e = .returned (.int .i64 (modeL l)) ∧ Kept w w' := by
  have E : modeL l = 3 := by unfold modeL; rw [if_pos h, if_neg q, if_neg r, if_pos t]
  rw [E]
  clear E
  obtain ⟨so, sl, sd, sy, ss, sh, se⟩ := l
  have l0 := I.l0
  have l1 := I.l1
  have d0 := I.d0
  have d1 := I.d1
  have y0 := I.y0
  have y1 := I.y1
  have s0 := I.s0
  have s1 := I.s1
  have e0 := I.e0
  have e1 := I.e1
  simp only at l0 l1 d0 d1 y0 y1 s0 s1 e0 e1
  try simp only at *
  subst h
  have g1 : decide (144 ≤ sl) = false := decide_eq_false q
  have g2 : decide (sd < 80) = false := decide_eq_false r
  have g3 : decide (sd < 252 + se) = true := decide_eq_true t
  clear I
  go_enter Try.func13, Try.ntmps13
  go_wp2
  go_ret
  exact ⟨rfl, by repeat (first | with_reducible exact Kept.refl _ | with_reducible refine Kept.alloc ?_ _ | with_reducible refine Kept.drew ?_ | (with_reducible refine Kept.setCell8 ?_ ?_ _ _; rotate_left; (first | exact Nat.le_refl _ | omega | (simp; done) | (simp; omega))))⟩
set_option maxRecDepth 100000 in
set_option maxHeartbeats 4000000 in
theorem rmode15_e (l : Lc) (w : World) (I : LcIn l) (h : l.on = true) (q : ¬ 144 ≤ l.line) (r : ¬ l.dot < 80) (t : ¬ l.dot < 252 + l.extra) : Calls Try.prog 13 #[lcV l] w fun e w' => e = .returned (.int .i64 (modeL l)) ∧ Kept w w' := by
  have E : modeL l = 0 := by unfold modeL; rw [if_pos h, if_neg q, if_neg r, if_neg t]
  rw [E]
  clear E
  obtain ⟨so, sl, sd, sy, ss, sh, se⟩ := l
  have l0 := I.l0
  have l1 := I.l1
  have d0 := I.d0
  have d1 := I.d1
  have y0 := I.y0
  have y1 := I.y1
  have s0 := I.s0
  have s1 := I.s1
  have e0 := I.e0
  have e1 := I.e1
  simp only at l0 l1 d0 d1 y0 y1 s0 s1 e0 e1
  try simp only at *
  subst h
  have g1 : decide (144 ≤ sl) = false := decide_eq_false q
  have g2 : decide (sd < 80) = false := decide_eq_false r
  have g3 : decide (sd < 252 + se) = false := decide_eq_false t
  clear I
  go_enter Try.func13, Try.ntmps13
  go_wp2
  go_ret
  exact ⟨rfl, by repeat (first | with_reducible exact Kept.refl _ | with_reducible refine Kept.alloc ?_ _ | with_reducible refine Kept.drew ?_ | (with_reducible refine Kept.setCell8 ?_ ?_ _ _; rotate_left; (first | exact Nat.le_refl _ | omega | (simp; done) | (simp; omega))))⟩
theorem rmode15 (l : Lc) (w : World) (I : LcIn l) : Calls Try.prog 13 #[lcV l] w fun e w' => e = .returned (.int .i64 (modeL l)) ∧ Kept w w' := by
  cases h : l.on
  · exact rmode15_a l w I h
  by_cases q : 144 ≤ l.line
  · exact rmode15_b l w I h q
  by_cases r : l.dot < 80
  · exact rmode15_c l w I h q r
  by_cases t : l.dot < 252 + l.extra
  · exact rmode15_d l w I h q r t
  · exact rmode15_e l w I h q r t
set_option maxRecDepth 100000 in
set_option maxHeartbeats 4000000 in
theorem rsrc15_0t1 (l : Lc) (b6 : Bool) (w : World) (h : l.on = true) (g : (l.line == l.lyc) = true) (HM : ∀ u, Calls Try.prog 13 #[lcV l] u fun e w' => e = .returned (.int .i64 0) ∧ Kept u w') (HA : ∀ u, Calls Try.prog 27 #[.int .u8 l.sel, .int .i64 3] u fun e w' => e = .returned (.bool true) ∧ Kept u w') (HB : ∀ u, Calls Try.prog 27 #[.int .u8 l.sel, .int .i64 6] u fun e w' => e = .returned (.bool b6) ∧ Kept u w') : Calls Try.prog 15 #[lcV l] w fun e w' => e = .returned (.bool true) ∧ Kept w w' := by
  have HM := hid HM
  have HA := hid HA
  have HB := hid HB
  obtain ⟨so, sl, sd, sy, ss, sh, se⟩ := l
  try simp only at *
  subst h
  have Q0 : Blk (w.alloc (.cells ([.bool true, .int .u8 sl, .int .u16 sd, .int .u8 sy, .int .u8 ss, .bool sh, .int .u16 se] : List Value).toArray 24)) w.heap.size 24 [.bool true, .int .u8 sl, .int .u16 sd, .int .u8 sy, .int .u8 ss, .bool sh, .int .u16 se] := blk_new w _ _
  have K0 := hid ((Kept.refl w).alloc (.cells ([.bool true, .int .u8 sl, .int .u16 sd, .int .u8 sy, .int .u8 ss, .bool sh, .int .u16 se] : List Value).toArray 24))
  go_enter Try.func15, Try.ntmps15
  go_wp2_with fail
  refine (HM.out _).mono ?_
  rintro e u1 ⟨rfl, k1⟩
  have Q1 := blk_kept k1 Q0
  have K1 := hid (K0.out.trans k1)
  have c1 := blk_cell Q1
  clear k1 Q0 K0
  go_wp2_with fail
  refine (HA.out _).mono ?_
  rintro e u2 ⟨rfl, k2⟩
  have Q2 := blk_kept k2 Q1
  have K2 := hid (K1.out.trans k2)
  have c2 := blk_cell Q2
  clear k2 Q1 K1
  clear c1
  go_wp2_with fail
  refine (HB.out _).mono ?_
  rintro e u3 ⟨rfl, k3⟩
  have Q3 := blk_kept k3 Q2
  have K3 := hid (K2.out.trans k3)
  have c3 := blk_cell Q3
  clear k3 Q2 K2
  clear c2
  go_wp2
  go_ret
  exact ⟨rfl, K3.out⟩
set_option maxRecDepth 100000 in
set_option maxHeartbeats 4000000 in
theorem rsrc15_0t0 (l : Lc) (b6 : Bool) (w : World) (h : l.on = true) (g : (l.line == l.lyc) = false) (HM : ∀ u, Calls Try.prog 13 #[lcV l] u fun e w' => e = .returned (.int .i64 0) ∧ Kept u w') (HA : ∀ u, Calls Try.prog 27 #[.int .u8 l.sel, .int .i64 3] u fun e w' => e = .returned (.bool true) ∧ Kept u w') : Calls Try.prog 15 #[lcV l] w fun e w' => e = .returned (.bool true) ∧ Kept w w' := by
  have HM := hid HM
  have HA := hid HA
  obtain ⟨so, sl, sd, sy, ss, sh, se⟩ := l
  try simp only at *
  subst h
  have Q0 : Blk (w.alloc (.cells ([.bool true, .int .u8 sl, .int .u16 sd, .int .u8 sy, .int .u8 ss, .bool sh, .int .u16 se] : List Value).toArray 24)) w.heap.size 24 [.bool true, .int .u8 sl, .int .u16 sd, .int .u8 sy, .int .u8 ss, .bool sh, .int .u16 se] := blk_new w _ _
  have K0 := hid ((Kept.refl w).alloc (.cells ([.bool true, .int .u8 sl, .int .u16 sd, .int .u8 sy, .int .u8 ss, .bool sh, .int .u16 se] : List Value).toArray 24))
  go_enter Try.func15, Try.ntmps15
  go_wp2_with fail
  refine (HM.out _).mono ?_
  rintro e u1 ⟨rfl, k1⟩
  have Q1 := blk_kept k1 Q0
  have K1 := hid (K0.out.trans k1)
  have c1 := blk_cell Q1
  clear k1 Q0 K0
  go_wp2_with fail
  refine (HA.out _).mono ?_
  rintro e u2 ⟨rfl, k2⟩
  have Q2 := blk_kept k2 Q1
  have K2 := hid (K1.out.trans k2)
  have c2 := blk_cell Q2
  clear k2 Q1 K1
  clear c1
  go_wp2
  go_ret
  exact ⟨rfl, K2.out⟩
set_option maxRecDepth 100000 in
set_option maxHeartbeats 4000000 in
theorem rsrc15_0f1 (l : Lc) (b6 : Bool) (w : World) (h : l.on = true) (g : (l.line == l.lyc) = true) (HM : ∀ u, Calls Try.prog 13 #[lcV l] u fun e w' => e = .returned (.int .i64 0) ∧ Kept u w') (HA : ∀ u, Calls Try.prog 27 #[.int .u8 l.sel, .int .i64 3] u fun e w' => e = .returned (.bool false) ∧ Kept u w') (HB : ∀ u, Calls Try.prog 27 #[.int .u8 l.sel, .int .i64 6] u fun e w' => e = .returned (.bool b6) ∧ Kept u w') : Calls Try.prog 15 #[lcV l] w fun e w' => e = .returned (.bool b6) ∧ Kept w w' := by
  have HM := hid HM
  have HA := hid HA
  have HB := hid HB
  obtain ⟨so, sl, sd, sy, ss, sh, se⟩ := l
  try simp only at *
  subst h
  have Q0 : Blk (w.alloc (.cells ([.bool true, .int .u8 sl, .int .u16 sd, .int .u8 sy, .int .u8 ss, .bool sh, .int .u16 se] : List Value).toArray 24)) w.heap.size 24 [.bool true, .int .u8 sl, .int .u16 sd, .int .u8 sy, .int .u8 ss, .bool sh, .int .u16 se] := blk_new w _ _
  have K0 := hid ((Kept.refl w).alloc (.cells ([.bool true, .int .u8 sl, .int .u16 sd, .int .u8 sy, .int .u8 ss, .bool sh, .int .u16 se] : List Value).toArray 24))
  go_enter Try.func15, Try.ntmps15
  go_wp2_with fail
  refine (HM.out _).mono ?_
  rintro e u1 ⟨rfl, k1⟩
  have Q1 := blk_kept k1 Q0
  have K1 := hid (K0.out.trans k1)
  have c1 := blk_cell Q1
  clear k1 Q0 K0
  go_wp2_with fail
  refine (HA.out _).mono ?_
  rintro e u2 ⟨rfl, k2⟩
  have Q2 := blk_kept k2 Q1
  have K2 := hid (K1.out.trans k2)
  have c2 := blk_cell Q2
  clear k2 Q1 K1
  clear c1
  go_wp2_with fail
  refine (HB.out _).mono ?_
  rintro e u3 ⟨rfl, k3⟩
  have Q3 := blk_kept k3 Q2
  have K3 := hid (K2.out.trans k3)
  have c3 := blk_cell Q3
  clear k3 Q2 K2
  clear c2
  go_wp2
  go_ret
  exact ⟨rfl, K3.out⟩
set_option maxRecDepth 100000 in
set_option maxHeartbeats 4000000 in
theorem rsrc15_0f0 (l : Lc) (b6 : Bool) (w : World) (h : l.on = true) (g : (l.line == l.lyc) = false) (HM : ∀ u, Calls Try.prog 13 #[lcV l] u fun e w' => e = .returned (.int .i64 0) ∧ Kept u w') (HA : ∀ u, Calls Try.prog 27 #[.int .u8 l.sel, .int .i64 3] u fun e w' => e = .returned (.bool false) ∧ Kept u w') : Calls Try.prog 15 #[lcV l] w fun e w' => e = .returned (.bool false) ∧ Kept w w' := by
  have HM := hid HM
  have HA := hid HA
  obtain ⟨so, sl, sd, sy, ss, sh, se⟩ := l
  try simp only at *
  subst h
  have Q0 : Blk (w.alloc (.cells ([.bool true, .int .u8 sl, .int .u16 sd, .int .u8 sy, .int .u8 ss, .bool sh, .int .u16 se] : List Value).toArray 24)) w.heap.size 24 [.bool true, .int .u8 sl, .int .u16 sd, .int .u8 sy, .int .u8 ss, .bool sh, .int .u16 se] := blk_new w _ _
  have K0 := hid ((Kept.refl w).alloc (.cells ([.bool true, .int .u8 sl, .int .u16 sd, .int .u8 sy, .int .u8 ss, .bool sh, .int .u16 se] : List Value).toArray 24))
  go_enter Try.func15, Try.ntmps15
  go_wp2_with fail
  refine (HM.out _).mono ?_
  rintro e u1 ⟨rfl, k1⟩
  have Q1 := blk_kept k1 Q0
  have K1 := hid (K0.out.trans k1)
  have c1 := blk_cell Q1
  clear k1 Q0 K0
  go_wp2_with fail
  refine (HA.out _).mono ?_
  rintro e u2 ⟨rfl, k2⟩
  have Q2 := blk_kept k2 Q1
  have K2 := hid (K1.out.trans k2)
  have c2 := blk_cell Q2
  clear k2 Q1 K1
  clear c1
  go_wp2
  go_ret
  exact ⟨rfl, K2.out⟩
set_option maxRecDepth 100000 in
set_option maxHeartbeats 4000000 in
theorem rsrc15_1t1 (l : Lc) (b6 : Bool) (w : World) (h : l.on = true) (g : (l.line == l.lyc) = true) (HM : ∀ u, Calls Try.prog 13 #[lcV l] u fun e w' => e = .returned (.int .i64 1) ∧ Kept u w') (HA : ∀ u, Calls Try.prog 27 #[.int .u8 l.sel, .int .i64 4] u fun e w' => e = .returned (.bool true) ∧ Kept u w') (HB : ∀ u, Calls Try.prog 27 #[.int .u8 l.sel, .int .i64 6] u fun e w' => e = .returned (.bool b6) ∧ Kept u w') : Calls Try.prog 15 #[lcV l] w fun e w' => e = .returned (.bool true) ∧ Kept w w' := by
  have HM := hid HM
  have HA := hid HA
  have HB := hid HB
  obtain ⟨so, sl, sd, sy, ss, sh, se⟩ := l
  try simp only at *
  subst h
  have Q0 : Blk (w.alloc (.cells ([.bool true, .int .u8 sl, .int .u16 sd, .int .u8 sy, .int .u8 ss, .bool sh, .int .u16 se] : List Value).toArray 24)) w.heap.size 24 [.bool true, .int .u8 sl, .int .u16 sd, .int .u8 sy, .int .u8 ss, .bool sh, .int .u16 se] := blk_new w _ _
  have K0 := hid ((Kept.refl w).alloc (.cells ([.bool true, .int .u8 sl, .int .u16 sd, .int .u8 sy, .int .u8 ss, .bool sh, .int .u16 se] : List Value).toArray 24))
  go_enter Try.func15, Try.ntmps15
  go_wp2_with fail
  refine (HM.out _).mono ?_
  rintro e u1 ⟨rfl, k1⟩
  have Q1 := blk_kept k1 Q0
  have K1 := hid (K0.out.trans k1)
  have c1 := blk_cell Q1
  clear k1 Q0 K0
  go_wp2_with fail
  refine (HA.out _).mono ?_
  rintro e u2 ⟨rfl, k2⟩
  have Q2 := blk_kept k2 Q1
  have K2 := hid (K1.out.trans k2)
  have c2 := blk_cell Q2
  clear k2 Q1 K1
  clear c1
  go_wp2_with fail
  refine (HB.out _).mono ?_
  rintro e u3 ⟨rfl, k3⟩
  have Q3 := blk_kept k3 Q2
  have K3 := hid (K2.out.trans k3)
  have c3 := blk_cell Q3
  clear k3 Q2 K2
  clear c2
  go_wp2
  go_ret
  exact ⟨rfl, K3.out⟩
set_option maxRecDepth 100000 in
set_option maxHeartbeats 4000000 in
theorem rsrc15_1t0 (l : Lc) (b6 : Bool) (w : World) (h : l.on = true) (g : (l.line == l.lyc) = false) (HM : ∀ u, Calls Try.prog 13 #[lcV l] u fun e w' => e = .returned (.int .i64 1) ∧ Kept u w') (HA : ∀ u, Calls Try.prog 27 #[.int .u8 l.sel, .int .i64 4] u fun e w' => e = .returned (.bool true) ∧ Kept u w') : Calls Try.prog 15 #[lcV l] w fun e w' => e = .returned (.bool true) ∧ Kept w w' := by
  have HM := hid HM
  have HA := hid HA
  obtain ⟨so, sl, sd, sy, ss, sh, se⟩ := l
  try simp only at *
  subst h
  have Q0 : Blk (w.alloc (.cells ([.bool true, .int .u8 sl, .int .u16 sd, .int .u8 sy, .int .u8 ss, .bool sh, .int .u16 se] : List Value).toArray 24)) w.heap.size 24 [.bool true, .int .u8 sl, .int .u16 sd, .int .u8 sy, .int .u8 ss, .bool sh, .int .u16 se] := blk_new w _ _
  have K0 := hid ((Kept.refl w).alloc (.cells ([.bool true, .int .u8 sl, .int .u16 sd, .int .u8 sy, .int .u8 ss, .bool sh, .int .u16 se] : List Value).toArray 24))
  go_enter Try.func15, Try.ntmps15
  go_wp2_with fail
  refine (HM.out _).mono ?_
  rintro e u1 ⟨rfl, k1⟩
  have Q1 := blk_kept k1 Q0
  have K1 := hid (K0.out.trans k1)
  have c1 := blk_cell Q1
  clear k1 Q0 K0
  go_wp2_with fail
  refine (HA.out _).mono ?_
  rintro e u2 ⟨rfl, k2⟩
  have Q2 := blk_kept k2 Q1
  have K2 := hid (K1.out.trans k2)
  have c2 := blk_cell Q2
  clear k2 Q1 K1
  clear c1
  go_wp2
  go_ret
  exact ⟨rfl, K2.out⟩
set_option maxRecDepth 100000 in
set_option maxHeartbeats 4000000 in
theorem rsrc15_1f1 (l : Lc) (b6 : Bool) (w : World) (h : l.on = true) (g : (l.line == l.lyc) = true) (HM : ∀ u, Calls Try.prog 13 #[lcV l] u fun e w' => e = .returned (.int .i64 1) ∧ Kept u w') (HA : ∀ u, Calls Try.prog 27 #[.int .u8 l.sel, .int .i64 4] u fun e w' => e = .returned (.bool false) ∧ Kept u w') (HB : ∀ u, Calls Try.prog 27 #[.int .u8 l.sel, .int .i64 6] u fun e w' => e = .returned (.bool b6) ∧ Kept u w') : Calls Try.prog 15 #[lcV l] w fun e w' => e = .returned (.bool b6) ∧ Kept w w' := by
  have HM := hid HM
  have HA := hid HA
  have HB := hid HB
  obtain ⟨so, sl, sd, sy, ss, sh, se⟩ := l
  try simp only at *
  subst h
  have Q0 : Blk (w.alloc (.cells ([.bool true, .int .u8 sl, .int .u16 sd, .int .u8 sy, .int .u8 ss, .bool sh, .int .u16 se] : List Value).toArray 24)) w.heap.size 24 [.bool true, .int .u8 sl, .int .u16 sd, .int .u8 sy, .int .u8 ss, .bool sh, .int .u16 se] := blk_new w _ _
  have K0 := hid ((Kept.refl w).alloc (.cells ([.bool true, .int .u8 sl, .int .u16 sd, .int .u8 sy, .int .u8 ss, .bool sh, .int .u16 se] : List Value).toArray 24))
  go_enter Try.func15, Try.ntmps15
  go_wp2_with fail
  refine (HM.out _).mono ?_
  rintro e u1 ⟨rfl, k1⟩
  have Q1 := blk_kept k1 Q0
  have K1 := hid (K0.out.trans k1)
  have c1 := blk_cell Q1
  clear k1 Q0 K0
  go_wp2_with fail
  refine (HA.out _).mono ?_
  rintro e u2 ⟨rfl, k2⟩
  have Q2 := blk_kept k2 Q1
  have K2 := hid (K1.out.trans k2)
  have c2 := blk_cell Q2
  clear k2 Q1 K1
  clear c1
  go_wp2_with fail
  refine (HB.out _).mono ?_
  rintro e u3 ⟨rfl, k3⟩
  have Q3 := blk_kept k3 Q2
  have K3 := hid (K2.out.trans k3)
  have c3 := blk_cell Q3
  clear k3 Q2 K2
  clear c2
  go_wp2
  go_ret
  exact ⟨rfl, K3.out⟩
set_option maxRecDepth 100000 in
set_option maxHeartbeats 4000000 in
theorem rsrc15_1f0 (l : Lc) (b6 : Bool) (w : World) (h : l.on = true) (g : (l.line == l.lyc) = false) (HM : ∀ u, Calls Try.prog 13 #[lcV l] u fun e w' => e = .returned (.int .i64 1) ∧ Kept u w') (HA : ∀ u, Calls Try.prog 27 #[.int .u8 l.sel, .int .i64 4] u fun e w' => e = .returned (.bool false) ∧ Kept u w') : Calls Try.prog 15 #[lcV l] w fun e w' => e = .returned (.bool false) ∧ Kept w w' := by
  have HM := hid HM
  have HA := hid HA
  obtain ⟨so, sl, sd, sy, ss, sh, se⟩ := l
  try simp only at *
  subst h
  have Q0 : Blk (w.alloc (.cells ([.bool true, .int .u8 sl, .int .u16 sd, .int .u8 sy, .int .u8 ss, .bool sh, .int .u16 se] : List Value).toArray 24)) w.heap.size 24 [.bool true, .int .u8 sl, .int .u16 sd, .int .u8 sy, .int .u8 ss, .bool sh, .int .u16 se] := blk_new w _ _
  have K0 := hid ((Kept.refl w).alloc (.cells ([.bool true, .int .u8 sl, .int .u16 sd, .int .u8 sy, .int .u8 ss, .bool sh, .int .u16 se] : List Value).toArray 24))
  go_enter Try.func15, Try.ntmps15
  go_wp2_with fail
  refine (HM.out _).mono ?_
  rintro e u1 ⟨rfl, k1⟩
  have Q1 := blk_kept k1 Q0
  have K1 := hid (K0.out.trans k1)
  have c1 := blk_cell Q1
  clear k1 Q0 K0
  go_wp2_with fail
  refine (HA.out _).mono ?_
  rintro e u2 ⟨rfl, k2⟩
  have Q2 := blk_kept k2 Q1
  have K2 := hid (K1.out.trans k2)
  have c2 := blk_cell Q2
  clear k2 Q1 K1
  clear c1
  go_wp2
  go_ret
  exact ⟨rfl, K2.out⟩
set_option maxRecDepth 100000 in
set_option maxHeartbeats 4000000 in
theorem rsrc15_2t1 (l : Lc) (b6 : Bool) (w : World) (h : l.on = true) (g : (l.line == l.lyc) = true) (HM : ∀ u, Calls Try.prog 13 #[lcV l] u fun e w' => e = .returned (.int .i64 2) ∧ Kept u w') (HA : ∀ u, Calls Try.prog 27 #[.int .u8 l.sel, .int .i64 5] u fun e w' => e = .returned (.bool true) ∧ Kept u w') (HB : ∀ u, Calls Try.prog 27 #[.int .u8 l.sel, .int .i64 6] u fun e w' => e = .returned (.bool b6) ∧ Kept u w') : Calls Try.prog 15 #[lcV l] w fun e w' => e = .returned (.bool true) ∧ Kept w w' := by
  have HM := hid HM
  have HA := hid HA
  have HB := hid HB
  obtain ⟨so, sl, sd, sy, ss, sh, se⟩ := l
  try simp only at *
  subst h
  have Q0 : Blk (w.alloc (.cells ([.bool true, .int .u8 sl, .int .u16 sd, .int .u8 sy, .int .u8 ss, .bool sh, .int .u16 se] : List Value).toArray 24)) w.heap.size 24 [.bool true, .int .u8 sl, .int .u16 sd, .int .u8 sy, .int .u8 ss, .bool sh, .int .u16 se] := blk_new w _ _
  have K0 := hid ((Kept.refl w).alloc (.cells ([.bool true, .int .u8 sl, .int .u16 sd, .int .u8 sy, .int .u8 ss, .bool sh, .int .u16 se] : List Value).toArray 24))
  go_enter Try.func15, Try.ntmps15
  go_wp2_with fail
  refine (HM.out _).mono ?_
  rintro e u1 ⟨rfl, k1⟩
  have Q1 := blk_kept k1 Q0
  have K1 := hid (K0.out.trans k1)
  have c1 := blk_cell Q1
  clear k1 Q0 K0
  go_wp2_with fail
  refine (HA.out _).mono ?_
  rintro e u2 ⟨rfl, k2⟩
  have Q2 := blk_kept k2 Q1
  have K2 := hid (K1.out.trans k2)
  have c2 := blk_cell Q2
  clear k2 Q1 K1
  clear c1
  go_wp2_with fail
  refine (HB.out _).mono ?_
  rintro e u3 ⟨rfl, k3⟩
  have Q3 := blk_kept k3 Q2
  have K3 := hid (K2.out.trans k3)
  have c3 := blk_cell Q3
  clear k3 Q2 K2
  clear c2
  go_wp2
  go_ret
  exact ⟨rfl, K3.out⟩
set_option maxRecDepth 100000 in
set_option maxHeartbeats 4000000 in
theorem rsrc15_2t0 (l : Lc) (b6 : Bool) (w : World) (h : l.on = true) (g : (l.line == l.lyc) = false) (HM : ∀ u, Calls Try.prog 13 #[lcV l] u fun e w' => e = .returned (.int .i64 2) ∧ Kept u w') (HA : ∀ u, Calls Try.prog 27 #[.int .u8 l.sel, .int .i64 5] u fun e w' => e = .returned (.bool true) ∧ Kept u w') : Calls Try.prog 15 #[lcV l] w fun e w' => e = .returned (.bool true) ∧ Kept w w' := by
  have HM := hid HM
  have HA := hid HA
  obtain ⟨so, sl, sd, sy, ss, sh, se⟩ := l
  try simp only at *
  subst h
  have Q0 : Blk (w.alloc (.cells ([.bool true, .int .u8 sl, .int .u16 sd, .int .u8 sy, .int .u8 ss, .bool sh, .int .u16 se] : List Value).toArray 24)) w.heap.size 24 [.bool true, .int .u8 sl, .int .u16 sd, .int .u8 sy, .int .u8 ss, .bool sh, .int .u16 se] := blk_new w _ _
  have K0 := hid ((Kept.refl w).alloc (.cells ([.bool true, .int .u8 sl, .int .u16 sd, .int .u8 sy, .int .u8 ss, .bool sh, .int .u16 se] : List Value).toArray 24))
  go_enter Try.func15, Try.ntmps15
  go_wp2_with fail
  refine (HM.out _).mono ?_
  rintro e u1 ⟨rfl, k1⟩
  have Q1 := blk_kept k1 Q0
  have K1 := hid (K0.out.trans k1)
  have c1 := blk_cell Q1
  clear k1 Q0 K0
  go_wp2_with fail
  refine (HA.out _).mono ?_
  rintro e u2 ⟨rfl, k2⟩
  have Q2 := blk_kept k2 Q1
  have K2 := hid (K1.out.trans k2)
  have c2 := blk_cell Q2
  clear k2 Q1 K1
  clear c1
  go_wp2
  go_ret
  exact ⟨rfl, K2.out⟩
set_option maxRecDepth 100000 in
set_option maxHeartbeats 4000000 in
theorem rsrc15_2f1 (l : Lc) (b6 : Bool) (w : World) (h : l.on = true) (g : (l.line == l.lyc) = true) (HM : ∀ u, Calls Try.prog 13 #[lcV l] u fun e w' => e = .returned (.int .i64 2) ∧ Kept u w') (HA : ∀ u, Calls Try.prog 27 #[.int .u8 l.sel, .int .i64 5] u fun e w' => e = .returned (.bool false) ∧ Kept u w') (HB : ∀ u, Calls Try.prog 27 #[.int .u8 l.sel, .int .i64 6] u fun e w' => e = .returned (.bool b6) ∧ Kept u w') : Calls Try.prog 15 #[lcV l] w fun e w' => e = .returned (.bool b6) ∧ Kept w w' := by
  have HM := hid HM
  have HA := hid HA
  have HB := hid HB
  obtain ⟨so, sl, sd, sy, ss, sh, se⟩ := l
  try simp only at *
  subst h
  have Q0 : Blk (w.alloc (.cells ([.bool true, .int .u8 sl, .int .u16 sd, .int .u8 sy, .int .u8 ss, .bool sh, .int .u16 se] : List Value).toArray 24)) w.heap.size 24 [.bool true, .int .u8 sl, .int .u16 sd, .int .u8 sy, .int .u8 ss, .bool sh, .int .u16 se] := blk_new w _ _
  have K0 := hid ((Kept.refl w).alloc (.cells ([.bool true, .int .u8 sl, .int .u16 sd, .int .u8 sy, .int .u8 ss, .bool sh, .int .u16 se] : List Value).toArray 24))
  go_enter Try.func15, Try.ntmps15
  go_wp2_with fail
  refine (HM.out _).mono ?_
  rintro e u1 ⟨rfl, k1⟩
  have Q1 := blk_kept k1 Q0
  have K1 := hid (K0.out.trans k1)
  have c1 := blk_cell Q1
  clear k1 Q0 K0
  go_wp2_with fail
  refine (HA.out _).mono ?_
  rintro e u2 ⟨rfl, k2⟩
  have Q2 := blk_kept k2 Q1
  have K2 := hid (K1.out.trans k2)
  have c2 := blk_cell Q2
  clear k2 Q1 K1
  clear c1
  go_wp2_with fail
  refine (HB.out _).mono ?_
  rintro e u3 ⟨rfl, k3⟩
  have Q3 := blk_kept k3 Q2
  have K3 := hid (K2.out.trans k3)
  have c3 := blk_cell Q3
  clear k3 Q2 K2
  clear c2
  go_wp2
  go_ret
  exact ⟨rfl, K3.out⟩
set_option maxRecDepth 100000 in
set_option maxHeartbeats 4000000 in
theorem rsrc15_2f0 (l : Lc) (b6 : Bool) (w : World) (h : l.on = true) (g : (l.line == l.lyc) = false) (HM : ∀ u, Calls Try.prog 13 #[lcV l] u fun e w' => e = .returned (.int .i64 2) ∧ Kept u w') (HA : ∀ u, Calls Try.prog 27 #[.int .u8 l.sel, .int .i64 5] u fun e w' => e = .returned (.bool false) ∧ Kept u w') : Calls Try.prog 15 #[lcV l] w fun e w' => e = .returned (.bool false) ∧ Kept w w' := by
  have HM := hid HM
  have HA := hid HA
  obtain ⟨so, sl, sd, sy, ss, sh, se⟩ := l
  try simp only at *
  subst h
  have Q0 : Blk (w.alloc (.cells ([.bool true, .int .u8 sl, .int .u16 sd, .int .u8 sy, .int .u8 ss, .bool sh, .int .u16 se] : List Value).toArray 24)) w.heap.size 24 [.bool true, .int .u8 sl, .int .u16 sd, .int .u8 sy, .int .u8 ss, .bool sh, .int .u16 se] := blk_new w _ _
  have K0 := hid ((Kept.refl w).alloc (.cells ([.bool true, .int .u8 sl, .int .u16 sd, .int .u8 sy, .int .u8 ss, .bool sh, .int .u16 se] : List Value).toArray 24))
  go_enter Try.func15, Try.ntmps15
  go_wp2_with fail
  refine (HM.out _).mono ?_
  rintro e u1 ⟨rfl, k1⟩
  have Q1 := blk_kept k1 Q0
  have K1 := hid (K0.out.trans k1)
  have c1 := blk_cell Q1
  clear k1 Q0 K0
  go_wp2_with fail
  refine (HA.out _).mono ?_
  rintro e u2 ⟨rfl, k2⟩
  have Q2 := blk_kept k2 Q1
  have K2 := hid (K1.out.trans k2)
  have c2 := blk_cell Q2
  clear k2 Q1 K1
  clear c1
  go_wp2
  go_ret
  exact ⟨rfl, K2.out⟩
set_option maxRecDepth 100000 in
set_option maxHeartbeats 4000000 in
theorem rsrc15_3f1 (l : Lc) (b6 : Bool) (w : World) (h : l.on = true) (g : (l.line == l.lyc) = true) (HM : ∀ u, Calls Try.prog 13 #[lcV l] u fun e w' => e = .returned (.int .i64 3) ∧ Kept u w') (HB : ∀ u, Calls Try.prog 27 #[.int .u8 l.sel, .int .i64 6] u fun e w' => e = .returned (.bool b6) ∧ Kept u w') : Calls Try.prog 15 #[lcV l] w fun e w' => e = .returned (.bool b6) ∧ Kept w w' := by
  have HM := hid HM
  have HB := hid HB
  obtain ⟨so, sl, sd, sy, ss, sh, se⟩ := l
  try simp only at *
  subst h
  have Q0 : Blk (w.alloc (.cells ([.bool true, .int .u8 sl, .int .u16 sd, .int .u8 sy, .int .u8 ss, .bool sh, .int .u16 se] : List Value).toArray 24)) w.heap.size 24 [.bool true, .int .u8 sl, .int .u16 sd, .int .u8 sy, .int .u8 ss, .bool sh, .int .u16 se] := blk_new w _ _
  have K0 := hid ((Kept.refl w).alloc (.cells ([.bool true, .int .u8 sl, .int .u16 sd, .int .u8 sy, .int .u8 ss, .bool sh, .int .u16 se] : List Value).toArray 24))
  go_enter Try.func15, Try.ntmps15
  go_wp2_with fail
  refine (HM.out _).mono ?_
  rintro e u1 ⟨rfl, k1⟩
  have Q1 := blk_kept k1 Q0
  have K1 := hid (K0.out.trans k1)
  have c1 := blk_cell Q1
  clear k1 Q0 K0
  go_wp2_with fail
  refine (HB.out _).mono ?_
  rintro e u2 ⟨rfl, k2⟩
  have Q2 := blk_kept k2 Q1
  have K2 := hid (K1.out.trans k2)
  have c2 := blk_cell Q2
  clear k2 Q1 K1
  clear c1
  go_wp2
  go_ret
  exact ⟨rfl, K2.out⟩
set_option maxRecDepth 100000 in
set_option maxHeartbeats 4000000 in
theorem rsrc15_3f0 (l : Lc) (b6 : Bool) (w : World) (h : l.on = true) (g : (l.line == l.lyc) = false) (HM : ∀ u, Calls Try.prog 13 #[lcV l] u fun e w' => e = .returned (.int .i64 3) ∧ Kept u w') : Calls Try.prog 15 #[lcV l] w fun e w' => e = .returned (.bool false) ∧ Kept w w' := by
  have HM := hid HM
  obtain ⟨so, sl, sd, sy, ss, sh, se⟩ := l
  try simp only at *
  subst h
  have Q0 : Blk (w.alloc (.cells ([.bool true, .int .u8 sl, .int .u16 sd, .int .u8 sy, .int .u8 ss, .bool sh, .int .u16 se] : List Value).toArray 24)) w.heap.size 24 [.bool true, .int .u8 sl, .int .u16 sd, .int .u8 sy, .int .u8 ss, .bool sh, .int .u16 se] := blk_new w _ _
  have K0 := hid ((Kept.refl w).alloc (.cells ([.bool true, .int .u8 sl, .int .u16 sd, .int .u8 sy, .int .u8 ss, .bool sh, .int .u16 se] : List Value).toArray 24))
  go_enter Try.func15, Try.ntmps15
  go_wp2_with fail
  refine (HM.out _).mono ?_
  rintro e u1 ⟨rfl, k1⟩
  have Q1 := blk_kept k1 Q0
  have K1 := hid (K0.out.trans k1)
  have c1 := blk_cell Q1
  clear k1 Q0 K0
  go_wp2
  go_ret
  exact ⟨rfl, K1.out⟩
set_option maxRecDepth 100000 in
set_option maxHeartbeats 4000000 in
theorem rsrc15_off (l : Lc) (w : World) (m : Int) (h : l.on = false) (HM : ∀ u, Calls Try.prog 13 #[lcV l] u fun e w' => e = .returned (.int .i64 m) ∧ Kept u w') : Calls Try.prog 15 #[lcV l] w fun e w' => e = .returned (.bool false) ∧ Kept w w' := by
  have HM := hid HM
  obtain ⟨so, sl, sd, sy, ss, sh, se⟩ := l
  try simp only at *
  subst h
  have Q0 : Blk (w.alloc (.cells ([.bool false, .int .u8 sl, .int .u16 sd, .int .u8 sy, .int .u8 ss, .bool sh, .int .u16 se] : List Value).toArray 24)) w.heap.size 24 [.bool false, .int .u8 sl, .int .u16 sd, .int .u8 sy, .int .u8 ss, .bool sh, .int .u16 se] := blk_new w _ _
  have K0 := hid ((Kept.refl w).alloc (.cells ([.bool false, .int .u8 sl, .int .u16 sd, .int .u8 sy, .int .u8 ss, .bool sh, .int .u16 se] : List Value).toArray 24))
  go_enter Try.func15, Try.ntmps15
  go_wp2_with fail
  refine (HM.out _).mono ?_
  rintro e u1 ⟨rfl, k1⟩
  have Q1 := blk_kept k1 Q0
  have K1 := hid (K0.out.trans k1)
  have c1 := blk_cell Q1
  clear k1 Q0 K0
  go_wp2
  go_ret
  exact ⟨rfl, K1.out⟩
theorem rbit15 (a n : Int) (w : World) (h0 : 0 ≤ a) (h1 : a ≤ 255) : Calls Try.prog 27 #[.int .u8 a, .int .i64 n] w fun e w' => e = .returned (.bool (bitOf a n)) ∧ Kept w w' :=
  (rbit_any a n w h0 h1).mono (fun e w' h => ⟨h.1, h.2 ▸ Kept.refl _⟩)
theorem rsrc15 (l : Lc) (w : World) (I : LcIn l) : Calls Try.prog 15 #[lcV l] w fun e w' => e = .returned (.bool (srcL l)) ∧ Kept w w' := by
  have M := fun u => rmode15 l u I
  cases h : l.on
  · rw [src_off l h]
    exact rsrc15_off l w _ h M
  have B := fun u => rbit15 l.sel 6 u I.s0 I.s1
  rcases mode_cases l with hm | hm | hm | hm
  · rw [src_0 l h hm]
    rw [hm] at M
    have A := fun u => rbit15 l.sel 3 u I.s0 I.s1
    cases ha : bitOf l.sel 3 <;> rw [ha] at A <;> cases hs : (l.line == l.lyc)
    · exact rsrc15_0f0 l false w h hs M A
    · exact rsrc15_0f1 l _ w h hs M A B
    · exact rsrc15_0t0 l false w h hs M A
    · exact rsrc15_0t1 l _ w h hs M A B
  · rw [src_1 l h hm]
    rw [hm] at M
    have A := fun u => rbit15 l.sel 4 u I.s0 I.s1
    cases ha : bitOf l.sel 4 <;> rw [ha] at A <;> cases hs : (l.line == l.lyc)
    · exact rsrc15_1f0 l false w h hs M A
    · exact rsrc15_1f1 l _ w h hs M A B
    · exact rsrc15_1t0 l false w h hs M A
    · exact rsrc15_1t1 l _ w h hs M A B
  · rw [src_2 l h hm]
    rw [hm] at M
    have A := fun u => rbit15 l.sel 5 u I.s0 I.s1
    cases ha : bitOf l.sel 5 <;> rw [ha] at A <;> cases hs : (l.line == l.lyc)
    · exact rsrc15_2f0 l false w h hs M A
    · exact rsrc15_2f1 l _ w h hs M A B
    · exact rsrc15_2t0 l false w h hs M A
    · exact rsrc15_2t1 l _ w h hs M A B
  · rw [src_3 l h hm]
    rw [hm] at M
    cases hs : (l.line == l.lyc)
    · exact rsrc15_3f0 l false w h hs M
    · exact rsrc15_3f1 l _ w h hs M B
set_option maxRecDepth 100000 in
set_option maxHeartbeats 4000000 in
theorem rlock15_0 (l : Lc) (w : World) (HM : ∀ u, Calls Try.prog 13 #[lcV l] u fun e w' => e = .returned (.int .i64 0) ∧ Kept u w') : Calls Try.prog 11 #[lcV l] w fun e w' => e = .returned (.tuple #[.bool false, .bool false]) ∧ Kept w w' := by
  have HM := hid HM
  obtain ⟨so, sl, sd, sy, ss, sh, se⟩ := l
  try simp only at *
  have Q0 : Blk (w.alloc (.cells ([.bool so, .int .u8 sl, .int .u16 sd, .int .u8 sy, .int .u8 ss, .bool sh, .int .u16 se] : List Value).toArray 24)) w.heap.size 24 [.bool so, .int .u8 sl, .int .u16 sd, .int .u8 sy, .int .u8 ss, .bool sh, .int .u16 se] := blk_new w _ _
  have K0 := hid ((Kept.refl w).alloc (.cells ([.bool so, .int .u8 sl, .int .u16 sd, .int .u8 sy, .int .u8 ss, .bool sh, .int .u16 se] : List Value).toArray 24))
  go_enter Try.func11, Try.ntmps11
  go_wp2_with fail
  refine (HM.out _).mono ?_
  rintro e u1 ⟨rfl, k1⟩
  have Q1 := blk_kept k1 Q0
  have K1 := hid (K0.out.trans k1)
  have c1 := blk_cell Q1
  clear k1 Q0 K0
  go_wp2
  exact bodyPost_ret (v := .tuple #[.bool false, .bool false]) (by simp [results, Try.results11, go_sem]) rfl ⟨rfl, K1.out⟩
set_option maxRecDepth 100000 in
set_option maxHeartbeats 4000000 in
theorem rlock15_1 (l : Lc) (w : World) (HM : ∀ u, Calls Try.prog 13 #[lcV l] u fun e w' => e = .returned (.int .i64 1) ∧ Kept u w') : Calls Try.prog 11 #[lcV l] w fun e w' => e = .returned (.tuple #[.bool false, .bool false]) ∧ Kept w w' := by
  have HM := hid HM
  obtain ⟨so, sl, sd, sy, ss, sh, se⟩ := l
  try simp only at *
  have Q0 : Blk (w.alloc (.cells ([.bool so, .int .u8 sl, .int .u16 sd, .int .u8 sy, .int .u8 ss, .bool sh, .int .u16 se] : List Value).toArray 24)) w.heap.size 24 [.bool so, .int .u8 sl, .int .u16 sd, .int .u8 sy, .int .u8 ss, .bool sh, .int .u16 se] := blk_new w _ _
  have K0 := hid ((Kept.refl w).alloc (.cells ([.bool so, .int .u8 sl, .int .u16 sd, .int .u8 sy, .int .u8 ss, .bool sh, .int .u16 se] : List Value).toArray 24))
  go_enter Try.func11, Try.ntmps11
  go_wp2_with fail
  refine (HM.out _).mono ?_
  rintro e u1 ⟨rfl, k1⟩
  have Q1 := blk_kept k1 Q0
  have K1 := hid (K0.out.trans k1)
  have c1 := blk_cell Q1
  clear k1 Q0 K0
  go_wp2
  exact bodyPost_ret (v := .tuple #[.bool false, .bool false]) (by simp [results, Try.results11, go_sem]) rfl ⟨rfl, K1.out⟩
set_option maxRecDepth 100000 in
set_option maxHeartbeats 4000000 in
theorem rlock15_2 (l : Lc) (w : World) (HM : ∀ u, Calls Try.prog 13 #[lcV l] u fun e w' => e = .returned (.int .i64 2) ∧ Kept u w') : Calls Try.prog 11 #[lcV l] w fun e w' => e = .returned (.tuple #[.bool false, .bool true]) ∧ Kept w w' := by
  have HM := hid HM
  obtain ⟨so, sl, sd, sy, ss, sh, se⟩ := l
  try simp only at *
  have Q0 : Blk (w.alloc (.cells ([.bool so, .int .u8 sl, .int .u16 sd, .int .u8 sy, .int .u8 ss, .bool sh, .int .u16 se] : List Value).toArray 24)) w.heap.size 24 [.bool so, .int .u8 sl, .int .u16 sd, .int .u8 sy, .int .u8 ss, .bool sh, .int .u16 se] := blk_new w _ _
  have K0 := hid ((Kept.refl w).alloc (.cells ([.bool so, .int .u8 sl, .int .u16 sd, .int .u8 sy, .int .u8 ss, .bool sh, .int .u16 se] : List Value).toArray 24))
  go_enter Try.func11, Try.ntmps11
  go_wp2_with fail
  refine (HM.out _).mono ?_
  rintro e u1 ⟨rfl, k1⟩
  have Q1 := blk_kept k1 Q0
  have K1 := hid (K0.out.trans k1)
  have c1 := blk_cell Q1
  clear k1 Q0 K0
  go_wp2
  exact bodyPost_ret (v := .tuple #[.bool false, .bool true]) (by simp [results, Try.results11, go_sem]) rfl ⟨rfl, K1.out⟩
set_option maxRecDepth 100000 in
set_option maxHeartbeats 4000000 in
theorem rlock15_3 (l : Lc) (w : World) (HM : ∀ u, Calls Try.prog 13 #[lcV l] u fun e w' => e = .returned (.int .i64 3) ∧ Kept u w') : Calls Try.prog 11 #[lcV l] w fun e w' => e = .returned (.tuple #[.bool true, .bool true]) ∧ Kept w w' := by
  have HM := hid HM
  obtain ⟨so, sl, sd, sy, ss, sh, se⟩ := l
  try simp only at *
  have Q0 : Blk (w.alloc (.cells ([.bool so, .int .u8 sl, .int .u16 sd, .int .u8 sy, .int .u8 ss, .bool sh, .int .u16 se] : List Value).toArray 24)) w.heap.size 24 [.bool so, .int .u8 sl, .int .u16 sd, .int .u8 sy, .int .u8 ss, .bool sh, .int .u16 se] := blk_new w _ _
  have K0 := hid ((Kept.refl w).alloc (.cells ([.bool so, .int .u8 sl, .int .u16 sd, .int .u8 sy, .int .u8 ss, .bool sh, .int .u16 se] : List Value).toArray 24))
  go_enter Try.func11, Try.ntmps11
  go_wp2_with fail
  refine (HM.out _).mono ?_
  rintro e u1 ⟨rfl, k1⟩
  have Q1 := blk_kept k1 Q0
  have K1 := hid (K0.out.trans k1)
  have c1 := blk_cell Q1
  clear k1 Q0 K0
  go_wp2
  exact bodyPost_ret (v := .tuple #[.bool true, .bool true]) (by simp [results, Try.results11, go_sem]) rfl ⟨rfl, K1.out⟩
theorem rlock15 (l : Lc) (w : World) (I : LcIn l) : Calls Try.prog 11 #[lcV l] w fun e w' => e = .returned (.tuple #[.bool (modeL l == 3), .bool (decide (2 ≤ modeL l))]) ∧ Kept w w' := by
  have M := fun u => rmode15 l u I
  rcases mode_cases l with hm | hm | hm | hm <;> rw [hm] at M ⊢
  · exact rlock15_0 l w M
  · exact rlock15_1 l w M
  · exact rlock15_2 l w M
  · exact rlock15_3 l w M
end Go.Proofs.Ytpgdkoiinigepaa
