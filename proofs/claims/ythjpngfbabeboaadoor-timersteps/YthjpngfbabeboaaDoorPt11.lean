/- The program's Step, Read, Write. -/
import Derived.Test.YthjpngfbabeboaaDoorPt11b
namespace Go.Proofs.YthjpngfbabeboaaDoor
open Go.ChangeShapes Go.WideShapes Go.ChangeAt Go.RowKit
set_option linter.unusedVariables false
set_option linter.unusedSimpArgs false

set_option maxRecDepth 100000 in
set_option maxHeartbeats 4000000 in
theorem pwa11_2 (t : Tm) (v : Int) (w : World) (hs : t.st = 2) : Calls Tryd.prog 26 #[tmV t, .int .u8 v] w fun e w' => e = .returned (tmV t) ∧ Kept w w' := by
  obtain ⟨dv, ta, tm, tc, ts⟩ := t
  simp only at *
  subst hs
  go_enter Tryd.func26, Tryd.ntmps26
  go_wp2
  exact bodyPost_ret (v := tmV ⟨dv, ta, tm, tc, 2⟩) (by simp [results, Tryd.results26, go_sem]) rfl ⟨rfl, by repeat (first | with_reducible exact Kept.refl _ | with_reducible refine Kept.alloc ?_ _ | with_reducible refine Kept.drew ?_ | (with_reducible refine Kept.setCell8 ?_ ?_ _ _; rotate_left; (first | exact Nat.le_refl _ | omega | (simp; done) | (simp; omega))))⟩
set_option maxRecDepth 100000 in
set_option maxHeartbeats 4000000 in
theorem pwa11_1 (t : Tm) (v : Int) (w : World) (hs : t.st = 1) : Calls Tryd.prog 26 #[tmV t, .int .u8 v] w fun e w' => e = .returned (tmV ⟨t.div, v, t.tma, t.tac, 0⟩) ∧ Kept w w' := by
  obtain ⟨dv, ta, tm, tc, ts⟩ := t
  simp only at *
  subst hs
  go_enter Tryd.func26, Tryd.ntmps26
  go_wp2
  exact bodyPost_ret (v := tmV ⟨dv, v, tm, tc, 0⟩) (by simp [results, Tryd.results26, go_sem]) rfl ⟨rfl, by repeat (first | with_reducible exact Kept.refl _ | with_reducible refine Kept.alloc ?_ _ | with_reducible refine Kept.drew ?_ | (with_reducible refine Kept.setCell8 ?_ ?_ _ _; rotate_left; (first | exact Nat.le_refl _ | omega | (simp; done) | (simp; omega))))⟩
set_option maxRecDepth 100000 in
set_option maxHeartbeats 4000000 in
theorem pwa11_0 (t : Tm) (v : Int) (w : World) (h1 : t.st ≠ 1) (h2 : t.st ≠ 2) : Calls Tryd.prog 26 #[tmV t, .int .u8 v] w fun e w' => e = .returned (tmV ⟨t.div, v, t.tma, t.tac, t.st⟩) ∧ Kept w w' := by
  obtain ⟨dv, ta, tm, tc, ts⟩ := t
  simp only at *
  have g1 : (ts == 1) = false := by simpa using h1
  have g2 : (ts == 2) = false := by simpa using h2
  clear h1 h2
  go_enter Tryd.func26, Tryd.ntmps26
  go_wp2
  exact bodyPost_ret (v := tmV ⟨dv, v, tm, tc, ts⟩) (by simp [results, Tryd.results26, go_sem]) rfl ⟨rfl, by repeat (first | with_reducible exact Kept.refl _ | with_reducible refine Kept.alloc ?_ _ | with_reducible refine Kept.drew ?_ | (with_reducible refine Kept.setCell8 ?_ ?_ _ _; rotate_left; (first | exact Nat.le_refl _ | omega | (simp; done) | (simp; omega))))⟩
set_option maxRecDepth 100000 in
set_option maxHeartbeats 4000000 in
theorem pwm11_2 (t : Tm) (v : Int) (w : World) (hs : t.st = 2) : Calls Tryd.prog 27 #[tmV t, .int .u8 v] w fun e w' => e = .returned (tmV ⟨t.div, v, v, t.tac, t.st⟩) ∧ Kept w w' := by
  obtain ⟨dv, ta, tm, tc, ts⟩ := t
  simp only at *
  subst hs
  go_enter Tryd.func27, Tryd.ntmps27
  go_wp2
  exact bodyPost_ret (v := tmV ⟨dv, v, v, tc, 2⟩) (by simp [results, Tryd.results27, go_sem]) rfl ⟨rfl, by repeat (first | with_reducible exact Kept.refl _ | with_reducible refine Kept.alloc ?_ _ | with_reducible refine Kept.drew ?_ | (with_reducible refine Kept.setCell8 ?_ ?_ _ _; rotate_left; (first | exact Nat.le_refl _ | omega | (simp; done) | (simp; omega))))⟩
set_option maxRecDepth 100000 in
set_option maxHeartbeats 4000000 in
theorem pwm11_0 (t : Tm) (v : Int) (w : World) (h2 : t.st ≠ 2) : Calls Tryd.prog 27 #[tmV t, .int .u8 v] w fun e w' => e = .returned (tmV ⟨t.div, t.tima, v, t.tac, t.st⟩) ∧ Kept w w' := by
  obtain ⟨dv, ta, tm, tc, ts⟩ := t
  simp only at *
  have g2 : (ts == 2) = false := by simpa using h2
  clear h2
  go_enter Tryd.func27, Tryd.ntmps27
  go_wp2
  exact bodyPost_ret (v := tmV ⟨dv, ta, v, tc, ts⟩) (by simp [results, Tryd.results27, go_sem]) rfl ⟨rfl, by repeat (first | with_reducible exact Kept.refl _ | with_reducible refine Kept.alloc ?_ _ | with_reducible refine Kept.drew ?_ | (with_reducible refine Kept.setCell8 ?_ ?_ _ _; rotate_left; (first | exact Nat.le_refl _ | omega | (simp; done) | (simp; omega))))⟩
def fstT (t : Tm) : Tm := if t.st = 1 then ⟨t.div, t.tma, t.tma, t.tac, 2⟩ else ⟨t.div, t.tima, t.tma, t.tac, 0⟩
theorem step_fall (t : Tm) : stepT t = fallT (fstT t) (nextT t) := by
  have h : hotT (fstT t) = hotT t := by unfold fstT; split <;> rfl
  unfold stepT fallT
  rw [h]
theorem fst_in {t : Tm} (I : TmIn t) : TmIn (fstT t) := by
  unfold fstT; split
  · exact ⟨I.d0, I.d1, I.m0, I.m1, I.m0, I.m1, I.c0, I.c1, (by decide : (0 : Int) ≤ 2), (by decide : (2 : Int) ≤ 255)⟩
  · exact ⟨I.d0, I.d1, I.a0, I.a1, I.m0, I.m1, I.c0, I.c1, Int.le_refl 0, (by decide : (0 : Int) ≤ 255)⟩
set_option maxRecDepth 100000 in
set_option maxHeartbeats 4000000 in
theorem pst11_1 (t : Tm) (w : World) (lay : Lay11 w) (I : TmIn t) (hs : t.st = 1) : Calls Tryd.prog 12 #[tmV t] w fun e w' => e = .returned (.tuple #[tmV (stepT t), .bool (askT t)]) ∧ Kept w w' := by
  rw [step_fall]
  have HA := hid (fun x (k : Kept w x) => pcounted11 (fstT t) (nextT t) x (lay11_kept lay k) (fst_in I) (next_in I))
  generalize hV : fallT (fstT t) (nextT t) = V at *
  clear hV
  have F1 : fstT t = ⟨t.div, t.tma, t.tma, t.tac, 2⟩ := by unfold fstT; rw [if_pos hs]
  have F2 : nextT t = ⟨(t.div + 4) % 65536, t.tma, t.tma, t.tac, 2⟩ := by unfold nextT firstT; rw [if_pos hs]
  have AK : askT t = true := by unfold askT; rw [hs]; rfl
  rw [AK]
  rw [F1, F2] at HA
  have d0 := I.d0
  have d1 := I.d1
  obtain ⟨dv, ta, tm, tc, ts⟩ := t
  simp only at HA hs d0 d1 ⊢
  subst hs
  have e1 : IntKind.u16.wrap (dv + 4) = (dv + 4) % 65536 := by rw [IntKind.wrap_u16]
  have X0 : Blk ((w.alloc (.cells ([.int .u16 dv, .int .u8 ta, .int .u8 tm, .int .u8 tc, .int .u8 1] : List Value).toArray 24)).alloc (.cells ([.int .u16 0, .int .u8 0, .int .u8 0, .int .u8 0, .int .u8 0] : List Value).toArray 24)) w.heap.size 24 [.int .u16 dv, .int .u8 ta, .int .u8 tm, .int .u8 tc, .int .u8 1] := blk_past (blk_new w _ _) _
  have X1 : Blk ((w.alloc (.cells ([.int .u16 dv, .int .u8 ta, .int .u8 tm, .int .u8 tc, .int .u8 1] : List Value).toArray 24)).alloc (.cells ([.int .u16 0, .int .u8 0, .int .u8 0, .int .u8 0, .int .u8 0] : List Value).toArray 24)) (w.heap.size + 1) 24 [.int .u16 0, .int .u8 0, .int .u8 0, .int .u8 0, .int .u8 0] := by have q := blk_new (w.alloc (.cells ([.int .u16 dv, .int .u8 ta, .int .u8 tm, .int .u8 tc, .int .u8 1] : List Value).toArray 24)) [.int .u16 0, .int .u8 0, .int .u8 0, .int .u8 0, .int .u8 0] 24; rw [World.size_alloc] at q; exact q
  have zx : ((w.alloc (.cells ([.int .u16 dv, .int .u8 ta, .int .u8 tm, .int .u8 tc, .int .u8 1] : List Value).toArray 24)).alloc (.cells ([.int .u16 0, .int .u8 0, .int .u8 0, .int .u8 0, .int .u8 0] : List Value).toArray 24)).heap.size = (w.heap.size + 1 + 1) := by rw [World.size_alloc, World.size_alloc]
  have KX := hid (((Kept.refl w).alloc (.cells ([.int .u16 dv, .int .u8 ta, .int .u8 tm, .int .u8 tc, .int .u8 1] : List Value).toArray 24)).alloc (.cells ([.int .u16 0, .int .u8 0, .int .u8 0, .int .u8 0, .int .u8 0] : List Value).toArray 24))
  clear F1 F2 AK I lay
  go_enter Tryd.func12, Tryd.ntmps12
  go_wp2_with (first
    | (((with_reducible refine at_st 5 ?_); refine wl_store rfl rfl rfl rfl X0 (by kernel_rfl) rfl (Nat.le_of_ble_eq_true rfl) (fun v1 p1 => ?_); have B1 : Blk v1 w.heap.size 24 [.int .u16 dv, .int .u8 tm, .int .u8 tm, .int .u8 tc, .int .u8 1] := p1.blk; have z1 := p1.size; have R1 := p1.other _ _ _ (Nat.succ_ne_self _) X1; have K1 := hid (p1.kept _ KX.out (Nat.le_refl _)); clear p1); have y1 := z1.trans zx; have c1 := blk_cell B1; have l1 := blk_lt R1; clear X0 X1 KX z1 zx)
    | (((with_reducible refine at_st 5 ?_); refine wl_store rfl rfl rfl rfl B1 (by kernel_rfl) rfl (Nat.le_of_ble_eq_true rfl) (fun v2 p2 => ?_); have B2 : Blk v2 w.heap.size 24 [.int .u16 dv, .int .u8 tm, .int .u8 tm, .int .u8 tc, .int .u8 2] := p2.blk; have z2 := p2.size; have R2 := p2.other _ _ _ (Nat.succ_ne_self _) R1; have K2 := hid (p2.kept _ K1.out (Nat.le_refl _)); clear p2); have y2 := z2.trans y1; have c2 := blk_cell B2; have l2 := blk_lt R2; clear B1 R1 K1 z2 y1))
  refine (HA.out _ (K2.out.alloc _)).mono ?_
  rintro e u5 ⟨rfl, k5⟩
  have R5 := blk_kept k5 (blk_past R2 _)
  have K5 := hid ((K2.out.alloc _).trans k5)
  clear k5 B2 R2 K2 c2 l2
  go_wp2_with ((with_reducible refine at_st 24 ?_); refine wl_store rfl rfl rfl rfl R5 (by kernel_rfl) rfl (Nat.le_of_ble_eq_true rfl) (fun v6 p6 => ?_); have B6 : Blk v6 (w.heap.size + 1) 24 [.int .u16 V.div, .int .u8 V.tima, .int .u8 V.tma, .int .u8 V.tac, .int .u8 V.st] := p6.blk; have z6 := p6.size; have K6 := hid (p6.kept _ K5.out (Nat.le_succ _)); clear p6)
  exact bodyPost_ret (res_cell2 Tryd.results12 rfl B6 Tryd.underlying24 rfl (by kernel_rfl)) rfl ⟨rfl, K6.out⟩
set_option maxRecDepth 100000 in
set_option maxHeartbeats 4000000 in
theorem pst11_0 (t : Tm) (w : World) (lay : Lay11 w) (I : TmIn t) (hs : t.st ≠ 1) : Calls Tryd.prog 12 #[tmV t] w fun e w' => e = .returned (.tuple #[tmV (stepT t), .bool (askT t)]) ∧ Kept w w' := by
  rw [step_fall]
  have HA := hid (fun x (k : Kept w x) => pcounted11 (fstT t) (nextT t) x (lay11_kept lay k) (fst_in I) (next_in I))
  generalize hV : fallT (fstT t) (nextT t) = V at *
  clear hV
  have F1 : fstT t = ⟨t.div, t.tima, t.tma, t.tac, 0⟩ := by unfold fstT; rw [if_neg hs]
  have F2 : nextT t = ⟨(t.div + 4) % 65536, t.tima, t.tma, t.tac, 0⟩ := by unfold nextT firstT; rw [if_neg hs]
  have AK : askT t = false := by unfold askT; simpa using hs
  rw [AK]
  rw [F1, F2] at HA
  have d0 := I.d0
  have d1 := I.d1
  obtain ⟨dv, ta, tm, tc, ts⟩ := t
  simp only at HA hs d0 d1 ⊢
  have g1 : (ts == 1) = false := by simpa using hs
  have e1 : IntKind.u16.wrap (dv + 4) = (dv + 4) % 65536 := by rw [IntKind.wrap_u16]
  have X0 : Blk ((w.alloc (.cells ([.int .u16 dv, .int .u8 ta, .int .u8 tm, .int .u8 tc, .int .u8 ts] : List Value).toArray 24)).alloc (.cells ([.int .u16 0, .int .u8 0, .int .u8 0, .int .u8 0, .int .u8 0] : List Value).toArray 24)) w.heap.size 24 [.int .u16 dv, .int .u8 ta, .int .u8 tm, .int .u8 tc, .int .u8 ts] := blk_past (blk_new w _ _) _
  have X1 : Blk ((w.alloc (.cells ([.int .u16 dv, .int .u8 ta, .int .u8 tm, .int .u8 tc, .int .u8 ts] : List Value).toArray 24)).alloc (.cells ([.int .u16 0, .int .u8 0, .int .u8 0, .int .u8 0, .int .u8 0] : List Value).toArray 24)) (w.heap.size + 1) 24 [.int .u16 0, .int .u8 0, .int .u8 0, .int .u8 0, .int .u8 0] := by have q := blk_new (w.alloc (.cells ([.int .u16 dv, .int .u8 ta, .int .u8 tm, .int .u8 tc, .int .u8 ts] : List Value).toArray 24)) [.int .u16 0, .int .u8 0, .int .u8 0, .int .u8 0, .int .u8 0] 24; rw [World.size_alloc] at q; exact q
  have zx : ((w.alloc (.cells ([.int .u16 dv, .int .u8 ta, .int .u8 tm, .int .u8 tc, .int .u8 ts] : List Value).toArray 24)).alloc (.cells ([.int .u16 0, .int .u8 0, .int .u8 0, .int .u8 0, .int .u8 0] : List Value).toArray 24)).heap.size = (w.heap.size + 1 + 1) := by rw [World.size_alloc, World.size_alloc]
  have KX := hid (((Kept.refl w).alloc (.cells ([.int .u16 dv, .int .u8 ta, .int .u8 tm, .int .u8 tc, .int .u8 ts] : List Value).toArray 24)).alloc (.cells ([.int .u16 0, .int .u8 0, .int .u8 0, .int .u8 0, .int .u8 0] : List Value).toArray 24))
  clear F1 F2 AK I lay hs
  go_enter Tryd.func12, Tryd.ntmps12
  go_wp2_with (first
    | (((with_reducible refine at_st 5 ?_); refine wl_store rfl rfl rfl rfl X0 (by kernel_rfl) rfl (Nat.le_of_ble_eq_true rfl) (fun v1 p1 => ?_); have B1 : Blk v1 w.heap.size 24 [.int .u16 dv, .int .u8 ta, .int .u8 tm, .int .u8 tc, .int .u8 0] := p1.blk; have z1 := p1.size; have R1 := p1.other _ _ _ (Nat.succ_ne_self _) X1; have K1 := hid (p1.kept _ KX.out (Nat.le_refl _)); clear p1); have y1 := z1.trans zx; have c1 := blk_cell B1; have l1 := blk_lt R1; clear X0 X1 KX z1 zx))
  refine (HA.out _ (K1.out.alloc _)).mono ?_
  rintro e u5 ⟨rfl, k5⟩
  have R5 := blk_kept k5 (blk_past R1 _)
  have K5 := hid ((K1.out.alloc _).trans k5)
  clear k5 B1 R1 K1 c1 l1
  go_wp2_with ((with_reducible refine at_st 24 ?_); refine wl_store rfl rfl rfl rfl R5 (by kernel_rfl) rfl (Nat.le_of_ble_eq_true rfl) (fun v6 p6 => ?_); have B6 : Blk v6 (w.heap.size + 1) 24 [.int .u16 V.div, .int .u8 V.tima, .int .u8 V.tma, .int .u8 V.tac, .int .u8 V.st] := p6.blk; have z6 := p6.size; have K6 := hid (p6.kept _ K5.out (Nat.le_succ _)); clear p6)
  exact bodyPost_ret (res_cell2 Tryd.results12 rfl B6 Tryd.underlying24 rfl (by kernel_rfl)) rfl ⟨rfl, K6.out⟩
theorem pstep11 (t : Tm) (w : World) (lay : Lay11 w) (I : TmIn t) : Calls Tryd.prog 12 #[tmV t] w fun e w' => e = .returned (.tuple #[tmV (stepT t), .bool (askT t)]) ∧ Kept w w' := by
  by_cases hs : t.st = 1
  · exact pst11_1 t w lay I hs
  · exact pst11_0 t w lay I hs
theorem or248_fin : ∀ a : Fin 256, bits .or .u8 248 (a.val : Int) = 248 + (a.val : Int) % 8 := by decide +kernel
theorem or248 (a : Int) (h0 : 0 ≤ a) (h1 : a ≤ 255) : bits .or .u8 248 a = 248 + a % 8 := fin8 (p := fun a => bits .or .u8 248 a = 248 + a % 8) or248_fin a h0 h1
theorem and7_fin : ∀ a : Fin 256, bits .and .u8 (a.val : Int) 7 = (a.val : Int) % 8 := by decide +kernel
theorem and7_u8 (a : Int) (h0 : 0 ≤ a) (h1 : a ≤ 255) : bits .and .u8 a 7 = a % 8 := fin8 (p := fun a => bits .and .u8 a 7 = a % 8) and7_fin a h0 h1
set_option maxRecDepth 100000 in
set_option maxHeartbeats 4000000 in
theorem pread11 (t : Tm) (a : Int) (w : World) (lay : Lay11 w) (I : TmIn t) (a0 : 0 ≤ a) (a1 : a ≤ 65535) : Calls Tryd.prog 14 #[tmV t, .int .u16 a] w fun e w' => e = .returned (.int .u8 (readT t a)) ∧ Kept w w' := by
  obtain ⟨dv, ta, tm, tc, ts⟩ := t
  have d0 := I.d0
  have d1 := I.d1
  have c0 := I.c0
  have c1 := I.c1
  simp only at c0 c1 d0 d1
  have HA := hid (fun x => split_any dv x d0 d1)
  have e4 : bits .or .u8 248 tc = 248 + tc % 8 := or248 tc c0 c1
  clear I lay
  by_cases q0 : a = 65284
  · subst q0
    have E := hid (show readT ⟨dv, ta, tm, tc, ts⟩ 65284 = dv / 256 from rfl)
    go_enter Tryd.func14, Tryd.ntmps14
    go_wp2_with fail
    refine (HA.out _).mono ?_
    rintro e u ⟨rfl, rfl⟩
    go_wp2
    go_ret
    exact ⟨by rw [E.out]; rfl, (Kept.refl w).alloc _⟩
  by_cases q1 : a = 65285
  · subst q1
    have E := hid (show readT ⟨dv, ta, tm, tc, ts⟩ 65285 = ta from rfl)
    go_enter Tryd.func14, Tryd.ntmps14
    go_wp2
    go_ret
    exact ⟨by rw [E.out]; rfl, (Kept.refl w).alloc _⟩
  by_cases q2 : a = 65286
  · subst q2
    have E := hid (show readT ⟨dv, ta, tm, tc, ts⟩ 65286 = tm from rfl)
    go_enter Tryd.func14, Tryd.ntmps14
    go_wp2
    go_ret
    exact ⟨by rw [E.out]; rfl, (Kept.refl w).alloc _⟩
  by_cases q3 : a = 65287
  · subst q3
    have E := hid (show readT ⟨dv, ta, tm, tc, ts⟩ 65287 = 248 + tc % 8 from rfl)
    go_enter Tryd.func14, Tryd.ntmps14
    go_wp2
    go_ret
    exact ⟨by rw [E.out]; rfl, (Kept.refl w).alloc _⟩
  have E := hid (show readT ⟨dv, ta, tm, tc, ts⟩ a = 255 by unfold readT; rw [if_neg q0, if_neg q1, if_neg q2, if_neg q3])
  have g0 : (a == 65284) = false := by simpa using q0
  have g1 : (a == 65285) = false := by simpa using q1
  have g2 : (a == 65286) = false := by simpa using q2
  have g3 : (a == 65287) = false := by simpa using q3
  go_enter Tryd.func14, Tryd.ntmps14
  go_wp2
  go_ret
  exact ⟨by rw [E.out]; rfl, (Kept.refl w).alloc _⟩
set_option maxRecDepth 100000 in
set_option maxHeartbeats 4000000 in
theorem pwr11_a (t : Tm) (a v z : Int) (V : Tm) (w : World) (I : TmIn t) (v0 : 0 ≤ v) (v1 : v ≤ 255) (ha : a = 65284) (HA : ∀ x, Kept w x → Calls Tryd.prog 23 #[tmV t, tmV (⟨0, t.tima, t.tma, t.tac, t.st⟩ : Tm)] x fun e w' => e = .returned (tmV V) ∧ Kept x w') : Calls Tryd.prog 16 #[tmV t, .int .u16 a, .int .u8 v] w fun e w' => e = .returned (tmV V) ∧ Kept w w' := by
  obtain ⟨dv, ta, tm, tc, ts⟩ := t
  try simp only at HA
  subst ha
  have X0 : Blk ((w.alloc (.cells ([.int .u16 dv, .int .u8 ta, .int .u8 tm, .int .u8 tc, .int .u8 ts] : List Value).toArray 24)).alloc (.cells ([.int .u16 0, .int .u8 0, .int .u8 0, .int .u8 0, .int .u8 0] : List Value).toArray 24)) w.heap.size 24 [.int .u16 dv, .int .u8 ta, .int .u8 tm, .int .u8 tc, .int .u8 ts] := blk_past (blk_new w _ _) _
  have X1 : Blk ((w.alloc (.cells ([.int .u16 dv, .int .u8 ta, .int .u8 tm, .int .u8 tc, .int .u8 ts] : List Value).toArray 24)).alloc (.cells ([.int .u16 0, .int .u8 0, .int .u8 0, .int .u8 0, .int .u8 0] : List Value).toArray 24)) (w.heap.size + 1) 24 [.int .u16 0, .int .u8 0, .int .u8 0, .int .u8 0, .int .u8 0] := by have q := blk_new (w.alloc (.cells ([.int .u16 dv, .int .u8 ta, .int .u8 tm, .int .u8 tc, .int .u8 ts] : List Value).toArray 24)) [.int .u16 0, .int .u8 0, .int .u8 0, .int .u8 0, .int .u8 0] 24; rw [World.size_alloc] at q; exact q
  have KX := hid (((Kept.refl w).alloc (.cells ([.int .u16 dv, .int .u8 ta, .int .u8 tm, .int .u8 tc, .int .u8 ts] : List Value).toArray 24)).alloc (.cells ([.int .u16 0, .int .u8 0, .int .u8 0, .int .u8 0, .int .u8 0] : List Value).toArray 24))
  have HA := hid HA
  clear X0 I
  go_enter Tryd.func16, Tryd.ntmps16
  go_wp2_with fail
  refine (HA.out _ (KX.out.alloc _)).mono ?_
  rintro e u5 ⟨rfl, k5⟩
  have R5 := blk_kept k5 (blk_past X1 _)
  have K5 := hid ((KX.out.alloc _).trans k5)
  clear k5 X1 KX
  go_wp2_with ((with_reducible refine at_st 24 ?_); refine wl_store rfl rfl rfl rfl R5 (by kernel_rfl) rfl (Nat.le_of_ble_eq_true rfl) (fun v6 p6 => ?_); have B6 : Blk v6 (w.heap.size + 1) 24 [.int .u16 V.div, .int .u8 V.tima, .int .u8 V.tma, .int .u8 V.tac, .int .u8 V.st] := p6.blk; have z6 := p6.size; have K6 := hid (p6.kept _ K5.out (Nat.le_succ _)); clear p6)
  exact bodyPost_ret (res_cell Tryd.results16 rfl B6 Tryd.underlying24 rfl (by kernel_rfl)) rfl ⟨rfl, K6.out⟩
set_option maxRecDepth 100000 in
set_option maxHeartbeats 4000000 in
theorem pwr11_b (t : Tm) (a v z : Int) (V : Tm) (w : World) (I : TmIn t) (v0 : 0 ≤ v) (v1 : v ≤ 255) (ha : a = 65285) (HA : ∀ x, Kept w x → Calls Tryd.prog 26 #[tmV t, .int .u8 v] x fun e w' => e = .returned (tmV V) ∧ Kept x w') : Calls Tryd.prog 16 #[tmV t, .int .u16 a, .int .u8 v] w fun e w' => e = .returned (tmV V) ∧ Kept w w' := by
  obtain ⟨dv, ta, tm, tc, ts⟩ := t
  try simp only at HA
  subst ha
  have X0 : Blk ((w.alloc (.cells ([.int .u16 dv, .int .u8 ta, .int .u8 tm, .int .u8 tc, .int .u8 ts] : List Value).toArray 24)).alloc (.cells ([.int .u16 0, .int .u8 0, .int .u8 0, .int .u8 0, .int .u8 0] : List Value).toArray 24)) w.heap.size 24 [.int .u16 dv, .int .u8 ta, .int .u8 tm, .int .u8 tc, .int .u8 ts] := blk_past (blk_new w _ _) _
  have X1 : Blk ((w.alloc (.cells ([.int .u16 dv, .int .u8 ta, .int .u8 tm, .int .u8 tc, .int .u8 ts] : List Value).toArray 24)).alloc (.cells ([.int .u16 0, .int .u8 0, .int .u8 0, .int .u8 0, .int .u8 0] : List Value).toArray 24)) (w.heap.size + 1) 24 [.int .u16 0, .int .u8 0, .int .u8 0, .int .u8 0, .int .u8 0] := by have q := blk_new (w.alloc (.cells ([.int .u16 dv, .int .u8 ta, .int .u8 tm, .int .u8 tc, .int .u8 ts] : List Value).toArray 24)) [.int .u16 0, .int .u8 0, .int .u8 0, .int .u8 0, .int .u8 0] 24; rw [World.size_alloc] at q; exact q
  have KX := hid (((Kept.refl w).alloc (.cells ([.int .u16 dv, .int .u8 ta, .int .u8 tm, .int .u8 tc, .int .u8 ts] : List Value).toArray 24)).alloc (.cells ([.int .u16 0, .int .u8 0, .int .u8 0, .int .u8 0, .int .u8 0] : List Value).toArray 24))
  have HA := hid HA
  clear X0 I
  go_enter Tryd.func16, Tryd.ntmps16
  go_wp2_with fail
  refine (HA.out _ (KX.out.alloc _)).mono ?_
  rintro e u5 ⟨rfl, k5⟩
  have R5 := blk_kept k5 (blk_past X1 _)
  have K5 := hid ((KX.out.alloc _).trans k5)
  clear k5 X1 KX
  go_wp2_with ((with_reducible refine at_st 24 ?_); refine wl_store rfl rfl rfl rfl R5 (by kernel_rfl) rfl (Nat.le_of_ble_eq_true rfl) (fun v6 p6 => ?_); have B6 : Blk v6 (w.heap.size + 1) 24 [.int .u16 V.div, .int .u8 V.tima, .int .u8 V.tma, .int .u8 V.tac, .int .u8 V.st] := p6.blk; have z6 := p6.size; have K6 := hid (p6.kept _ K5.out (Nat.le_succ _)); clear p6)
  exact bodyPost_ret (res_cell Tryd.results16 rfl B6 Tryd.underlying24 rfl (by kernel_rfl)) rfl ⟨rfl, K6.out⟩
set_option maxRecDepth 100000 in
set_option maxHeartbeats 4000000 in
theorem pwr11_c (t : Tm) (a v z : Int) (V : Tm) (w : World) (I : TmIn t) (v0 : 0 ≤ v) (v1 : v ≤ 255) (ha : a = 65286) (HA : ∀ x, Kept w x → Calls Tryd.prog 27 #[tmV t, .int .u8 v] x fun e w' => e = .returned (tmV V) ∧ Kept x w') : Calls Tryd.prog 16 #[tmV t, .int .u16 a, .int .u8 v] w fun e w' => e = .returned (tmV V) ∧ Kept w w' := by
  obtain ⟨dv, ta, tm, tc, ts⟩ := t
  try simp only at HA
  subst ha
  have X0 : Blk ((w.alloc (.cells ([.int .u16 dv, .int .u8 ta, .int .u8 tm, .int .u8 tc, .int .u8 ts] : List Value).toArray 24)).alloc (.cells ([.int .u16 0, .int .u8 0, .int .u8 0, .int .u8 0, .int .u8 0] : List Value).toArray 24)) w.heap.size 24 [.int .u16 dv, .int .u8 ta, .int .u8 tm, .int .u8 tc, .int .u8 ts] := blk_past (blk_new w _ _) _
  have X1 : Blk ((w.alloc (.cells ([.int .u16 dv, .int .u8 ta, .int .u8 tm, .int .u8 tc, .int .u8 ts] : List Value).toArray 24)).alloc (.cells ([.int .u16 0, .int .u8 0, .int .u8 0, .int .u8 0, .int .u8 0] : List Value).toArray 24)) (w.heap.size + 1) 24 [.int .u16 0, .int .u8 0, .int .u8 0, .int .u8 0, .int .u8 0] := by have q := blk_new (w.alloc (.cells ([.int .u16 dv, .int .u8 ta, .int .u8 tm, .int .u8 tc, .int .u8 ts] : List Value).toArray 24)) [.int .u16 0, .int .u8 0, .int .u8 0, .int .u8 0, .int .u8 0] 24; rw [World.size_alloc] at q; exact q
  have KX := hid (((Kept.refl w).alloc (.cells ([.int .u16 dv, .int .u8 ta, .int .u8 tm, .int .u8 tc, .int .u8 ts] : List Value).toArray 24)).alloc (.cells ([.int .u16 0, .int .u8 0, .int .u8 0, .int .u8 0, .int .u8 0] : List Value).toArray 24))
  have HA := hid HA
  clear X0 I
  go_enter Tryd.func16, Tryd.ntmps16
  go_wp2_with fail
  refine (HA.out _ (KX.out.alloc _)).mono ?_
  rintro e u5 ⟨rfl, k5⟩
  have R5 := blk_kept k5 (blk_past X1 _)
  have K5 := hid ((KX.out.alloc _).trans k5)
  clear k5 X1 KX
  go_wp2_with ((with_reducible refine at_st 24 ?_); refine wl_store rfl rfl rfl rfl R5 (by kernel_rfl) rfl (Nat.le_of_ble_eq_true rfl) (fun v6 p6 => ?_); have B6 : Blk v6 (w.heap.size + 1) 24 [.int .u16 V.div, .int .u8 V.tima, .int .u8 V.tma, .int .u8 V.tac, .int .u8 V.st] := p6.blk; have z6 := p6.size; have K6 := hid (p6.kept _ K5.out (Nat.le_succ _)); clear p6)
  exact bodyPost_ret (res_cell Tryd.results16 rfl B6 Tryd.underlying24 rfl (by kernel_rfl)) rfl ⟨rfl, K6.out⟩
set_option maxRecDepth 100000 in
set_option maxHeartbeats 4000000 in
theorem pwr11_d (t : Tm) (a v z : Int) (V : Tm) (w : World) (I : TmIn t) (v0 : 0 ≤ v) (v1 : v ≤ 255) (ha : a = 65287) (HA : ∀ x, Kept w x → Calls Tryd.prog 23 #[tmV t, tmV (⟨t.div, t.tima, t.tma, v % 8, t.st⟩ : Tm)] x fun e w' => e = .returned (tmV V) ∧ Kept x w') : Calls Tryd.prog 16 #[tmV t, .int .u16 a, .int .u8 v] w fun e w' => e = .returned (tmV V) ∧ Kept w w' := by
  obtain ⟨dv, ta, tm, tc, ts⟩ := t
  try simp only at HA
  subst ha
  have m7 := and7_u8 v v0 v1
  have X0 : Blk ((w.alloc (.cells ([.int .u16 dv, .int .u8 ta, .int .u8 tm, .int .u8 tc, .int .u8 ts] : List Value).toArray 24)).alloc (.cells ([.int .u16 0, .int .u8 0, .int .u8 0, .int .u8 0, .int .u8 0] : List Value).toArray 24)) w.heap.size 24 [.int .u16 dv, .int .u8 ta, .int .u8 tm, .int .u8 tc, .int .u8 ts] := blk_past (blk_new w _ _) _
  have X1 : Blk ((w.alloc (.cells ([.int .u16 dv, .int .u8 ta, .int .u8 tm, .int .u8 tc, .int .u8 ts] : List Value).toArray 24)).alloc (.cells ([.int .u16 0, .int .u8 0, .int .u8 0, .int .u8 0, .int .u8 0] : List Value).toArray 24)) (w.heap.size + 1) 24 [.int .u16 0, .int .u8 0, .int .u8 0, .int .u8 0, .int .u8 0] := by have q := blk_new (w.alloc (.cells ([.int .u16 dv, .int .u8 ta, .int .u8 tm, .int .u8 tc, .int .u8 ts] : List Value).toArray 24)) [.int .u16 0, .int .u8 0, .int .u8 0, .int .u8 0, .int .u8 0] 24; rw [World.size_alloc] at q; exact q
  have KX := hid (((Kept.refl w).alloc (.cells ([.int .u16 dv, .int .u8 ta, .int .u8 tm, .int .u8 tc, .int .u8 ts] : List Value).toArray 24)).alloc (.cells ([.int .u16 0, .int .u8 0, .int .u8 0, .int .u8 0, .int .u8 0] : List Value).toArray 24))
  have HA := hid HA
  clear X0 I
  go_enter Tryd.func16, Tryd.ntmps16
  go_wp2_with fail
  refine (HA.out _ (KX.out.alloc _)).mono ?_
  rintro e u5 ⟨rfl, k5⟩
  have R5 := blk_kept k5 (blk_past X1 _)
  have K5 := hid ((KX.out.alloc _).trans k5)
  clear k5 X1 KX
  go_wp2_with ((with_reducible refine at_st 24 ?_); refine wl_store rfl rfl rfl rfl R5 (by kernel_rfl) rfl (Nat.le_of_ble_eq_true rfl) (fun v6 p6 => ?_); have B6 : Blk v6 (w.heap.size + 1) 24 [.int .u16 V.div, .int .u8 V.tima, .int .u8 V.tma, .int .u8 V.tac, .int .u8 V.st] := p6.blk; have z6 := p6.size; have K6 := hid (p6.kept _ K5.out (Nat.le_succ _)); clear p6)
  exact bodyPost_ret (res_cell Tryd.results16 rfl B6 Tryd.underlying24 rfl (by kernel_rfl)) rfl ⟨rfl, K6.out⟩
set_option maxRecDepth 100000 in
set_option maxHeartbeats 4000000 in
theorem pwr11_e (t : Tm) (a v z : Int) (V : Tm) (w : World) (I : TmIn t) (v0 : 0 ≤ v) (v1 : v ≤ 255) (q0 : a ≠ 65284) (q1 : a ≠ 65285) (q2 : a ≠ 65286) (q3 : a ≠ 65287) (HA : ∀ x, Kept w x → Calls Tryd.prog 23 #[tmV t, tmV t] x fun e w' => e = .returned (tmV V) ∧ Kept x w') : Calls Tryd.prog 16 #[tmV t, .int .u16 a, .int .u8 v] w fun e w' => e = .returned (tmV V) ∧ Kept w w' := by
  obtain ⟨dv, ta, tm, tc, ts⟩ := t
  try simp only at HA
  have g0 : (a == 65284) = false := by simpa using q0
  have g1 : (a == 65285) = false := by simpa using q1
  have g2 : (a == 65286) = false := by simpa using q2
  have g3 : (a == 65287) = false := by simpa using q3
  have X0 : Blk ((w.alloc (.cells ([.int .u16 dv, .int .u8 ta, .int .u8 tm, .int .u8 tc, .int .u8 ts] : List Value).toArray 24)).alloc (.cells ([.int .u16 0, .int .u8 0, .int .u8 0, .int .u8 0, .int .u8 0] : List Value).toArray 24)) w.heap.size 24 [.int .u16 dv, .int .u8 ta, .int .u8 tm, .int .u8 tc, .int .u8 ts] := blk_past (blk_new w _ _) _
  have X1 : Blk ((w.alloc (.cells ([.int .u16 dv, .int .u8 ta, .int .u8 tm, .int .u8 tc, .int .u8 ts] : List Value).toArray 24)).alloc (.cells ([.int .u16 0, .int .u8 0, .int .u8 0, .int .u8 0, .int .u8 0] : List Value).toArray 24)) (w.heap.size + 1) 24 [.int .u16 0, .int .u8 0, .int .u8 0, .int .u8 0, .int .u8 0] := by have q := blk_new (w.alloc (.cells ([.int .u16 dv, .int .u8 ta, .int .u8 tm, .int .u8 tc, .int .u8 ts] : List Value).toArray 24)) [.int .u16 0, .int .u8 0, .int .u8 0, .int .u8 0, .int .u8 0] 24; rw [World.size_alloc] at q; exact q
  have KX := hid (((Kept.refl w).alloc (.cells ([.int .u16 dv, .int .u8 ta, .int .u8 tm, .int .u8 tc, .int .u8 ts] : List Value).toArray 24)).alloc (.cells ([.int .u16 0, .int .u8 0, .int .u8 0, .int .u8 0, .int .u8 0] : List Value).toArray 24))
  have HA := hid HA
  clear X0 I
  go_enter Tryd.func16, Tryd.ntmps16
  go_wp2_with fail
  refine (HA.out _ (KX.out.alloc _)).mono ?_
  rintro e u5 ⟨rfl, k5⟩
  have R5 := blk_kept k5 (blk_past X1 _)
  have K5 := hid ((KX.out.alloc _).trans k5)
  clear k5 X1 KX
  go_wp2_with ((with_reducible refine at_st 24 ?_); refine wl_store rfl rfl rfl rfl R5 (by kernel_rfl) rfl (Nat.le_of_ble_eq_true rfl) (fun v6 p6 => ?_); have B6 : Blk v6 (w.heap.size + 1) 24 [.int .u16 V.div, .int .u8 V.tima, .int .u8 V.tma, .int .u8 V.tac, .int .u8 V.st] := p6.blk; have z6 := p6.size; have K6 := hid (p6.kept _ K5.out (Nat.le_succ _)); clear p6)
  exact bodyPost_ret (res_cell Tryd.results16 rfl B6 Tryd.underlying24 rfl (by kernel_rfl)) rfl ⟨rfl, K6.out⟩
theorem pw_in0 {t : Tm} (I : TmIn t) : TmIn (⟨0, t.tima, t.tma, t.tac, t.st⟩ : Tm) := ⟨Int.le_refl 0, (by decide : (0 : Int) ≤ 65535), I.a0, I.a1, I.m0, I.m1, I.c0, I.c1, I.s0, I.s1⟩
theorem pw_in8 {t : Tm} (I : TmIn t) {v : Int} (v0 : 0 ≤ v) : TmIn (⟨t.div, t.tima, t.tma, v % 8, t.st⟩ : Tm) := ⟨I.d0, I.d1, I.a0, I.a1, I.m0, I.m1, by show 0 ≤ v % 8; omega, by show v % 8 ≤ 255; omega, I.s0, I.s1⟩
theorem fall_self (t : Tm) : fallT t t = t := by
  unfold fallT
  split
  · rename_i h
    rw [h.1] at h
    exact absurd h.2 (by decide)
  · rfl
theorem pwrite11 (t : Tm) (a v : Int) (w : World) (lay : Lay11 w) (I : TmIn t) (a0 : 0 ≤ a) (a1 : a ≤ 65535) (v0 : 0 ≤ v) (v1 : v ≤ 255) : Calls Tryd.prog 16 #[tmV t, .int .u16 a, .int .u8 v] w fun e w' => e = .returned (tmV (writeT t a v)) ∧ Kept w w' := by
  by_cases q0 : a = 65284
  · have E : writeT t a v = fallT t (⟨0, t.tima, t.tma, t.tac, t.st⟩ : Tm) := by subst q0; rfl
    rw [E]
    exact pwr11_a t a v 0 _ w I v0 v1 q0 (fun x k => pcounted11 t (⟨0, t.tima, t.tma, t.tac, t.st⟩ : Tm) x (lay11_kept lay k) I (pw_in0 I))
  by_cases q1 : a = 65285
  · by_cases h1 : t.st = 1
    · have E : writeT t a v = ⟨t.div, v, t.tma, t.tac, 0⟩ := by unfold writeT; rw [if_neg q0, if_pos q1, if_pos h1]
      rw [E]
      exact pwr11_b t a v 0 _ w I v0 v1 q1 (fun x k => pwa11_1 t v x h1)
    · by_cases h2 : t.st = 2
      · have E : writeT t a v = t := by unfold writeT; rw [if_neg q0, if_pos q1, if_neg h1, if_pos h2]
        rw [E]
        exact pwr11_b t a v 0 _ w I v0 v1 q1 (fun x k => pwa11_2 t v x h2)
      · have E : writeT t a v = ⟨t.div, v, t.tma, t.tac, t.st⟩ := by unfold writeT; rw [if_neg q0, if_pos q1, if_neg h1, if_neg h2]
        rw [E]
        exact pwr11_b t a v 0 _ w I v0 v1 q1 (fun x k => pwa11_0 t v x h1 h2)
  by_cases q2 : a = 65286
  · by_cases h2 : t.st = 2
    · have E : writeT t a v = ⟨t.div, v, v, t.tac, t.st⟩ := by unfold writeT; rw [if_neg q0, if_neg q1, if_pos q2, if_pos h2]
      rw [E]
      exact pwr11_c t a v 0 _ w I v0 v1 q2 (fun x k => pwm11_2 t v x h2)
    · have E : writeT t a v = ⟨t.div, t.tima, v, t.tac, t.st⟩ := by unfold writeT; rw [if_neg q0, if_neg q1, if_pos q2, if_neg h2]
      rw [E]
      exact pwr11_c t a v 0 _ w I v0 v1 q2 (fun x k => pwm11_0 t v x h2)
  by_cases q3 : a = 65287
  · have E : writeT t a v = fallT t (⟨t.div, t.tima, t.tma, v % 8, t.st⟩ : Tm) := by subst q3; rfl
    rw [E]
    exact pwr11_d t a v 0 _ w I v0 v1 q3 (fun x k => pcounted11 t (⟨t.div, t.tima, t.tma, v % 8, t.st⟩ : Tm) x (lay11_kept lay k) I (pw_in8 I v0))
  have E : writeT t a v = fallT t t := by rw [fall_self]; unfold writeT; rw [if_neg q0, if_neg q1, if_neg q2, if_neg q3]
  rw [E]
  exact pwr11_e t a v 0 _ w I v0 v1 q0 q1 q2 q3 (fun x k => pcounted11 t t x (lay11_kept lay k) I I)
end Go.Proofs.YthjpngfbabeboaaDoor
