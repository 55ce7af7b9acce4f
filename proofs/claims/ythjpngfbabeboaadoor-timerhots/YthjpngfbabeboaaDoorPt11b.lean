/- The program's counted. -/
import Derived.Test.YthjpngfbabeboaaDoorPt11a
namespace Go.Proofs.YthjpngfbabeboaaDoor
open Go.ChangeShapes Go.WideShapes Go.ChangeAt Go.RowKit
set_option linter.unusedVariables false
set_option linter.unusedSimpArgs false

set_option maxRecDepth 100000 in
set_option maxHeartbeats 4000000 in
theorem pcnt11_0 (t u : Tm) (w : World) (lay : Lay11 w) (I : TmIn t) (J : TmIn u) (h1 : hotT t = false) : Calls Tryd.prog 23 #[tmV t, tmV u] w fun e w' => e = .returned (tmV (fallT t u)) ∧ Kept w w' := by
  have E : fallT t u = u := by unfold fallT; rw [if_neg (by rw [h1]; simp)]
  rw [E]
  have HA := hid (fun x (k : Kept w x) => phot11 t x (lay11_kept lay k) I)
  rw [h1] at HA
  have b0 := J.a0
  have b1 := J.a1
  obtain ⟨dv, ta, tm, tc, ts⟩ := u
  simp only at b0 b1 ⊢
  clear E I J lay h1
  have X0 : Blk (((w.alloc (.cells ([.int .u16 t.div, .int .u8 t.tima, .int .u8 t.tma, .int .u8 t.tac, .int .u8 t.st] : List Value).toArray 24)).alloc (.cells ([.int .u16 dv, .int .u8 ta, .int .u8 tm, .int .u8 tc, .int .u8 ts] : List Value).toArray 24)).alloc (.cells ([.int .u16 0, .int .u8 0, .int .u8 0, .int .u8 0, .int .u8 0] : List Value).toArray 24)) w.heap.size 24 [.int .u16 t.div, .int .u8 t.tima, .int .u8 t.tma, .int .u8 t.tac, .int .u8 t.st] := blk_past (blk_past (blk_new w _ _) _) _
  have X1 : Blk (((w.alloc (.cells ([.int .u16 t.div, .int .u8 t.tima, .int .u8 t.tma, .int .u8 t.tac, .int .u8 t.st] : List Value).toArray 24)).alloc (.cells ([.int .u16 dv, .int .u8 ta, .int .u8 tm, .int .u8 tc, .int .u8 ts] : List Value).toArray 24)).alloc (.cells ([.int .u16 0, .int .u8 0, .int .u8 0, .int .u8 0, .int .u8 0] : List Value).toArray 24)) (w.heap.size + 1) 24 [.int .u16 dv, .int .u8 ta, .int .u8 tm, .int .u8 tc, .int .u8 ts] := blk_past (by have q := blk_new (w.alloc (.cells ([.int .u16 t.div, .int .u8 t.tima, .int .u8 t.tma, .int .u8 t.tac, .int .u8 t.st] : List Value).toArray 24)) [.int .u16 dv, .int .u8 ta, .int .u8 tm, .int .u8 tc, .int .u8 ts] 24; rw [World.size_alloc] at q; exact q) _
  have X2 : Blk (((w.alloc (.cells ([.int .u16 t.div, .int .u8 t.tima, .int .u8 t.tma, .int .u8 t.tac, .int .u8 t.st] : List Value).toArray 24)).alloc (.cells ([.int .u16 dv, .int .u8 ta, .int .u8 tm, .int .u8 tc, .int .u8 ts] : List Value).toArray 24)).alloc (.cells ([.int .u16 0, .int .u8 0, .int .u8 0, .int .u8 0, .int .u8 0] : List Value).toArray 24)) (w.heap.size + 1 + 1) 24 [.int .u16 0, .int .u8 0, .int .u8 0, .int .u8 0, .int .u8 0] := by have q := blk_new ((w.alloc (.cells ([.int .u16 t.div, .int .u8 t.tima, .int .u8 t.tma, .int .u8 t.tac, .int .u8 t.st] : List Value).toArray 24)).alloc (.cells ([.int .u16 dv, .int .u8 ta, .int .u8 tm, .int .u8 tc, .int .u8 ts] : List Value).toArray 24)) [.int .u16 0, .int .u8 0, .int .u8 0, .int .u8 0, .int .u8 0] 24; rw [World.size_alloc, World.size_alloc] at q; exact q
  have KX := hid ((((Kept.refl w).alloc (.cells ([.int .u16 t.div, .int .u8 t.tima, .int .u8 t.tma, .int .u8 t.tac, .int .u8 t.st] : List Value).toArray 24)).alloc (.cells ([.int .u16 dv, .int .u8 ta, .int .u8 tm, .int .u8 tc, .int .u8 ts] : List Value).toArray 24)).alloc (.cells ([.int .u16 0, .int .u8 0, .int .u8 0, .int .u8 0, .int .u8 0] : List Value).toArray 24))
  go_enter Tryd.func23, Tryd.ntmps23
  go_wp2_with fail
  refine (HA.out _ KX.out).mono ?_
  rintro e u1 ⟨rfl, k1⟩
  have Y0 := blk_kept k1 X0
  have Y1 := blk_kept k1 X1
  have Y2 := blk_kept k1 X2
  have KY := hid (KX.out.trans k1)
  have c1 := blk_cell Y1
  have l2 := blk_lt Y2
  clear k1 X0 X1 X2 KX
  go_wp2_with ((with_reducible refine at_st 24 ?_); refine wl_store rfl rfl rfl rfl Y2 (by kernel_rfl) rfl (Nat.le_of_ble_eq_true rfl) (fun v1 p1 => ?_); have B1 : Blk v1 (w.heap.size + 1 + 1) 24 [.int .u16 dv, .int .u8 ta, .int .u8 tm, .int .u8 tc, .int .u8 ts] := p1.blk; have z1 := p1.size; have K1 := hid (p1.kept _ KY.out (by omega)); clear p1)
  exact bodyPost_ret (res_cell Tryd.results23 rfl B1 Tryd.underlying24 rfl (by kernel_rfl)) rfl ⟨rfl, K1.out⟩
set_option maxRecDepth 100000 in
set_option maxHeartbeats 4000000 in
theorem pcnt11_1 (t u : Tm) (w : World) (lay : Lay11 w) (I : TmIn t) (J : TmIn u) (h1 : hotT t = true) (h2 : hotT u = true) : Calls Tryd.prog 23 #[tmV t, tmV u] w fun e w' => e = .returned (tmV (fallT t u)) ∧ Kept w w' := by
  have E : fallT t u = u := by unfold fallT; rw [if_neg (by rw [h2]; simp)]
  rw [E]
  have HA := hid (fun x (k : Kept w x) => phot11 t x (lay11_kept lay k) I)
  rw [h1] at HA
  have HB := hid (fun x (k : Kept w x) => phot11 u x (lay11_kept lay k) J)
  rw [h2] at HB
  have b0 := J.a0
  have b1 := J.a1
  obtain ⟨dv, ta, tm, tc, ts⟩ := u
  simp only at b0 b1 HB ⊢
  clear E I J lay h1 h2
  have X0 : Blk (((w.alloc (.cells ([.int .u16 t.div, .int .u8 t.tima, .int .u8 t.tma, .int .u8 t.tac, .int .u8 t.st] : List Value).toArray 24)).alloc (.cells ([.int .u16 dv, .int .u8 ta, .int .u8 tm, .int .u8 tc, .int .u8 ts] : List Value).toArray 24)).alloc (.cells ([.int .u16 0, .int .u8 0, .int .u8 0, .int .u8 0, .int .u8 0] : List Value).toArray 24)) w.heap.size 24 [.int .u16 t.div, .int .u8 t.tima, .int .u8 t.tma, .int .u8 t.tac, .int .u8 t.st] := blk_past (blk_past (blk_new w _ _) _) _
  have X1 : Blk (((w.alloc (.cells ([.int .u16 t.div, .int .u8 t.tima, .int .u8 t.tma, .int .u8 t.tac, .int .u8 t.st] : List Value).toArray 24)).alloc (.cells ([.int .u16 dv, .int .u8 ta, .int .u8 tm, .int .u8 tc, .int .u8 ts] : List Value).toArray 24)).alloc (.cells ([.int .u16 0, .int .u8 0, .int .u8 0, .int .u8 0, .int .u8 0] : List Value).toArray 24)) (w.heap.size + 1) 24 [.int .u16 dv, .int .u8 ta, .int .u8 tm, .int .u8 tc, .int .u8 ts] := blk_past (by have q := blk_new (w.alloc (.cells ([.int .u16 t.div, .int .u8 t.tima, .int .u8 t.tma, .int .u8 t.tac, .int .u8 t.st] : List Value).toArray 24)) [.int .u16 dv, .int .u8 ta, .int .u8 tm, .int .u8 tc, .int .u8 ts] 24; rw [World.size_alloc] at q; exact q) _
  have X2 : Blk (((w.alloc (.cells ([.int .u16 t.div, .int .u8 t.tima, .int .u8 t.tma, .int .u8 t.tac, .int .u8 t.st] : List Value).toArray 24)).alloc (.cells ([.int .u16 dv, .int .u8 ta, .int .u8 tm, .int .u8 tc, .int .u8 ts] : List Value).toArray 24)).alloc (.cells ([.int .u16 0, .int .u8 0, .int .u8 0, .int .u8 0, .int .u8 0] : List Value).toArray 24)) (w.heap.size + 1 + 1) 24 [.int .u16 0, .int .u8 0, .int .u8 0, .int .u8 0, .int .u8 0] := by have q := blk_new ((w.alloc (.cells ([.int .u16 t.div, .int .u8 t.tima, .int .u8 t.tma, .int .u8 t.tac, .int .u8 t.st] : List Value).toArray 24)).alloc (.cells ([.int .u16 dv, .int .u8 ta, .int .u8 tm, .int .u8 tc, .int .u8 ts] : List Value).toArray 24)) [.int .u16 0, .int .u8 0, .int .u8 0, .int .u8 0, .int .u8 0] 24; rw [World.size_alloc, World.size_alloc] at q; exact q
  have KX := hid ((((Kept.refl w).alloc (.cells ([.int .u16 t.div, .int .u8 t.tima, .int .u8 t.tma, .int .u8 t.tac, .int .u8 t.st] : List Value).toArray 24)).alloc (.cells ([.int .u16 dv, .int .u8 ta, .int .u8 tm, .int .u8 tc, .int .u8 ts] : List Value).toArray 24)).alloc (.cells ([.int .u16 0, .int .u8 0, .int .u8 0, .int .u8 0, .int .u8 0] : List Value).toArray 24))
  go_enter Tryd.func23, Tryd.ntmps23
  go_wp2_with fail
  refine (HA.out _ KX.out).mono ?_
  rintro e u1 ⟨rfl, k1⟩
  have Y0 := blk_kept k1 X0
  have Y1 := blk_kept k1 X1
  have Y2 := blk_kept k1 X2
  have KY := hid (KX.out.trans k1)
  have c1 := blk_cell Y1
  have l2 := blk_lt Y2
  clear k1 X0 X1 X2 KX
  go_wp2_with fail
  refine (HB.out _ KY.out).mono ?_
  rintro e u2 ⟨rfl, k2⟩
  have Z1 := blk_kept k2 Y1
  have Z2 := blk_kept k2 Y2
  have KZ := hid (KY.out.trans k2)
  have c1 := blk_cell Z1
  have l2 := blk_lt Z2
  clear k2 Y0 Y1 Y2 KY
  go_wp2_with ((with_reducible refine at_st 24 ?_); refine wl_store rfl rfl rfl rfl Z2 (by kernel_rfl) rfl (Nat.le_of_ble_eq_true rfl) (fun v1 p1 => ?_); have B1 : Blk v1 (w.heap.size + 1 + 1) 24 [.int .u16 dv, .int .u8 ta, .int .u8 tm, .int .u8 tc, .int .u8 ts] := p1.blk; have z1 := p1.size; have K1 := hid (p1.kept _ KZ.out (by omega)); clear p1)
  exact bodyPost_ret (res_cell Tryd.results23 rfl B1 Tryd.underlying24 rfl (by kernel_rfl)) rfl ⟨rfl, K1.out⟩
set_option maxRecDepth 100000 in
set_option maxHeartbeats 4000000 in
theorem pcnt11_2 (t u : Tm) (w : World) (lay : Lay11 w) (I : TmIn t) (J : TmIn u) (h1 : hotT t = true) (h2 : hotT u = false) (q : u.tima = 255) : Calls Tryd.prog 23 #[tmV t, tmV u] w fun e w' => e = .returned (tmV (fallT t u)) ∧ Kept w w' := by
  have E : fallT t u = countT u := by unfold fallT; rw [if_pos ⟨h1, h2⟩]
  rw [E]
  have E2 : countT u = ⟨u.div, 0, u.tma, u.tac, 1⟩ := by unfold countT; rw [if_pos q]
  rw [E2]
  clear E2
  have HA := hid (fun x (k : Kept w x) => phot11 t x (lay11_kept lay k) I)
  rw [h1] at HA
  have HB := hid (fun x (k : Kept w x) => phot11 u x (lay11_kept lay k) J)
  rw [h2] at HB
  have b0 := J.a0
  have b1 := J.a1
  obtain ⟨dv, ta, tm, tc, ts⟩ := u
  simp only at b0 b1 HB q ⊢
  subst q
  clear E I J lay h1 h2
  have X0 : Blk (((w.alloc (.cells ([.int .u16 t.div, .int .u8 t.tima, .int .u8 t.tma, .int .u8 t.tac, .int .u8 t.st] : List Value).toArray 24)).alloc (.cells ([.int .u16 dv, .int .u8 255, .int .u8 tm, .int .u8 tc, .int .u8 ts] : List Value).toArray 24)).alloc (.cells ([.int .u16 0, .int .u8 0, .int .u8 0, .int .u8 0, .int .u8 0] : List Value).toArray 24)) w.heap.size 24 [.int .u16 t.div, .int .u8 t.tima, .int .u8 t.tma, .int .u8 t.tac, .int .u8 t.st] := blk_past (blk_past (blk_new w _ _) _) _
  have X1 : Blk (((w.alloc (.cells ([.int .u16 t.div, .int .u8 t.tima, .int .u8 t.tma, .int .u8 t.tac, .int .u8 t.st] : List Value).toArray 24)).alloc (.cells ([.int .u16 dv, .int .u8 255, .int .u8 tm, .int .u8 tc, .int .u8 ts] : List Value).toArray 24)).alloc (.cells ([.int .u16 0, .int .u8 0, .int .u8 0, .int .u8 0, .int .u8 0] : List Value).toArray 24)) (w.heap.size + 1) 24 [.int .u16 dv, .int .u8 255, .int .u8 tm, .int .u8 tc, .int .u8 ts] := blk_past (by have q := blk_new (w.alloc (.cells ([.int .u16 t.div, .int .u8 t.tima, .int .u8 t.tma, .int .u8 t.tac, .int .u8 t.st] : List Value).toArray 24)) [.int .u16 dv, .int .u8 255, .int .u8 tm, .int .u8 tc, .int .u8 ts] 24; rw [World.size_alloc] at q; exact q) _
  have X2 : Blk (((w.alloc (.cells ([.int .u16 t.div, .int .u8 t.tima, .int .u8 t.tma, .int .u8 t.tac, .int .u8 t.st] : List Value).toArray 24)).alloc (.cells ([.int .u16 dv, .int .u8 255, .int .u8 tm, .int .u8 tc, .int .u8 ts] : List Value).toArray 24)).alloc (.cells ([.int .u16 0, .int .u8 0, .int .u8 0, .int .u8 0, .int .u8 0] : List Value).toArray 24)) (w.heap.size + 1 + 1) 24 [.int .u16 0, .int .u8 0, .int .u8 0, .int .u8 0, .int .u8 0] := by have q := blk_new ((w.alloc (.cells ([.int .u16 t.div, .int .u8 t.tima, .int .u8 t.tma, .int .u8 t.tac, .int .u8 t.st] : List Value).toArray 24)).alloc (.cells ([.int .u16 dv, .int .u8 255, .int .u8 tm, .int .u8 tc, .int .u8 ts] : List Value).toArray 24)) [.int .u16 0, .int .u8 0, .int .u8 0, .int .u8 0, .int .u8 0] 24; rw [World.size_alloc, World.size_alloc] at q; exact q
  have KX := hid ((((Kept.refl w).alloc (.cells ([.int .u16 t.div, .int .u8 t.tima, .int .u8 t.tma, .int .u8 t.tac, .int .u8 t.st] : List Value).toArray 24)).alloc (.cells ([.int .u16 dv, .int .u8 255, .int .u8 tm, .int .u8 tc, .int .u8 ts] : List Value).toArray 24)).alloc (.cells ([.int .u16 0, .int .u8 0, .int .u8 0, .int .u8 0, .int .u8 0] : List Value).toArray 24))
  go_enter Tryd.func23, Tryd.ntmps23
  go_wp2_with fail
  refine (HA.out _ KX.out).mono ?_
  rintro e u1 ⟨rfl, k1⟩
  have Y0 := blk_kept k1 X0
  have Y1 := blk_kept k1 X1
  have Y2 := blk_kept k1 X2
  have KY := hid (KX.out.trans k1)
  have c1 := blk_cell Y1
  have l2 := blk_lt Y2
  clear k1 X0 X1 X2 KX
  go_wp2_with fail
  refine (HB.out _ KY.out).mono ?_
  rintro e u2 ⟨rfl, k2⟩
  have Z1 := blk_kept k2 Y1
  have Z2 := blk_kept k2 Y2
  have KZ := hid (KY.out.trans k2)
  have c1 := blk_cell Z1
  have l2 := blk_lt Z2
  clear k2 Y0 Y1 Y2 KY
  go_wp2_with (first
    | (((with_reducible refine at_st 5 ?_); refine wl_store rfl rfl rfl rfl Z1 (by kernel_rfl) rfl (Nat.le_of_ble_eq_true rfl) (fun v1 p1 => ?_); have B1 : Blk v1 (w.heap.size + 1) 24 [.int .u16 dv, .int .u8 0, .int .u8 tm, .int .u8 tc, .int .u8 ts] := p1.blk; have z1 := p1.size; have R1 := p1.other _ _ _ (by intro e; omega) Z2; have K1 := hid (p1.kept _ KZ.out (by omega)); clear p1); have c2 := blk_cell B1; have l3 := blk_lt R1; clear Z1 Z2 KZ c1 l2 z1)
    | (((with_reducible refine at_st 5 ?_); refine wl_store rfl rfl rfl rfl B1 (by kernel_rfl) rfl (Nat.le_of_ble_eq_true rfl) (fun v2 p2 => ?_); have B2 : Blk v2 (w.heap.size + 1) 24 [.int .u16 dv, .int .u8 0, .int .u8 tm, .int .u8 tc, .int .u8 1] := p2.blk; have z2 := p2.size; have R2 := p2.other _ _ _ (by intro e; omega) R1; have K2 := hid (p2.kept _ K1.out (by omega)); clear p2); have c3 := blk_cell B2; have l4 := blk_lt R2; clear B1 R1 K1 c2 l3 z2)
    | ((with_reducible refine at_st 24 ?_); refine wl_store rfl rfl rfl rfl R2 (by kernel_rfl) rfl (Nat.le_of_ble_eq_true rfl) (fun v3 p3 => ?_); have B3 : Blk v3 (w.heap.size + 1 + 1) 24 [.int .u16 dv, .int .u8 0, .int .u8 tm, .int .u8 tc, .int .u8 1] := p3.blk; have z3 := p3.size; have K3 := hid (p3.kept _ K2.out (by omega)); clear p3))
  exact bodyPost_ret (res_cell Tryd.results23 rfl B3 Tryd.underlying24 rfl (by kernel_rfl)) rfl ⟨rfl, K3.out⟩
set_option maxRecDepth 100000 in
set_option maxHeartbeats 4000000 in
theorem pcnt11_3 (t u : Tm) (w : World) (lay : Lay11 w) (I : TmIn t) (J : TmIn u) (h1 : hotT t = true) (h2 : hotT u = false) (q : u.tima ≠ 255) : Calls Tryd.prog 23 #[tmV t, tmV u] w fun e w' => e = .returned (tmV (fallT t u)) ∧ Kept w w' := by
  have E : fallT t u = countT u := by unfold fallT; rw [if_pos ⟨h1, h2⟩]
  rw [E]
  have E2 : countT u = ⟨u.div, u.tima + 1, u.tma, u.tac, u.st⟩ := by unfold countT; rw [if_neg q]
  rw [E2]
  clear E2
  have HA := hid (fun x (k : Kept w x) => phot11 t x (lay11_kept lay k) I)
  rw [h1] at HA
  have HB := hid (fun x (k : Kept w x) => phot11 u x (lay11_kept lay k) J)
  rw [h2] at HB
  have b0 := J.a0
  have b1 := J.a1
  obtain ⟨dv, ta, tm, tc, ts⟩ := u
  simp only at b0 b1 HB q ⊢
  have e : IntKind.u8.wrap (ta + 1) = ta + 1 := by rw [IntKind.wrap_u8]; omega
  have e1 : (ta + 1 == 0) = false := by simp; omega
  clear E I J lay h1 h2
  have X0 : Blk (((w.alloc (.cells ([.int .u16 t.div, .int .u8 t.tima, .int .u8 t.tma, .int .u8 t.tac, .int .u8 t.st] : List Value).toArray 24)).alloc (.cells ([.int .u16 dv, .int .u8 ta, .int .u8 tm, .int .u8 tc, .int .u8 ts] : List Value).toArray 24)).alloc (.cells ([.int .u16 0, .int .u8 0, .int .u8 0, .int .u8 0, .int .u8 0] : List Value).toArray 24)) w.heap.size 24 [.int .u16 t.div, .int .u8 t.tima, .int .u8 t.tma, .int .u8 t.tac, .int .u8 t.st] := blk_past (blk_past (blk_new w _ _) _) _
  have X1 : Blk (((w.alloc (.cells ([.int .u16 t.div, .int .u8 t.tima, .int .u8 t.tma, .int .u8 t.tac, .int .u8 t.st] : List Value).toArray 24)).alloc (.cells ([.int .u16 dv, .int .u8 ta, .int .u8 tm, .int .u8 tc, .int .u8 ts] : List Value).toArray 24)).alloc (.cells ([.int .u16 0, .int .u8 0, .int .u8 0, .int .u8 0, .int .u8 0] : List Value).toArray 24)) (w.heap.size + 1) 24 [.int .u16 dv, .int .u8 ta, .int .u8 tm, .int .u8 tc, .int .u8 ts] := blk_past (by have q := blk_new (w.alloc (.cells ([.int .u16 t.div, .int .u8 t.tima, .int .u8 t.tma, .int .u8 t.tac, .int .u8 t.st] : List Value).toArray 24)) [.int .u16 dv, .int .u8 ta, .int .u8 tm, .int .u8 tc, .int .u8 ts] 24; rw [World.size_alloc] at q; exact q) _
  have X2 : Blk (((w.alloc (.cells ([.int .u16 t.div, .int .u8 t.tima, .int .u8 t.tma, .int .u8 t.tac, .int .u8 t.st] : List Value).toArray 24)).alloc (.cells ([.int .u16 dv, .int .u8 ta, .int .u8 tm, .int .u8 tc, .int .u8 ts] : List Value).toArray 24)).alloc (.cells ([.int .u16 0, .int .u8 0, .int .u8 0, .int .u8 0, .int .u8 0] : List Value).toArray 24)) (w.heap.size + 1 + 1) 24 [.int .u16 0, .int .u8 0, .int .u8 0, .int .u8 0, .int .u8 0] := by have q := blk_new ((w.alloc (.cells ([.int .u16 t.div, .int .u8 t.tima, .int .u8 t.tma, .int .u8 t.tac, .int .u8 t.st] : List Value).toArray 24)).alloc (.cells ([.int .u16 dv, .int .u8 ta, .int .u8 tm, .int .u8 tc, .int .u8 ts] : List Value).toArray 24)) [.int .u16 0, .int .u8 0, .int .u8 0, .int .u8 0, .int .u8 0] 24; rw [World.size_alloc, World.size_alloc] at q; exact q
  have KX := hid ((((Kept.refl w).alloc (.cells ([.int .u16 t.div, .int .u8 t.tima, .int .u8 t.tma, .int .u8 t.tac, .int .u8 t.st] : List Value).toArray 24)).alloc (.cells ([.int .u16 dv, .int .u8 ta, .int .u8 tm, .int .u8 tc, .int .u8 ts] : List Value).toArray 24)).alloc (.cells ([.int .u16 0, .int .u8 0, .int .u8 0, .int .u8 0, .int .u8 0] : List Value).toArray 24))
  go_enter Tryd.func23, Tryd.ntmps23
  go_wp2_with fail
  refine (HA.out _ KX.out).mono ?_
  rintro e u1 ⟨rfl, k1⟩
  have Y0 := blk_kept k1 X0
  have Y1 := blk_kept k1 X1
  have Y2 := blk_kept k1 X2
  have KY := hid (KX.out.trans k1)
  have c1 := blk_cell Y1
  have l2 := blk_lt Y2
  clear k1 X0 X1 X2 KX
  go_wp2_with fail
  refine (HB.out _ KY.out).mono ?_
  rintro e u2 ⟨rfl, k2⟩
  have Z1 := blk_kept k2 Y1
  have Z2 := blk_kept k2 Y2
  have KZ := hid (KY.out.trans k2)
  have c1 := blk_cell Z1
  have l2 := blk_lt Z2
  clear k2 Y0 Y1 Y2 KY
  go_wp2_with (first
    | (((with_reducible refine at_st 5 ?_); refine wl_store rfl rfl rfl rfl Z1 (by kernel_rfl) rfl (Nat.le_of_ble_eq_true rfl) (fun v1 p1 => ?_); have B1 : Blk v1 (w.heap.size + 1) 24 [.int .u16 dv, .int .u8 (ta + 1), .int .u8 tm, .int .u8 tc, .int .u8 ts] := p1.blk; have z1 := p1.size; have R1 := p1.other _ _ _ (by intro e; omega) Z2; have K1 := hid (p1.kept _ KZ.out (by omega)); clear p1); have c2 := blk_cell B1; have l3 := blk_lt R1; clear Z1 Z2 KZ c1 l2 z1)
    | ((with_reducible refine at_st 24 ?_); refine wl_store rfl rfl rfl rfl R1 (by kernel_rfl) rfl (Nat.le_of_ble_eq_true rfl) (fun v3 p3 => ?_); have B3 : Blk v3 (w.heap.size + 1 + 1) 24 [.int .u16 dv, .int .u8 (ta + 1), .int .u8 tm, .int .u8 tc, .int .u8 ts] := p3.blk; have z3 := p3.size; have K3 := hid (p3.kept _ K1.out (by omega)); clear p3))
  exact bodyPost_ret (res_cell Tryd.results23 rfl B3 Tryd.underlying24 rfl (by kernel_rfl)) rfl ⟨rfl, K3.out⟩
theorem pcounted11 (t u : Tm) (w : World) (lay : Lay11 w) (I : TmIn t) (J : TmIn u) : Calls Tryd.prog 23 #[tmV t, tmV u] w fun e w' => e = .returned (tmV (fallT t u)) ∧ Kept w w' := by
  cases h1 : hotT t
  · exact pcnt11_0 t u w lay I J h1
  · cases h2 : hotT u
    · by_cases q : u.tima = 255
      · exact pcnt11_2 t u w lay I J h1 h2 q
      · exact pcnt11_3 t u w lay I J h1 h2 q
    · exact pcnt11_1 t u w lay I J h1 h2
end Go.Proofs.YthjpngfbabeboaaDoor
