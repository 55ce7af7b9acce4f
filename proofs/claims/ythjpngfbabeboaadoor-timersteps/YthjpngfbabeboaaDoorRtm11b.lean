/- What the document's answers of layer 11 come to: count, Step. -/
import Derived.Test.YthjpngfbabeboaaDoorRtm11
import Derived.Test.YthjpngfbabeboaaDoorBk
namespace Go.Proofs.YthjpngfbabeboaaDoor
open Go.RowKit
set_option linter.unusedVariables false
set_option linter.unusedSimpArgs false

set_option maxRecDepth 100000 in
set_option maxHeartbeats 4000000 in
theorem rcount11 (t : Tm) (w : World) (I : TmIn t) : Calls Tryd.prog 24 #[tmV t] w fun e w' => e = .returned (tmV (countT t)) ∧ Kept w w' := by
  obtain ⟨dv, ta, tm, tc, ts⟩ := t
  have a0 := I.a0
  have a1 := I.a1
  simp only at a0 a1
  by_cases q : ta = 255
  · subst q
    have E : countT ⟨dv, 255, tm, tc, ts⟩ = ⟨dv, 0, tm, tc, 1⟩ := rfl
    rw [E]
    clear I E
    go_enter Tryd.func24, Tryd.ntmps24
    go_wp2
    exact bodyPost_ret (v := tmV ⟨dv, 0, tm, tc, 1⟩) (by simp [results, Tryd.results24, go_sem]) rfl ⟨rfl, by repeat (first | with_reducible exact Kept.refl _ | with_reducible refine Kept.alloc ?_ _ | with_reducible refine Kept.drew ?_ | (with_reducible refine Kept.setCell8 ?_ ?_ _ _; rotate_left; (first | exact Nat.le_refl _ | omega | (simp; done) | (simp; omega))))⟩
  · have E : countT ⟨dv, ta, tm, tc, ts⟩ = ⟨dv, ta + 1, tm, tc, ts⟩ := by unfold countT; rw [if_neg q]
    rw [E]
    have d : (ta == 255) = false := by simpa using q
    have e : IntKind.u8.wrap (ta + 1) = ta + 1 := by rw [IntKind.wrap_u8]; omega
    clear I E
    go_enter Tryd.func24, Tryd.ntmps24
    go_wp2
    exact bodyPost_ret (v := tmV ⟨dv, ta + 1, tm, tc, ts⟩) (by simp [results, Tryd.results24, go_sem]) rfl ⟨rfl, by repeat (first | with_reducible exact Kept.refl _ | with_reducible refine Kept.alloc ?_ _ | with_reducible refine Kept.drew ?_ | (with_reducible refine Kept.setCell8 ?_ ?_ _ _; rotate_left; (first | exact Nat.le_refl _ | omega | (simp; done) | (simp; omega))))⟩
set_option maxRecDepth 100000 in
set_option maxHeartbeats 4000000 in
theorem rstep11a0 (t : Tm) (w : World) (I : TmIn t) (hs : t.st = 1) (h1 : hotT t = false) : Calls Tryd.prog 13 #[tmV t] w fun e w' => e = .returned (.tuple #[tmV (stepT t), .bool (askT t)]) ∧ Kept w w' := by
  have E : stepT t = nextT t := by unfold stepT; rw [if_neg (by rw [h1]; simp)]
  rw [E]
  have HA := hid (fun u => rhot11 t u I)
  rw [h1] at HA
  have IN := next_in I
  have NX : nextT t = ⟨(t.div + 4) % 65536, t.tma, t.tma, t.tac, 2⟩ := by unfold nextT firstT; rw [if_pos hs]
  have AK : askT t = true := by unfold askT; rw [hs]; rfl
  rw [AK]
  rw [NX]
  obtain ⟨dv, ta, tm, tc, ts⟩ := t
  have d0 := I.d0
  have d1 := I.d1
  have b0 := I.a0
  have b1 := I.a1
  have s0 := I.s0
  have s1 := I.s1
  simp only at d0 d1 b0 b1 s0 s1
  simp only at HA hs ⊢
  subst hs
  have e1 : Int.tmod (dv + 4) 65536 = (dv + 4) % 65536 := Int.tmod_eq_emod_of_nonneg (by omega)
  have e2 : IntKind.u16.wrap ((dv + 4) % 65536) = (dv + 4) % 65536 := by rw [IntKind.wrap_u16]; omega
  clear E IN I NX AK h1
  go_enter Tryd.func13, Tryd.ntmps13
  go_wp2_with fail
  refine (HA.out _).mono ?_
  rintro e u1 ⟨rfl, k1⟩
  have B0 : Blk u1 w.heap.size 24 [.int .u16 dv, .int .u8 ta, .int .u8 tm, .int .u8 tc, .int .u8 1] := blk_kept k1 (blk_past (blk_new w _ _) _)
  have R0 : Blk u1 (w.heap.size + 1) 24 [.int .u16 0, .int .u8 0, .int .u8 0, .int .u8 0, .int .u8 0] := blk_kept k1 (by have q := blk_new (w.alloc (.cells ([.int .u16 dv, .int .u8 ta, .int .u8 tm, .int .u8 tc, .int .u8 1] : List Value).toArray 24)) [.int .u16 0, .int .u8 0, .int .u8 0, .int .u8 0, .int .u8 0] 24; rw [World.size_alloc] at q; exact q)
  have K0 := hid ((((Kept.refl w).alloc (.cells ([.int .u16 dv, .int .u8 ta, .int .u8 tm, .int .u8 tc, .int .u8 1] : List Value).toArray 24)).alloc (.cells ([.int .u16 0, .int .u8 0, .int .u8 0, .int .u8 0, .int .u8 0] : List Value).toArray 24)).trans k1)
  have c0 := blk_cell B0
  have y0 := blk_lt R0
  clear k1
  go_wp2_with (first
    | ((with_reducible refine at_st 5 ?_); refine wl_store rfl rfl rfl rfl B0 (by kernel_rfl) rfl (Nat.le_of_ble_eq_true rfl) (fun v0 p0 => ?_); have B1 : Blk v0 w.heap.size 24 [.int .u16 dv, .int .u8 tm, .int .u8 tm, .int .u8 tc, .int .u8 1] := p0.blk; have R1 := p0.other _ _ _ (Nat.succ_ne_self _) R0; have K1 := hid (p0.kept _ K0.out (Nat.le_refl _)); have c1 := blk_cell B1; have y1 := blk_lt R1; clear p0 B0 R0 c0 y0 K0)
    | ((with_reducible refine at_st 5 ?_); refine wl_store rfl rfl rfl rfl B1 (by kernel_rfl) rfl (Nat.le_of_ble_eq_true rfl) (fun v1 p1 => ?_); have B2 : Blk v1 w.heap.size 24 [.int .u16 dv, .int .u8 tm, .int .u8 tm, .int .u8 tc, .int .u8 2] := p1.blk; have R2 := p1.other _ _ _ (Nat.succ_ne_self _) R1; have K2 := hid (p1.kept _ K1.out (Nat.le_refl _)); have c2 := blk_cell B2; have y2 := blk_lt R2; clear p1 B1 R1 c1 y1 K1)
    | ((with_reducible refine at_st 22 ?_); refine wl_store rfl rfl rfl rfl B2 (by kernel_rfl) rfl (Nat.le_of_ble_eq_true rfl) (fun v2 p2 => ?_); have B3 : Blk v2 w.heap.size 24 [.int .u16 ((dv + 4) % 65536), .int .u8 tm, .int .u8 tm, .int .u8 tc, .int .u8 2] := p2.blk; have R3 := p2.other _ _ _ (Nat.succ_ne_self _) R2; have K3 := hid (p2.kept _ K2.out (Nat.le_refl _)); have c3 := blk_cell B3; have y3 := blk_lt R3; clear p2 B2 R2 c2 y2 K2)
    | ((with_reducible refine at_st 24 ?_); refine wl_store rfl rfl rfl rfl R3 (by kernel_rfl) rfl (Nat.le_of_ble_eq_true rfl) (fun vr pr => ?_); have RF : Blk vr (w.heap.size + 1) 24 [.int .u16 ((dv + 4) % 65536), .int .u8 tm, .int .u8 tm, .int .u8 tc, .int .u8 2] := pr.blk; have KF := hid (pr.kept _ K3.out (Nat.le_succ _)); clear pr))
  exact bodyPost_ret (res_cell2 Tryd.results13 rfl RF Tryd.underlying24 rfl (by kernel_rfl)) rfl ⟨rfl, KF.out⟩
set_option maxRecDepth 100000 in
set_option maxHeartbeats 4000000 in
theorem rstep11a1 (t : Tm) (w : World) (I : TmIn t) (hs : t.st = 1) (h1 : hotT t = true) (h2 : hotT (nextT t) = true) : Calls Tryd.prog 13 #[tmV t] w fun e w' => e = .returned (.tuple #[tmV (stepT t), .bool (askT t)]) ∧ Kept w w' := by
  have E : stepT t = nextT t := by unfold stepT; rw [if_neg (by rw [h2]; simp)]
  rw [E]
  have HA := hid (fun u => rhot11 t u I)
  rw [h1] at HA
  have IN := next_in I
  have HB := hid (fun u => rhot11 (nextT t) u IN)
  rw [h2] at HB
  have NX : nextT t = ⟨(t.div + 4) % 65536, t.tma, t.tma, t.tac, 2⟩ := by unfold nextT firstT; rw [if_pos hs]
  have AK : askT t = true := by unfold askT; rw [hs]; rfl
  rw [AK]
  rw [NX] at HB
  rw [NX]
  obtain ⟨dv, ta, tm, tc, ts⟩ := t
  have d0 := I.d0
  have d1 := I.d1
  have b0 := I.a0
  have b1 := I.a1
  have s0 := I.s0
  have s1 := I.s1
  simp only at d0 d1 b0 b1 s0 s1
  simp only at HA hs HB ⊢
  subst hs
  have e1 : Int.tmod (dv + 4) 65536 = (dv + 4) % 65536 := Int.tmod_eq_emod_of_nonneg (by omega)
  have e2 : IntKind.u16.wrap ((dv + 4) % 65536) = (dv + 4) % 65536 := by rw [IntKind.wrap_u16]; omega
  clear E IN I NX AK h1 h2
  go_enter Tryd.func13, Tryd.ntmps13
  go_wp2_with fail
  refine (HA.out _).mono ?_
  rintro e u1 ⟨rfl, k1⟩
  have B0 : Blk u1 w.heap.size 24 [.int .u16 dv, .int .u8 ta, .int .u8 tm, .int .u8 tc, .int .u8 1] := blk_kept k1 (blk_past (blk_new w _ _) _)
  have R0 : Blk u1 (w.heap.size + 1) 24 [.int .u16 0, .int .u8 0, .int .u8 0, .int .u8 0, .int .u8 0] := blk_kept k1 (by have q := blk_new (w.alloc (.cells ([.int .u16 dv, .int .u8 ta, .int .u8 tm, .int .u8 tc, .int .u8 1] : List Value).toArray 24)) [.int .u16 0, .int .u8 0, .int .u8 0, .int .u8 0, .int .u8 0] 24; rw [World.size_alloc] at q; exact q)
  have K0 := hid ((((Kept.refl w).alloc (.cells ([.int .u16 dv, .int .u8 ta, .int .u8 tm, .int .u8 tc, .int .u8 1] : List Value).toArray 24)).alloc (.cells ([.int .u16 0, .int .u8 0, .int .u8 0, .int .u8 0, .int .u8 0] : List Value).toArray 24)).trans k1)
  have c0 := blk_cell B0
  have y0 := blk_lt R0
  clear k1
  go_wp2_with (first
    | ((with_reducible refine at_st 5 ?_); refine wl_store rfl rfl rfl rfl B0 (by kernel_rfl) rfl (Nat.le_of_ble_eq_true rfl) (fun v0 p0 => ?_); have B1 : Blk v0 w.heap.size 24 [.int .u16 dv, .int .u8 tm, .int .u8 tm, .int .u8 tc, .int .u8 1] := p0.blk; have R1 := p0.other _ _ _ (Nat.succ_ne_self _) R0; have K1 := hid (p0.kept _ K0.out (Nat.le_refl _)); have c1 := blk_cell B1; have y1 := blk_lt R1; clear p0 B0 R0 c0 y0 K0)
    | ((with_reducible refine at_st 5 ?_); refine wl_store rfl rfl rfl rfl B1 (by kernel_rfl) rfl (Nat.le_of_ble_eq_true rfl) (fun v1 p1 => ?_); have B2 : Blk v1 w.heap.size 24 [.int .u16 dv, .int .u8 tm, .int .u8 tm, .int .u8 tc, .int .u8 2] := p1.blk; have R2 := p1.other _ _ _ (Nat.succ_ne_self _) R1; have K2 := hid (p1.kept _ K1.out (Nat.le_refl _)); have c2 := blk_cell B2; have y2 := blk_lt R2; clear p1 B1 R1 c1 y1 K1)
    | ((with_reducible refine at_st 22 ?_); refine wl_store rfl rfl rfl rfl B2 (by kernel_rfl) rfl (Nat.le_of_ble_eq_true rfl) (fun v2 p2 => ?_); have B3 : Blk v2 w.heap.size 24 [.int .u16 ((dv + 4) % 65536), .int .u8 tm, .int .u8 tm, .int .u8 tc, .int .u8 2] := p2.blk; have R3 := p2.other _ _ _ (Nat.succ_ne_self _) R2; have K3 := hid (p2.kept _ K2.out (Nat.le_refl _)); have c3 := blk_cell B3; have y3 := blk_lt R3; clear p2 B2 R2 c2 y2 K2))
  refine (HB.out _).mono ?_
  rintro e x4 ⟨rfl, k4⟩
  have B4 : Blk x4 w.heap.size 24 [.int .u16 ((dv + 4) % 65536), .int .u8 tm, .int .u8 tm, .int .u8 tc, .int .u8 2] := blk_kept k4 B3
  have R4 := blk_kept k4 R3
  have K4 := hid (K3.out.trans k4)
  have c4 := blk_cell B4
  have y4 := blk_lt R4
  clear k4 B3 R3 c3 y3 K3
  go_wp2_with (first
    | ((with_reducible refine at_st 24 ?_); refine wl_store rfl rfl rfl rfl R4 (by kernel_rfl) rfl (Nat.le_of_ble_eq_true rfl) (fun vr pr => ?_); have RF : Blk vr (w.heap.size + 1) 24 [.int .u16 ((dv + 4) % 65536), .int .u8 tm, .int .u8 tm, .int .u8 tc, .int .u8 2] := pr.blk; have KF := hid (pr.kept _ K4.out (Nat.le_succ _)); clear pr))
  exact bodyPost_ret (res_cell2 Tryd.results13 rfl RF Tryd.underlying24 rfl (by kernel_rfl)) rfl ⟨rfl, KF.out⟩
set_option maxRecDepth 100000 in
set_option maxHeartbeats 4000000 in
theorem rstep11a2 (t : Tm) (w : World) (I : TmIn t) (hs : t.st = 1) (h1 : hotT t = true) (h2 : hotT (nextT t) = false) : Calls Tryd.prog 13 #[tmV t] w fun e w' => e = .returned (.tuple #[tmV (stepT t), .bool (askT t)]) ∧ Kept w w' := by
  have E : stepT t = countT (nextT t) := by unfold stepT; rw [if_pos ⟨h1, h2⟩]
  rw [E]
  have HA := hid (fun u => rhot11 t u I)
  rw [h1] at HA
  have IN := next_in I
  have HB := hid (fun u => rhot11 (nextT t) u IN)
  rw [h2] at HB
  have HC := hid (fun u => rcount11 (nextT t) u IN)
  have NX : nextT t = ⟨(t.div + 4) % 65536, t.tma, t.tma, t.tac, 2⟩ := by unfold nextT firstT; rw [if_pos hs]
  have AK : askT t = true := by unfold askT; rw [hs]; rfl
  rw [AK]
  rw [NX] at HB HC
  rw [NX]
  obtain ⟨dv, ta, tm, tc, ts⟩ := t
  have d0 := I.d0
  have d1 := I.d1
  have b0 := I.a0
  have b1 := I.a1
  have s0 := I.s0
  have s1 := I.s1
  simp only at d0 d1 b0 b1 s0 s1
  simp only at HA hs HB HC ⊢
  subst hs
  generalize countT ⟨((dv + 4) % 65536), tm, tm, tc, 2⟩ = C at *
  have e1 : Int.tmod (dv + 4) 65536 = (dv + 4) % 65536 := Int.tmod_eq_emod_of_nonneg (by omega)
  have e2 : IntKind.u16.wrap ((dv + 4) % 65536) = (dv + 4) % 65536 := by rw [IntKind.wrap_u16]; omega
  clear E IN I NX AK h1 h2
  go_enter Tryd.func13, Tryd.ntmps13
  go_wp2_with fail
  refine (HA.out _).mono ?_
  rintro e u1 ⟨rfl, k1⟩
  have B0 : Blk u1 w.heap.size 24 [.int .u16 dv, .int .u8 ta, .int .u8 tm, .int .u8 tc, .int .u8 1] := blk_kept k1 (blk_past (blk_new w _ _) _)
  have R0 : Blk u1 (w.heap.size + 1) 24 [.int .u16 0, .int .u8 0, .int .u8 0, .int .u8 0, .int .u8 0] := blk_kept k1 (by have q := blk_new (w.alloc (.cells ([.int .u16 dv, .int .u8 ta, .int .u8 tm, .int .u8 tc, .int .u8 1] : List Value).toArray 24)) [.int .u16 0, .int .u8 0, .int .u8 0, .int .u8 0, .int .u8 0] 24; rw [World.size_alloc] at q; exact q)
  have K0 := hid ((((Kept.refl w).alloc (.cells ([.int .u16 dv, .int .u8 ta, .int .u8 tm, .int .u8 tc, .int .u8 1] : List Value).toArray 24)).alloc (.cells ([.int .u16 0, .int .u8 0, .int .u8 0, .int .u8 0, .int .u8 0] : List Value).toArray 24)).trans k1)
  have c0 := blk_cell B0
  have y0 := blk_lt R0
  clear k1
  go_wp2_with (first
    | ((with_reducible refine at_st 5 ?_); refine wl_store rfl rfl rfl rfl B0 (by kernel_rfl) rfl (Nat.le_of_ble_eq_true rfl) (fun v0 p0 => ?_); have B1 : Blk v0 w.heap.size 24 [.int .u16 dv, .int .u8 tm, .int .u8 tm, .int .u8 tc, .int .u8 1] := p0.blk; have R1 := p0.other _ _ _ (Nat.succ_ne_self _) R0; have K1 := hid (p0.kept _ K0.out (Nat.le_refl _)); have c1 := blk_cell B1; have y1 := blk_lt R1; clear p0 B0 R0 c0 y0 K0)
    | ((with_reducible refine at_st 5 ?_); refine wl_store rfl rfl rfl rfl B1 (by kernel_rfl) rfl (Nat.le_of_ble_eq_true rfl) (fun v1 p1 => ?_); have B2 : Blk v1 w.heap.size 24 [.int .u16 dv, .int .u8 tm, .int .u8 tm, .int .u8 tc, .int .u8 2] := p1.blk; have R2 := p1.other _ _ _ (Nat.succ_ne_self _) R1; have K2 := hid (p1.kept _ K1.out (Nat.le_refl _)); have c2 := blk_cell B2; have y2 := blk_lt R2; clear p1 B1 R1 c1 y1 K1)
    | ((with_reducible refine at_st 22 ?_); refine wl_store rfl rfl rfl rfl B2 (by kernel_rfl) rfl (Nat.le_of_ble_eq_true rfl) (fun v2 p2 => ?_); have B3 : Blk v2 w.heap.size 24 [.int .u16 ((dv + 4) % 65536), .int .u8 tm, .int .u8 tm, .int .u8 tc, .int .u8 2] := p2.blk; have R3 := p2.other _ _ _ (Nat.succ_ne_self _) R2; have K3 := hid (p2.kept _ K2.out (Nat.le_refl _)); have c3 := blk_cell B3; have y3 := blk_lt R3; clear p2 B2 R2 c2 y2 K2))
  refine (HB.out _).mono ?_
  rintro e x4 ⟨rfl, k4⟩
  have B4 : Blk x4 w.heap.size 24 [.int .u16 ((dv + 4) % 65536), .int .u8 tm, .int .u8 tm, .int .u8 tc, .int .u8 2] := blk_kept k4 B3
  have R4 := blk_kept k4 R3
  have K4 := hid (K3.out.trans k4)
  have c4 := blk_cell B4
  have y4 := blk_lt R4
  clear k4 B3 R3 c3 y3 K3
  go_wp2_with fail
  refine (HC.out _).mono ?_
  rintro e x5 ⟨rfl, k5⟩
  have B5 : Blk x5 w.heap.size 24 [.int .u16 ((dv + 4) % 65536), .int .u8 tm, .int .u8 tm, .int .u8 tc, .int .u8 2] := blk_kept k5 B4
  have R5 := blk_kept k5 R4
  have K5 := hid (K4.out.trans k5)
  have c5 := blk_cell B5
  have y5 := blk_lt R5
  clear k5 B4 R4 c4 y4 K4
  go_wp2_with (first
    | ((with_reducible refine at_st 24 ?_); refine wl_store rfl rfl rfl rfl B5 (by kernel_rfl) rfl (Nat.le_of_ble_eq_true rfl) (fun v5 p5 => ?_); have B6 : Blk v5 w.heap.size 24 [.int .u16 C.div, .int .u8 C.tima, .int .u8 C.tma, .int .u8 C.tac, .int .u8 C.st] := p5.blk; have R6 := p5.other _ _ _ (Nat.succ_ne_self _) R5; have K6 := hid (p5.kept _ K5.out (Nat.le_refl _)); have c6 := blk_cell B6; have y6 := blk_lt R6; clear p5 B5 R5 c5 y5 K5)
    | ((with_reducible refine at_st 24 ?_); refine wl_store rfl rfl rfl rfl R6 (by kernel_rfl) rfl (Nat.le_of_ble_eq_true rfl) (fun vr pr => ?_); have RF : Blk vr (w.heap.size + 1) 24 [.int .u16 C.div, .int .u8 C.tima, .int .u8 C.tma, .int .u8 C.tac, .int .u8 C.st] := pr.blk; have KF := hid (pr.kept _ K6.out (Nat.le_succ _)); clear pr))
  exact bodyPost_ret (res_cell2 Tryd.results13 rfl RF Tryd.underlying24 rfl (by kernel_rfl)) rfl ⟨rfl, KF.out⟩
set_option maxRecDepth 100000 in
set_option maxHeartbeats 4000000 in
theorem rstep11b0 (t : Tm) (w : World) (I : TmIn t) (hs : t.st ≠ 1) (h1 : hotT t = false) : Calls Tryd.prog 13 #[tmV t] w fun e w' => e = .returned (.tuple #[tmV (stepT t), .bool (askT t)]) ∧ Kept w w' := by
  have E : stepT t = nextT t := by unfold stepT; rw [if_neg (by rw [h1]; simp)]
  rw [E]
  have HA := hid (fun u => rhot11 t u I)
  rw [h1] at HA
  have IN := next_in I
  have NX : nextT t = ⟨(t.div + 4) % 65536, t.tima, t.tma, t.tac, 0⟩ := by unfold nextT firstT; rw [if_neg hs]
  have AK : askT t = false := by unfold askT; simpa using hs
  rw [AK]
  rw [NX]
  obtain ⟨dv, ta, tm, tc, ts⟩ := t
  have d0 := I.d0
  have d1 := I.d1
  have b0 := I.a0
  have b1 := I.a1
  have s0 := I.s0
  have s1 := I.s1
  simp only at d0 d1 b0 b1 s0 s1
  simp only at HA hs ⊢
  have ds : (ts == 1) = false := by simpa using hs
  have e1 : Int.tmod (dv + 4) 65536 = (dv + 4) % 65536 := Int.tmod_eq_emod_of_nonneg (by omega)
  have e2 : IntKind.u16.wrap ((dv + 4) % 65536) = (dv + 4) % 65536 := by rw [IntKind.wrap_u16]; omega
  clear E IN I NX AK h1 hs
  go_enter Tryd.func13, Tryd.ntmps13
  go_wp2_with fail
  refine (HA.out _).mono ?_
  rintro e u1 ⟨rfl, k1⟩
  have B0 : Blk u1 w.heap.size 24 [.int .u16 dv, .int .u8 ta, .int .u8 tm, .int .u8 tc, .int .u8 ts] := blk_kept k1 (blk_past (blk_new w _ _) _)
  have R0 : Blk u1 (w.heap.size + 1) 24 [.int .u16 0, .int .u8 0, .int .u8 0, .int .u8 0, .int .u8 0] := blk_kept k1 (by have q := blk_new (w.alloc (.cells ([.int .u16 dv, .int .u8 ta, .int .u8 tm, .int .u8 tc, .int .u8 ts] : List Value).toArray 24)) [.int .u16 0, .int .u8 0, .int .u8 0, .int .u8 0, .int .u8 0] 24; rw [World.size_alloc] at q; exact q)
  have K0 := hid ((((Kept.refl w).alloc (.cells ([.int .u16 dv, .int .u8 ta, .int .u8 tm, .int .u8 tc, .int .u8 ts] : List Value).toArray 24)).alloc (.cells ([.int .u16 0, .int .u8 0, .int .u8 0, .int .u8 0, .int .u8 0] : List Value).toArray 24)).trans k1)
  have c0 := blk_cell B0
  have y0 := blk_lt R0
  clear k1
  go_wp2_with (first
    | ((with_reducible refine at_st 5 ?_); refine wl_store rfl rfl rfl rfl B0 (by kernel_rfl) rfl (Nat.le_of_ble_eq_true rfl) (fun v0 p0 => ?_); have B1 : Blk v0 w.heap.size 24 [.int .u16 dv, .int .u8 ta, .int .u8 tm, .int .u8 tc, .int .u8 0] := p0.blk; have R1 := p0.other _ _ _ (Nat.succ_ne_self _) R0; have K1 := hid (p0.kept _ K0.out (Nat.le_refl _)); have c1 := blk_cell B1; have y1 := blk_lt R1; clear p0 B0 R0 c0 y0 K0)
    | ((with_reducible refine at_st 22 ?_); refine wl_store rfl rfl rfl rfl B1 (by kernel_rfl) rfl (Nat.le_of_ble_eq_true rfl) (fun v1 p1 => ?_); have B2 : Blk v1 w.heap.size 24 [.int .u16 ((dv + 4) % 65536), .int .u8 ta, .int .u8 tm, .int .u8 tc, .int .u8 0] := p1.blk; have R2 := p1.other _ _ _ (Nat.succ_ne_self _) R1; have K2 := hid (p1.kept _ K1.out (Nat.le_refl _)); have c2 := blk_cell B2; have y2 := blk_lt R2; clear p1 B1 R1 c1 y1 K1)
    | ((with_reducible refine at_st 24 ?_); refine wl_store rfl rfl rfl rfl R2 (by kernel_rfl) rfl (Nat.le_of_ble_eq_true rfl) (fun vr pr => ?_); have RF : Blk vr (w.heap.size + 1) 24 [.int .u16 ((dv + 4) % 65536), .int .u8 ta, .int .u8 tm, .int .u8 tc, .int .u8 0] := pr.blk; have KF := hid (pr.kept _ K2.out (Nat.le_succ _)); clear pr))
  exact bodyPost_ret (res_cell2 Tryd.results13 rfl RF Tryd.underlying24 rfl (by kernel_rfl)) rfl ⟨rfl, KF.out⟩
set_option maxRecDepth 100000 in
set_option maxHeartbeats 4000000 in
theorem rstep11b1 (t : Tm) (w : World) (I : TmIn t) (hs : t.st ≠ 1) (h1 : hotT t = true) (h2 : hotT (nextT t) = true) : Calls Tryd.prog 13 #[tmV t] w fun e w' => e = .returned (.tuple #[tmV (stepT t), .bool (askT t)]) ∧ Kept w w' := by
  have E : stepT t = nextT t := by unfold stepT; rw [if_neg (by rw [h2]; simp)]
  rw [E]
  have HA := hid (fun u => rhot11 t u I)
  rw [h1] at HA
  have IN := next_in I
  have HB := hid (fun u => rhot11 (nextT t) u IN)
  rw [h2] at HB
  have NX : nextT t = ⟨(t.div + 4) % 65536, t.tima, t.tma, t.tac, 0⟩ := by unfold nextT firstT; rw [if_neg hs]
  have AK : askT t = false := by unfold askT; simpa using hs
  rw [AK]
  rw [NX] at HB
  rw [NX]
  obtain ⟨dv, ta, tm, tc, ts⟩ := t
  have d0 := I.d0
  have d1 := I.d1
  have b0 := I.a0
  have b1 := I.a1
  have s0 := I.s0
  have s1 := I.s1
  simp only at d0 d1 b0 b1 s0 s1
  simp only at HA hs HB ⊢
  have ds : (ts == 1) = false := by simpa using hs
  have e1 : Int.tmod (dv + 4) 65536 = (dv + 4) % 65536 := Int.tmod_eq_emod_of_nonneg (by omega)
  have e2 : IntKind.u16.wrap ((dv + 4) % 65536) = (dv + 4) % 65536 := by rw [IntKind.wrap_u16]; omega
  clear E IN I NX AK h1 h2 hs
  go_enter Tryd.func13, Tryd.ntmps13
  go_wp2_with fail
  refine (HA.out _).mono ?_
  rintro e u1 ⟨rfl, k1⟩
  have B0 : Blk u1 w.heap.size 24 [.int .u16 dv, .int .u8 ta, .int .u8 tm, .int .u8 tc, .int .u8 ts] := blk_kept k1 (blk_past (blk_new w _ _) _)
  have R0 : Blk u1 (w.heap.size + 1) 24 [.int .u16 0, .int .u8 0, .int .u8 0, .int .u8 0, .int .u8 0] := blk_kept k1 (by have q := blk_new (w.alloc (.cells ([.int .u16 dv, .int .u8 ta, .int .u8 tm, .int .u8 tc, .int .u8 ts] : List Value).toArray 24)) [.int .u16 0, .int .u8 0, .int .u8 0, .int .u8 0, .int .u8 0] 24; rw [World.size_alloc] at q; exact q)
  have K0 := hid ((((Kept.refl w).alloc (.cells ([.int .u16 dv, .int .u8 ta, .int .u8 tm, .int .u8 tc, .int .u8 ts] : List Value).toArray 24)).alloc (.cells ([.int .u16 0, .int .u8 0, .int .u8 0, .int .u8 0, .int .u8 0] : List Value).toArray 24)).trans k1)
  have c0 := blk_cell B0
  have y0 := blk_lt R0
  clear k1
  go_wp2_with (first
    | ((with_reducible refine at_st 5 ?_); refine wl_store rfl rfl rfl rfl B0 (by kernel_rfl) rfl (Nat.le_of_ble_eq_true rfl) (fun v0 p0 => ?_); have B1 : Blk v0 w.heap.size 24 [.int .u16 dv, .int .u8 ta, .int .u8 tm, .int .u8 tc, .int .u8 0] := p0.blk; have R1 := p0.other _ _ _ (Nat.succ_ne_self _) R0; have K1 := hid (p0.kept _ K0.out (Nat.le_refl _)); have c1 := blk_cell B1; have y1 := blk_lt R1; clear p0 B0 R0 c0 y0 K0)
    | ((with_reducible refine at_st 22 ?_); refine wl_store rfl rfl rfl rfl B1 (by kernel_rfl) rfl (Nat.le_of_ble_eq_true rfl) (fun v1 p1 => ?_); have B2 : Blk v1 w.heap.size 24 [.int .u16 ((dv + 4) % 65536), .int .u8 ta, .int .u8 tm, .int .u8 tc, .int .u8 0] := p1.blk; have R2 := p1.other _ _ _ (Nat.succ_ne_self _) R1; have K2 := hid (p1.kept _ K1.out (Nat.le_refl _)); have c2 := blk_cell B2; have y2 := blk_lt R2; clear p1 B1 R1 c1 y1 K1))
  refine (HB.out _).mono ?_
  rintro e x3 ⟨rfl, k3⟩
  have B3 : Blk x3 w.heap.size 24 [.int .u16 ((dv + 4) % 65536), .int .u8 ta, .int .u8 tm, .int .u8 tc, .int .u8 0] := blk_kept k3 B2
  have R3 := blk_kept k3 R2
  have K3 := hid (K2.out.trans k3)
  have c3 := blk_cell B3
  have y3 := blk_lt R3
  clear k3 B2 R2 c2 y2 K2
  go_wp2_with (first
    | ((with_reducible refine at_st 24 ?_); refine wl_store rfl rfl rfl rfl R3 (by kernel_rfl) rfl (Nat.le_of_ble_eq_true rfl) (fun vr pr => ?_); have RF : Blk vr (w.heap.size + 1) 24 [.int .u16 ((dv + 4) % 65536), .int .u8 ta, .int .u8 tm, .int .u8 tc, .int .u8 0] := pr.blk; have KF := hid (pr.kept _ K3.out (Nat.le_succ _)); clear pr))
  exact bodyPost_ret (res_cell2 Tryd.results13 rfl RF Tryd.underlying24 rfl (by kernel_rfl)) rfl ⟨rfl, KF.out⟩
set_option maxRecDepth 100000 in
set_option maxHeartbeats 4000000 in
theorem rstep11b2 (t : Tm) (w : World) (I : TmIn t) (hs : t.st ≠ 1) (h1 : hotT t = true) (h2 : hotT (nextT t) = false) : Calls Tryd.prog 13 #[tmV t] w fun e w' => e = .returned (.tuple #[tmV (stepT t), .bool (askT t)]) ∧ Kept w w' := by
  have E : stepT t = countT (nextT t) := by unfold stepT; rw [if_pos ⟨h1, h2⟩]
  rw [E]
  have HA := hid (fun u => rhot11 t u I)
  rw [h1] at HA
  have IN := next_in I
  have HB := hid (fun u => rhot11 (nextT t) u IN)
  rw [h2] at HB
  have HC := hid (fun u => rcount11 (nextT t) u IN)
  have NX : nextT t = ⟨(t.div + 4) % 65536, t.tima, t.tma, t.tac, 0⟩ := by unfold nextT firstT; rw [if_neg hs]
  have AK : askT t = false := by unfold askT; simpa using hs
  rw [AK]
  rw [NX] at HB HC
  rw [NX]
  obtain ⟨dv, ta, tm, tc, ts⟩ := t
  have d0 := I.d0
  have d1 := I.d1
  have b0 := I.a0
  have b1 := I.a1
  have s0 := I.s0
  have s1 := I.s1
  simp only at d0 d1 b0 b1 s0 s1
  simp only at HA hs HB HC ⊢
  have ds : (ts == 1) = false := by simpa using hs
  generalize countT ⟨((dv + 4) % 65536), ta, tm, tc, 0⟩ = C at *
  have e1 : Int.tmod (dv + 4) 65536 = (dv + 4) % 65536 := Int.tmod_eq_emod_of_nonneg (by omega)
  have e2 : IntKind.u16.wrap ((dv + 4) % 65536) = (dv + 4) % 65536 := by rw [IntKind.wrap_u16]; omega
  clear E IN I NX AK h1 h2 hs
  go_enter Tryd.func13, Tryd.ntmps13
  go_wp2_with fail
  refine (HA.out _).mono ?_
  rintro e u1 ⟨rfl, k1⟩
  have B0 : Blk u1 w.heap.size 24 [.int .u16 dv, .int .u8 ta, .int .u8 tm, .int .u8 tc, .int .u8 ts] := blk_kept k1 (blk_past (blk_new w _ _) _)
  have R0 : Blk u1 (w.heap.size + 1) 24 [.int .u16 0, .int .u8 0, .int .u8 0, .int .u8 0, .int .u8 0] := blk_kept k1 (by have q := blk_new (w.alloc (.cells ([.int .u16 dv, .int .u8 ta, .int .u8 tm, .int .u8 tc, .int .u8 ts] : List Value).toArray 24)) [.int .u16 0, .int .u8 0, .int .u8 0, .int .u8 0, .int .u8 0] 24; rw [World.size_alloc] at q; exact q)
  have K0 := hid ((((Kept.refl w).alloc (.cells ([.int .u16 dv, .int .u8 ta, .int .u8 tm, .int .u8 tc, .int .u8 ts] : List Value).toArray 24)).alloc (.cells ([.int .u16 0, .int .u8 0, .int .u8 0, .int .u8 0, .int .u8 0] : List Value).toArray 24)).trans k1)
  have c0 := blk_cell B0
  have y0 := blk_lt R0
  clear k1
  go_wp2_with (first
    | ((with_reducible refine at_st 5 ?_); refine wl_store rfl rfl rfl rfl B0 (by kernel_rfl) rfl (Nat.le_of_ble_eq_true rfl) (fun v0 p0 => ?_); have B1 : Blk v0 w.heap.size 24 [.int .u16 dv, .int .u8 ta, .int .u8 tm, .int .u8 tc, .int .u8 0] := p0.blk; have R1 := p0.other _ _ _ (Nat.succ_ne_self _) R0; have K1 := hid (p0.kept _ K0.out (Nat.le_refl _)); have c1 := blk_cell B1; have y1 := blk_lt R1; clear p0 B0 R0 c0 y0 K0)
    | ((with_reducible refine at_st 22 ?_); refine wl_store rfl rfl rfl rfl B1 (by kernel_rfl) rfl (Nat.le_of_ble_eq_true rfl) (fun v1 p1 => ?_); have B2 : Blk v1 w.heap.size 24 [.int .u16 ((dv + 4) % 65536), .int .u8 ta, .int .u8 tm, .int .u8 tc, .int .u8 0] := p1.blk; have R2 := p1.other _ _ _ (Nat.succ_ne_self _) R1; have K2 := hid (p1.kept _ K1.out (Nat.le_refl _)); have c2 := blk_cell B2; have y2 := blk_lt R2; clear p1 B1 R1 c1 y1 K1))
  refine (HB.out _).mono ?_
  rintro e x3 ⟨rfl, k3⟩
  have B3 : Blk x3 w.heap.size 24 [.int .u16 ((dv + 4) % 65536), .int .u8 ta, .int .u8 tm, .int .u8 tc, .int .u8 0] := blk_kept k3 B2
  have R3 := blk_kept k3 R2
  have K3 := hid (K2.out.trans k3)
  have c3 := blk_cell B3
  have y3 := blk_lt R3
  clear k3 B2 R2 c2 y2 K2
  go_wp2_with fail
  refine (HC.out _).mono ?_
  rintro e x4 ⟨rfl, k4⟩
  have B4 : Blk x4 w.heap.size 24 [.int .u16 ((dv + 4) % 65536), .int .u8 ta, .int .u8 tm, .int .u8 tc, .int .u8 0] := blk_kept k4 B3
  have R4 := blk_kept k4 R3
  have K4 := hid (K3.out.trans k4)
  have c4 := blk_cell B4
  have y4 := blk_lt R4
  clear k4 B3 R3 c3 y3 K3
  go_wp2_with (first
    | ((with_reducible refine at_st 24 ?_); refine wl_store rfl rfl rfl rfl B4 (by kernel_rfl) rfl (Nat.le_of_ble_eq_true rfl) (fun v4 p4 => ?_); have B5 : Blk v4 w.heap.size 24 [.int .u16 C.div, .int .u8 C.tima, .int .u8 C.tma, .int .u8 C.tac, .int .u8 C.st] := p4.blk; have R5 := p4.other _ _ _ (Nat.succ_ne_self _) R4; have K5 := hid (p4.kept _ K4.out (Nat.le_refl _)); have c5 := blk_cell B5; have y5 := blk_lt R5; clear p4 B4 R4 c4 y4 K4)
    | ((with_reducible refine at_st 24 ?_); refine wl_store rfl rfl rfl rfl R5 (by kernel_rfl) rfl (Nat.le_of_ble_eq_true rfl) (fun vr pr => ?_); have RF : Blk vr (w.heap.size + 1) 24 [.int .u16 C.div, .int .u8 C.tima, .int .u8 C.tma, .int .u8 C.tac, .int .u8 C.st] := pr.blk; have KF := hid (pr.kept _ K5.out (Nat.le_succ _)); clear pr))
  exact bodyPost_ret (res_cell2 Tryd.results13 rfl RF Tryd.underlying24 rfl (by kernel_rfl)) rfl ⟨rfl, KF.out⟩
theorem rstep11 (t : Tm) (w : World) (I : TmIn t) : Calls Tryd.prog 13 #[tmV t] w fun e w' => e = .returned (.tuple #[tmV (stepT t), .bool (askT t)]) ∧ Kept w w' := by
  by_cases hs : t.st = 1
  · cases h1 : hotT t
    · exact rstep11a0 t w I hs h1
    · cases h2 : hotT (nextT t)
      · exact rstep11a2 t w I hs h1 h2
      · exact rstep11a1 t w I hs h1 h2
  · cases h1 : hotT t
    · exact rstep11b0 t w I hs h1
    · cases h2 : hotT (nextT t)
      · exact rstep11b2 t w I hs h1 h2
      · exact rstep11b1 t w I hs h1 h2
end Go.Proofs.YthjpngfbabeboaaDoor
