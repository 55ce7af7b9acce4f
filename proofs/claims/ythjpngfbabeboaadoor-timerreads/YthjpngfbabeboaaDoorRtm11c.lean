/- What the document's answers of layer 11 come to: Read, Write. -/
import Derived.Test.YthjpngfbabeboaaDoorRtm11b
namespace Go.Proofs.YthjpngfbabeboaaDoor
open Go.RowKit
set_option linter.unusedVariables false
set_option linter.unusedSimpArgs false

set_option maxRecDepth 100000 in
set_option maxHeartbeats 4000000 in
theorem rread11 (t : Tm) (a : Int) (w : World) (I : TmIn t) (a0 : 0 ≤ a) (a1 : a ≤ 65535) : Calls Tryd.prog 15 #[tmV t, .int .u16 a] w fun e w' => e = .returned (.int .u8 (readT t a)) ∧ Kept w w' := by
  obtain ⟨dv, ta, tm, tc, ts⟩ := t
  have d0 := I.d0
  have d1 := I.d1
  have b0 := I.a0
  have b1 := I.a1
  have s0 := I.s0
  have s1 := I.s1
  simp only at d0 d1 b0 b1 s0 s1
  have c0 := I.c0
  have c1 := I.c1
  simp only at c0 c1
  have e1 : Int.tdiv dv 256 = dv / 256 := Int.tdiv_eq_ediv_of_nonneg d0
  have e2 : IntKind.u8.wrap (dv / 256) = dv / 256 := by rw [IntKind.wrap_u8]; omega
  have e3 : Int.tmod tc 8 = tc % 8 := Int.tmod_eq_emod_of_nonneg c0
  have e4 : IntKind.u8.wrap (248 + tc % 8) = 248 + tc % 8 := by rw [IntKind.wrap_u8]; omega
  clear I
  by_cases q0 : a = 65284
  · subst q0
    have E := hid (show readT ⟨dv, ta, tm, tc, ts⟩ 65284 = dv / 256 from rfl)
    go_enter Tryd.func15, Tryd.ntmps15
    go_wp2
    go_ret
    exact ⟨by rw [E.out]; rfl, (Kept.refl w).alloc _⟩
  by_cases q1 : a = 65285
  · subst q1
    have E := hid (show readT ⟨dv, ta, tm, tc, ts⟩ 65285 = ta from rfl)
    go_enter Tryd.func15, Tryd.ntmps15
    go_wp2
    go_ret
    exact ⟨by rw [E.out]; rfl, (Kept.refl w).alloc _⟩
  by_cases q2 : a = 65286
  · subst q2
    have E := hid (show readT ⟨dv, ta, tm, tc, ts⟩ 65286 = tm from rfl)
    go_enter Tryd.func15, Tryd.ntmps15
    go_wp2
    go_ret
    exact ⟨by rw [E.out]; rfl, (Kept.refl w).alloc _⟩
  by_cases q3 : a = 65287
  · subst q3
    have E := hid (show readT ⟨dv, ta, tm, tc, ts⟩ 65287 = 248 + tc % 8 from rfl)
    go_enter Tryd.func15, Tryd.ntmps15
    go_wp2
    go_ret
    exact ⟨by rw [E.out]; rfl, (Kept.refl w).alloc _⟩
  have E := hid (show readT ⟨dv, ta, tm, tc, ts⟩ a = 255 by unfold readT; rw [if_neg q0, if_neg q1, if_neg q2, if_neg q3])
  have g0 : (a == 65284) = false := by simpa using q0
  have g1 : (a == 65285) = false := by simpa using q1
  have g2 : (a == 65286) = false := by simpa using q2
  have g3 : (a == 65287) = false := by simpa using q3
  go_enter Tryd.func15, Tryd.ntmps15
  go_wp2
  go_ret
  exact ⟨by rw [E.out]; rfl, (Kept.refl w).alloc _⟩
set_option maxRecDepth 100000 in
set_option maxHeartbeats 4000000 in
theorem rwr11a0 (t : Tm) (a v : Int) (w : World) (I : TmIn t) (a0 : 0 ≤ a) (a1 : a ≤ 65535) (v0 : 0 ≤ v) (v1 : v ≤ 255) (IW : TmIn (⟨0, t.tima, t.tma, t.tac, t.st⟩ : Tm)) (ha : a = 65284) (h1 : hotT t = false) : Calls Tryd.prog 17 #[tmV t, .int .u16 a, .int .u8 v] w fun e w' => e = .returned (tmV (writeT t a v)) ∧ Kept w w' := by
  subst ha
  have IN : TmIn (⟨0, t.tima, t.tma, t.tac, t.st⟩ : Tm) := IW
  have E : writeT t 65284 v = (⟨0, t.tima, t.tma, t.tac, t.st⟩ : Tm) := by
    show fallT t (⟨0, t.tima, t.tma, t.tac, t.st⟩ : Tm) = _
    unfold fallT
    rw [if_neg (by rw [h1]; simp)]
  rw [E]
  have HA := hid (fun u => rhot11 t u I)
  rw [h1] at HA
  obtain ⟨dv, ta, tm, tc, ts⟩ := t
  have d0 := I.d0
  have d1 := I.d1
  have b0 := I.a0
  have b1 := I.a1
  have s0 := I.s0
  have s1 := I.s1
  simp only at d0 d1 b0 b1 s0 s1
  try simp only at HA ⊢
  clear E IN IW I h1
  go_enter Tryd.func17, Tryd.ntmps17
  go_wp2_with fail
  refine (HA.out _).mono ?_
  rintro e u1 ⟨rfl, k1⟩
  have B0 : Blk u1 w.heap.size 24 [.int .u16 dv, .int .u8 ta, .int .u8 tm, .int .u8 tc, .int .u8 ts] := blk_kept k1 (blk_past (blk_new w _ _) _)
  have R0 : Blk u1 (w.heap.size + 1) 24 [.int .u16 0, .int .u8 0, .int .u8 0, .int .u8 0, .int .u8 0] := blk_kept k1 (by have q := blk_new (w.alloc (.cells ([.int .u16 dv, .int .u8 ta, .int .u8 tm, .int .u8 tc, .int .u8 ts] : List Value).toArray 24)) [.int .u16 0, .int .u8 0, .int .u8 0, .int .u8 0, .int .u8 0] 24; rw [World.size_alloc] at q; exact q)
  have K0 := hid ((((Kept.refl w).alloc (.cells ([.int .u16 dv, .int .u8 ta, .int .u8 tm, .int .u8 tc, .int .u8 ts] : List Value).toArray 24)).alloc (.cells ([.int .u16 0, .int .u8 0, .int .u8 0, .int .u8 0, .int .u8 0] : List Value).toArray 24)).trans k1)
  have c0 := blk_cell B0
  have y0 := blk_lt R0
  clear k1
  go_wp2_with (first
    | ((with_reducible refine at_st 22 ?_); refine wl_store rfl rfl rfl rfl B0 (by kernel_rfl) rfl (Nat.le_of_ble_eq_true rfl) (fun v0 p0 => ?_); have B1 : Blk v0 w.heap.size 24 [.int .u16 0, .int .u8 ta, .int .u8 tm, .int .u8 tc, .int .u8 ts] := p0.blk; have R1 := p0.other _ _ _ (Nat.succ_ne_self _) R0; have K1 := hid (p0.kept _ K0.out (Nat.le_refl _)); have c1 := blk_cell B1; have y1 := blk_lt R1; clear p0 B0 R0 c0 y0 K0)
    | ((with_reducible refine at_st 24 ?_); refine wl_store rfl rfl rfl rfl R1 (by kernel_rfl) rfl (Nat.le_of_ble_eq_true rfl) (fun vr pr => ?_); have RF : Blk vr (w.heap.size + 1) 24 [.int .u16 0, .int .u8 ta, .int .u8 tm, .int .u8 tc, .int .u8 ts] := pr.blk; have KF := hid (pr.kept _ K1.out (Nat.le_succ _)); clear pr))
  exact bodyPost_ret (res_cell Tryd.results17 rfl RF Tryd.underlying24 rfl (by kernel_rfl)) rfl ⟨rfl, KF.out⟩
set_option maxRecDepth 100000 in
set_option maxHeartbeats 4000000 in
theorem rwr11a1 (t : Tm) (a v : Int) (w : World) (I : TmIn t) (a0 : 0 ≤ a) (a1 : a ≤ 65535) (v0 : 0 ≤ v) (v1 : v ≤ 255) (IW : TmIn (⟨0, t.tima, t.tma, t.tac, t.st⟩ : Tm)) (ha : a = 65284) (h1 : hotT t = true) (h2 : hotT (⟨0, t.tima, t.tma, t.tac, t.st⟩ : Tm) = true) : Calls Tryd.prog 17 #[tmV t, .int .u16 a, .int .u8 v] w fun e w' => e = .returned (tmV (writeT t a v)) ∧ Kept w w' := by
  subst ha
  have IN : TmIn (⟨0, t.tima, t.tma, t.tac, t.st⟩ : Tm) := IW
  have E : writeT t 65284 v = (⟨0, t.tima, t.tma, t.tac, t.st⟩ : Tm) := by
    show fallT t (⟨0, t.tima, t.tma, t.tac, t.st⟩ : Tm) = _
    unfold fallT
    rw [if_neg (by rw [h2]; simp)]
  rw [E]
  have HA := hid (fun u => rhot11 t u I)
  rw [h1] at HA
  have HB := hid (fun u => rhot11 (_ : Tm) u IN)
  rw [h2] at HB
  obtain ⟨dv, ta, tm, tc, ts⟩ := t
  have d0 := I.d0
  have d1 := I.d1
  have b0 := I.a0
  have b1 := I.a1
  have s0 := I.s0
  have s1 := I.s1
  simp only at d0 d1 b0 b1 s0 s1
  try simp only at HA HB ⊢
  clear E IN IW I h1 h2
  go_enter Tryd.func17, Tryd.ntmps17
  go_wp2_with fail
  refine (HA.out _).mono ?_
  rintro e u1 ⟨rfl, k1⟩
  have B0 : Blk u1 w.heap.size 24 [.int .u16 dv, .int .u8 ta, .int .u8 tm, .int .u8 tc, .int .u8 ts] := blk_kept k1 (blk_past (blk_new w _ _) _)
  have R0 : Blk u1 (w.heap.size + 1) 24 [.int .u16 0, .int .u8 0, .int .u8 0, .int .u8 0, .int .u8 0] := blk_kept k1 (by have q := blk_new (w.alloc (.cells ([.int .u16 dv, .int .u8 ta, .int .u8 tm, .int .u8 tc, .int .u8 ts] : List Value).toArray 24)) [.int .u16 0, .int .u8 0, .int .u8 0, .int .u8 0, .int .u8 0] 24; rw [World.size_alloc] at q; exact q)
  have K0 := hid ((((Kept.refl w).alloc (.cells ([.int .u16 dv, .int .u8 ta, .int .u8 tm, .int .u8 tc, .int .u8 ts] : List Value).toArray 24)).alloc (.cells ([.int .u16 0, .int .u8 0, .int .u8 0, .int .u8 0, .int .u8 0] : List Value).toArray 24)).trans k1)
  have c0 := blk_cell B0
  have y0 := blk_lt R0
  clear k1
  go_wp2_with (first
    | ((with_reducible refine at_st 22 ?_); refine wl_store rfl rfl rfl rfl B0 (by kernel_rfl) rfl (Nat.le_of_ble_eq_true rfl) (fun v0 p0 => ?_); have B1 : Blk v0 w.heap.size 24 [.int .u16 0, .int .u8 ta, .int .u8 tm, .int .u8 tc, .int .u8 ts] := p0.blk; have R1 := p0.other _ _ _ (Nat.succ_ne_self _) R0; have K1 := hid (p0.kept _ K0.out (Nat.le_refl _)); have c1 := blk_cell B1; have y1 := blk_lt R1; clear p0 B0 R0 c0 y0 K0))
  refine (HB.out _).mono ?_
  rintro e x2 ⟨rfl, k2⟩
  have B2 : Blk x2 w.heap.size 24 [.int .u16 0, .int .u8 ta, .int .u8 tm, .int .u8 tc, .int .u8 ts] := blk_kept k2 B1
  have R2 := blk_kept k2 R1
  have K2 := hid (K1.out.trans k2)
  have c2 := blk_cell B2
  have y2 := blk_lt R2
  clear k2 B1 R1 c1 y1 K1
  go_wp2_with (first
    | ((with_reducible refine at_st 24 ?_); refine wl_store rfl rfl rfl rfl R2 (by kernel_rfl) rfl (Nat.le_of_ble_eq_true rfl) (fun vr pr => ?_); have RF : Blk vr (w.heap.size + 1) 24 [.int .u16 0, .int .u8 ta, .int .u8 tm, .int .u8 tc, .int .u8 ts] := pr.blk; have KF := hid (pr.kept _ K2.out (Nat.le_succ _)); clear pr))
  exact bodyPost_ret (res_cell Tryd.results17 rfl RF Tryd.underlying24 rfl (by kernel_rfl)) rfl ⟨rfl, KF.out⟩
set_option maxRecDepth 100000 in
set_option maxHeartbeats 4000000 in
theorem rwr11a2 (t : Tm) (a v : Int) (w : World) (I : TmIn t) (a0 : 0 ≤ a) (a1 : a ≤ 65535) (v0 : 0 ≤ v) (v1 : v ≤ 255) (IW : TmIn (⟨0, t.tima, t.tma, t.tac, t.st⟩ : Tm)) (ha : a = 65284) (h1 : hotT t = true) (h2 : hotT (⟨0, t.tima, t.tma, t.tac, t.st⟩ : Tm) = false) : Calls Tryd.prog 17 #[tmV t, .int .u16 a, .int .u8 v] w fun e w' => e = .returned (tmV (writeT t a v)) ∧ Kept w w' := by
  subst ha
  have IN : TmIn (⟨0, t.tima, t.tma, t.tac, t.st⟩ : Tm) := IW
  have E : writeT t 65284 v = countT (⟨0, t.tima, t.tma, t.tac, t.st⟩ : Tm) := by
    show fallT t (⟨0, t.tima, t.tma, t.tac, t.st⟩ : Tm) = _
    unfold fallT
    rw [if_pos ⟨h1, h2⟩]
  rw [E]
  have HA := hid (fun u => rhot11 t u I)
  rw [h1] at HA
  have HB := hid (fun u => rhot11 (_ : Tm) u IN)
  rw [h2] at HB
  have HC := hid (fun u => rcount11 (_ : Tm) u IN)
  obtain ⟨dv, ta, tm, tc, ts⟩ := t
  have d0 := I.d0
  have d1 := I.d1
  have b0 := I.a0
  have b1 := I.a1
  have s0 := I.s0
  have s1 := I.s1
  simp only at d0 d1 b0 b1 s0 s1
  try simp only at HA HB HC ⊢
  generalize countT (⟨0, ta, tm, tc, ts⟩ : Tm) = C at *
  clear E IN IW I h1 h2
  go_enter Tryd.func17, Tryd.ntmps17
  go_wp2_with fail
  refine (HA.out _).mono ?_
  rintro e u1 ⟨rfl, k1⟩
  have B0 : Blk u1 w.heap.size 24 [.int .u16 dv, .int .u8 ta, .int .u8 tm, .int .u8 tc, .int .u8 ts] := blk_kept k1 (blk_past (blk_new w _ _) _)
  have R0 : Blk u1 (w.heap.size + 1) 24 [.int .u16 0, .int .u8 0, .int .u8 0, .int .u8 0, .int .u8 0] := blk_kept k1 (by have q := blk_new (w.alloc (.cells ([.int .u16 dv, .int .u8 ta, .int .u8 tm, .int .u8 tc, .int .u8 ts] : List Value).toArray 24)) [.int .u16 0, .int .u8 0, .int .u8 0, .int .u8 0, .int .u8 0] 24; rw [World.size_alloc] at q; exact q)
  have K0 := hid ((((Kept.refl w).alloc (.cells ([.int .u16 dv, .int .u8 ta, .int .u8 tm, .int .u8 tc, .int .u8 ts] : List Value).toArray 24)).alloc (.cells ([.int .u16 0, .int .u8 0, .int .u8 0, .int .u8 0, .int .u8 0] : List Value).toArray 24)).trans k1)
  have c0 := blk_cell B0
  have y0 := blk_lt R0
  clear k1
  go_wp2_with (first
    | ((with_reducible refine at_st 22 ?_); refine wl_store rfl rfl rfl rfl B0 (by kernel_rfl) rfl (Nat.le_of_ble_eq_true rfl) (fun v0 p0 => ?_); have B1 : Blk v0 w.heap.size 24 [.int .u16 0, .int .u8 ta, .int .u8 tm, .int .u8 tc, .int .u8 ts] := p0.blk; have R1 := p0.other _ _ _ (Nat.succ_ne_self _) R0; have K1 := hid (p0.kept _ K0.out (Nat.le_refl _)); have c1 := blk_cell B1; have y1 := blk_lt R1; clear p0 B0 R0 c0 y0 K0))
  refine (HB.out _).mono ?_
  rintro e x2 ⟨rfl, k2⟩
  have B2 : Blk x2 w.heap.size 24 [.int .u16 0, .int .u8 ta, .int .u8 tm, .int .u8 tc, .int .u8 ts] := blk_kept k2 B1
  have R2 := blk_kept k2 R1
  have K2 := hid (K1.out.trans k2)
  have c2 := blk_cell B2
  have y2 := blk_lt R2
  clear k2 B1 R1 c1 y1 K1
  go_wp2_with fail
  refine (HC.out _).mono ?_
  rintro e x3 ⟨rfl, k3⟩
  have B3 : Blk x3 w.heap.size 24 [.int .u16 0, .int .u8 ta, .int .u8 tm, .int .u8 tc, .int .u8 ts] := blk_kept k3 B2
  have R3 := blk_kept k3 R2
  have K3 := hid (K2.out.trans k3)
  have c3 := blk_cell B3
  have y3 := blk_lt R3
  clear k3 B2 R2 c2 y2 K2
  go_wp2_with (first
    | ((with_reducible refine at_st 24 ?_); refine wl_store rfl rfl rfl rfl B3 (by kernel_rfl) rfl (Nat.le_of_ble_eq_true rfl) (fun v3 p3 => ?_); have B4 : Blk v3 w.heap.size 24 [.int .u16 C.div, .int .u8 C.tima, .int .u8 C.tma, .int .u8 C.tac, .int .u8 C.st] := p3.blk; have R4 := p3.other _ _ _ (Nat.succ_ne_self _) R3; have K4 := hid (p3.kept _ K3.out (Nat.le_refl _)); have c4 := blk_cell B4; have y4 := blk_lt R4; clear p3 B3 R3 c3 y3 K3)
    | ((with_reducible refine at_st 24 ?_); refine wl_store rfl rfl rfl rfl R4 (by kernel_rfl) rfl (Nat.le_of_ble_eq_true rfl) (fun vr pr => ?_); have RF : Blk vr (w.heap.size + 1) 24 [.int .u16 C.div, .int .u8 C.tima, .int .u8 C.tma, .int .u8 C.tac, .int .u8 C.st] := pr.blk; have KF := hid (pr.kept _ K4.out (Nat.le_succ _)); clear pr))
  exact bodyPost_ret (res_cell Tryd.results17 rfl RF Tryd.underlying24 rfl (by kernel_rfl)) rfl ⟨rfl, KF.out⟩
set_option maxRecDepth 100000 in
set_option maxHeartbeats 4000000 in
theorem rwr11b1 (t : Tm) (a v : Int) (w : World) (I : TmIn t) (a0 : 0 ≤ a) (a1 : a ≤ 65535) (v0 : 0 ≤ v) (v1 : v ≤ 255) (ha : a = 65285) (hs : t.st = 1) : Calls Tryd.prog 17 #[tmV t, .int .u16 a, .int .u8 v] w fun e w' => e = .returned (tmV (writeT t a v)) ∧ Kept w w' := by
  subst ha
  have E : writeT t 65285 v = ⟨t.div, v, t.tma, t.tac, 0⟩ := by
    show (if t.st = 1 then _ else _) = _
    rw [if_pos hs]
  rw [E]
  have HA := hid (fun u => rhot11 t u I)
  generalize hotT t = H1 at HA
  obtain ⟨dv, ta, tm, tc, ts⟩ := t
  have d0 := I.d0
  have d1 := I.d1
  have b0 := I.a0
  have b1 := I.a1
  have s0 := I.s0
  have s1 := I.s1
  simp only at d0 d1 b0 b1 s0 s1
  try simp only at HA ⊢
  simp only at hs
  subst hs
  clear E I
  go_enter Tryd.func17, Tryd.ntmps17
  go_wp2_with fail
  refine (HA.out _).mono ?_
  rintro e u1 ⟨rfl, k1⟩
  have B0 : Blk u1 w.heap.size 24 [.int .u16 dv, .int .u8 ta, .int .u8 tm, .int .u8 tc, .int .u8 1] := blk_kept k1 (blk_past (blk_new w _ _) _)
  have R0 : Blk u1 (w.heap.size + 1) 24 [.int .u16 0, .int .u8 0, .int .u8 0, .int .u8 0, .int .u8 0] := blk_kept k1 (by have q := blk_new (w.alloc (.cells ([.int .u16 dv, .int .u8 ta, .int .u8 tm, .int .u8 tc, .int .u8 1] : List Value).toArray 24)) [.int .u16 0, .int .u8 0, .int .u8 0, .int .u8 0, .int .u8 0] 24; rw [World.size_alloc] at q; exact q)
  have K0 := hid ((((Kept.refl w).alloc (.cells ([.int .u16 dv, .int .u8 ta, .int .u8 tm, .int .u8 tc, .int .u8 1] : List Value).toArray 24)).alloc (.cells ([.int .u16 0, .int .u8 0, .int .u8 0, .int .u8 0, .int .u8 0] : List Value).toArray 24)).trans k1)
  have c0 := blk_cell B0
  have y0 := blk_lt R0
  clear k1
  go_wp2_with (first
    | ((with_reducible refine at_st 5 ?_); refine wl_store rfl rfl rfl rfl B0 (by kernel_rfl) rfl (Nat.le_of_ble_eq_true rfl) (fun v0 p0 => ?_); have B1 : Blk v0 w.heap.size 24 [.int .u16 dv, .int .u8 v, .int .u8 tm, .int .u8 tc, .int .u8 1] := p0.blk; have R1 := p0.other _ _ _ (Nat.succ_ne_self _) R0; have K1 := hid (p0.kept _ K0.out (Nat.le_refl _)); have c1 := blk_cell B1; have y1 := blk_lt R1; clear p0 B0 R0 c0 y0 K0)
    | ((with_reducible refine at_st 5 ?_); refine wl_store rfl rfl rfl rfl B1 (by kernel_rfl) rfl (Nat.le_of_ble_eq_true rfl) (fun v1 p1 => ?_); have B2 : Blk v1 w.heap.size 24 [.int .u16 dv, .int .u8 v, .int .u8 tm, .int .u8 tc, .int .u8 0] := p1.blk; have R2 := p1.other _ _ _ (Nat.succ_ne_self _) R1; have K2 := hid (p1.kept _ K1.out (Nat.le_refl _)); have c2 := blk_cell B2; have y2 := blk_lt R2; clear p1 B1 R1 c1 y1 K1)
    | ((with_reducible refine at_st 24 ?_); refine wl_store rfl rfl rfl rfl R2 (by kernel_rfl) rfl (Nat.le_of_ble_eq_true rfl) (fun vr pr => ?_); have RF : Blk vr (w.heap.size + 1) 24 [.int .u16 dv, .int .u8 v, .int .u8 tm, .int .u8 tc, .int .u8 0] := pr.blk; have KF := hid (pr.kept _ K2.out (Nat.le_succ _)); clear pr))
  exact bodyPost_ret (res_cell Tryd.results17 rfl RF Tryd.underlying24 rfl (by kernel_rfl)) rfl ⟨rfl, KF.out⟩
set_option maxRecDepth 100000 in
set_option maxHeartbeats 4000000 in
theorem rwr11b2 (t : Tm) (a v : Int) (w : World) (I : TmIn t) (a0 : 0 ≤ a) (a1 : a ≤ 65535) (v0 : 0 ≤ v) (v1 : v ≤ 255) (ha : a = 65285) (hs : t.st = 2) : Calls Tryd.prog 17 #[tmV t, .int .u16 a, .int .u8 v] w fun e w' => e = .returned (tmV (writeT t a v)) ∧ Kept w w' := by
  subst ha
  have E : writeT t 65285 v = t := by
    show (if t.st = 1 then _ else if t.st = 2 then _ else _) = _
    rw [if_neg (by omega), if_pos hs]
  rw [E]
  have HA := hid (fun u => rhot11 t u I)
  generalize hotT t = H1 at HA
  obtain ⟨dv, ta, tm, tc, ts⟩ := t
  have d0 := I.d0
  have d1 := I.d1
  have b0 := I.a0
  have b1 := I.a1
  have s0 := I.s0
  have s1 := I.s1
  simp only at d0 d1 b0 b1 s0 s1
  try simp only at HA ⊢
  simp only at hs
  subst hs
  clear E I
  go_enter Tryd.func17, Tryd.ntmps17
  go_wp2_with fail
  refine (HA.out _).mono ?_
  rintro e u1 ⟨rfl, k1⟩
  have B0 : Blk u1 w.heap.size 24 [.int .u16 dv, .int .u8 ta, .int .u8 tm, .int .u8 tc, .int .u8 2] := blk_kept k1 (blk_past (blk_new w _ _) _)
  have R0 : Blk u1 (w.heap.size + 1) 24 [.int .u16 0, .int .u8 0, .int .u8 0, .int .u8 0, .int .u8 0] := blk_kept k1 (by have q := blk_new (w.alloc (.cells ([.int .u16 dv, .int .u8 ta, .int .u8 tm, .int .u8 tc, .int .u8 2] : List Value).toArray 24)) [.int .u16 0, .int .u8 0, .int .u8 0, .int .u8 0, .int .u8 0] 24; rw [World.size_alloc] at q; exact q)
  have K0 := hid ((((Kept.refl w).alloc (.cells ([.int .u16 dv, .int .u8 ta, .int .u8 tm, .int .u8 tc, .int .u8 2] : List Value).toArray 24)).alloc (.cells ([.int .u16 0, .int .u8 0, .int .u8 0, .int .u8 0, .int .u8 0] : List Value).toArray 24)).trans k1)
  have c0 := blk_cell B0
  have y0 := blk_lt R0
  clear k1
  go_wp2_with (first
    | ((with_reducible refine at_st 24 ?_); refine wl_store rfl rfl rfl rfl R0 (by kernel_rfl) rfl (Nat.le_of_ble_eq_true rfl) (fun vr pr => ?_); have RF : Blk vr (w.heap.size + 1) 24 [.int .u16 dv, .int .u8 ta, .int .u8 tm, .int .u8 tc, .int .u8 2] := pr.blk; have KF := hid (pr.kept _ K0.out (Nat.le_succ _)); clear pr))
  exact bodyPost_ret (res_cell Tryd.results17 rfl RF Tryd.underlying24 rfl (by kernel_rfl)) rfl ⟨rfl, KF.out⟩
set_option maxRecDepth 100000 in
set_option maxHeartbeats 4000000 in
theorem rwr11b0 (t : Tm) (a v : Int) (w : World) (I : TmIn t) (a0 : 0 ≤ a) (a1 : a ≤ 65535) (v0 : 0 ≤ v) (v1 : v ≤ 255) (ha : a = 65285) (hs : t.st ≠ 1) (hs2 : t.st ≠ 2) : Calls Tryd.prog 17 #[tmV t, .int .u16 a, .int .u8 v] w fun e w' => e = .returned (tmV (writeT t a v)) ∧ Kept w w' := by
  subst ha
  have E : writeT t 65285 v = ⟨t.div, v, t.tma, t.tac, t.st⟩ := by
    show (if t.st = 1 then _ else if t.st = 2 then _ else _) = _
    rw [if_neg hs, if_neg hs2]
  rw [E]
  have HA := hid (fun u => rhot11 t u I)
  generalize hotT t = H1 at HA
  obtain ⟨dv, ta, tm, tc, ts⟩ := t
  have d0 := I.d0
  have d1 := I.d1
  have b0 := I.a0
  have b1 := I.a1
  have s0 := I.s0
  have s1 := I.s1
  simp only at d0 d1 b0 b1 s0 s1
  try simp only at HA ⊢
  simp only at hs hs2
  have g1 : (ts == 1) = false := by simpa using hs
  have g2 : (ts != 2) = true := by simpa using hs2
  clear E I
  go_enter Tryd.func17, Tryd.ntmps17
  go_wp2_with fail
  refine (HA.out _).mono ?_
  rintro e u1 ⟨rfl, k1⟩
  have B0 : Blk u1 w.heap.size 24 [.int .u16 dv, .int .u8 ta, .int .u8 tm, .int .u8 tc, .int .u8 ts] := blk_kept k1 (blk_past (blk_new w _ _) _)
  have R0 : Blk u1 (w.heap.size + 1) 24 [.int .u16 0, .int .u8 0, .int .u8 0, .int .u8 0, .int .u8 0] := blk_kept k1 (by have q := blk_new (w.alloc (.cells ([.int .u16 dv, .int .u8 ta, .int .u8 tm, .int .u8 tc, .int .u8 ts] : List Value).toArray 24)) [.int .u16 0, .int .u8 0, .int .u8 0, .int .u8 0, .int .u8 0] 24; rw [World.size_alloc] at q; exact q)
  have K0 := hid ((((Kept.refl w).alloc (.cells ([.int .u16 dv, .int .u8 ta, .int .u8 tm, .int .u8 tc, .int .u8 ts] : List Value).toArray 24)).alloc (.cells ([.int .u16 0, .int .u8 0, .int .u8 0, .int .u8 0, .int .u8 0] : List Value).toArray 24)).trans k1)
  have c0 := blk_cell B0
  have y0 := blk_lt R0
  clear k1
  go_wp2_with (first
    | ((with_reducible refine at_st 5 ?_); refine wl_store rfl rfl rfl rfl B0 (by kernel_rfl) rfl (Nat.le_of_ble_eq_true rfl) (fun v0 p0 => ?_); have B1 : Blk v0 w.heap.size 24 [.int .u16 dv, .int .u8 v, .int .u8 tm, .int .u8 tc, .int .u8 ts] := p0.blk; have R1 := p0.other _ _ _ (Nat.succ_ne_self _) R0; have K1 := hid (p0.kept _ K0.out (Nat.le_refl _)); have c1 := blk_cell B1; have y1 := blk_lt R1; clear p0 B0 R0 c0 y0 K0)
    | ((with_reducible refine at_st 24 ?_); refine wl_store rfl rfl rfl rfl R1 (by kernel_rfl) rfl (Nat.le_of_ble_eq_true rfl) (fun vr pr => ?_); have RF : Blk vr (w.heap.size + 1) 24 [.int .u16 dv, .int .u8 v, .int .u8 tm, .int .u8 tc, .int .u8 ts] := pr.blk; have KF := hid (pr.kept _ K1.out (Nat.le_succ _)); clear pr))
  exact bodyPost_ret (res_cell Tryd.results17 rfl RF Tryd.underlying24 rfl (by kernel_rfl)) rfl ⟨rfl, KF.out⟩
set_option maxRecDepth 100000 in
set_option maxHeartbeats 4000000 in
theorem rwr11c2 (t : Tm) (a v : Int) (w : World) (I : TmIn t) (a0 : 0 ≤ a) (a1 : a ≤ 65535) (v0 : 0 ≤ v) (v1 : v ≤ 255) (ha : a = 65286) (hs : t.st = 2) : Calls Tryd.prog 17 #[tmV t, .int .u16 a, .int .u8 v] w fun e w' => e = .returned (tmV (writeT t a v)) ∧ Kept w w' := by
  subst ha
  have E : writeT t 65286 v = ⟨t.div, v, v, t.tac, t.st⟩ := by
    show (if t.st = 2 then _ else _) = _
    rw [if_pos hs]
  rw [E]
  have HA := hid (fun u => rhot11 t u I)
  generalize hotT t = H1 at HA
  obtain ⟨dv, ta, tm, tc, ts⟩ := t
  have d0 := I.d0
  have d1 := I.d1
  have b0 := I.a0
  have b1 := I.a1
  have s0 := I.s0
  have s1 := I.s1
  simp only at d0 d1 b0 b1 s0 s1
  try simp only at HA ⊢
  simp only at hs
  subst hs
  clear E I
  go_enter Tryd.func17, Tryd.ntmps17
  go_wp2_with fail
  refine (HA.out _).mono ?_
  rintro e u1 ⟨rfl, k1⟩
  have B0 : Blk u1 w.heap.size 24 [.int .u16 dv, .int .u8 ta, .int .u8 tm, .int .u8 tc, .int .u8 2] := blk_kept k1 (blk_past (blk_new w _ _) _)
  have R0 : Blk u1 (w.heap.size + 1) 24 [.int .u16 0, .int .u8 0, .int .u8 0, .int .u8 0, .int .u8 0] := blk_kept k1 (by have q := blk_new (w.alloc (.cells ([.int .u16 dv, .int .u8 ta, .int .u8 tm, .int .u8 tc, .int .u8 2] : List Value).toArray 24)) [.int .u16 0, .int .u8 0, .int .u8 0, .int .u8 0, .int .u8 0] 24; rw [World.size_alloc] at q; exact q)
  have K0 := hid ((((Kept.refl w).alloc (.cells ([.int .u16 dv, .int .u8 ta, .int .u8 tm, .int .u8 tc, .int .u8 2] : List Value).toArray 24)).alloc (.cells ([.int .u16 0, .int .u8 0, .int .u8 0, .int .u8 0, .int .u8 0] : List Value).toArray 24)).trans k1)
  have c0 := blk_cell B0
  have y0 := blk_lt R0
  clear k1
  go_wp2_with (first
    | ((with_reducible refine at_st 5 ?_); refine wl_store rfl rfl rfl rfl B0 (by kernel_rfl) rfl (Nat.le_of_ble_eq_true rfl) (fun v0 p0 => ?_); have B1 : Blk v0 w.heap.size 24 [.int .u16 dv, .int .u8 ta, .int .u8 v, .int .u8 tc, .int .u8 2] := p0.blk; have R1 := p0.other _ _ _ (Nat.succ_ne_self _) R0; have K1 := hid (p0.kept _ K0.out (Nat.le_refl _)); have c1 := blk_cell B1; have y1 := blk_lt R1; clear p0 B0 R0 c0 y0 K0)
    | ((with_reducible refine at_st 5 ?_); refine wl_store rfl rfl rfl rfl B1 (by kernel_rfl) rfl (Nat.le_of_ble_eq_true rfl) (fun v1 p1 => ?_); have B2 : Blk v1 w.heap.size 24 [.int .u16 dv, .int .u8 v, .int .u8 v, .int .u8 tc, .int .u8 2] := p1.blk; have R2 := p1.other _ _ _ (Nat.succ_ne_self _) R1; have K2 := hid (p1.kept _ K1.out (Nat.le_refl _)); have c2 := blk_cell B2; have y2 := blk_lt R2; clear p1 B1 R1 c1 y1 K1)
    | ((with_reducible refine at_st 24 ?_); refine wl_store rfl rfl rfl rfl R2 (by kernel_rfl) rfl (Nat.le_of_ble_eq_true rfl) (fun vr pr => ?_); have RF : Blk vr (w.heap.size + 1) 24 [.int .u16 dv, .int .u8 v, .int .u8 v, .int .u8 tc, .int .u8 2] := pr.blk; have KF := hid (pr.kept _ K2.out (Nat.le_succ _)); clear pr))
  exact bodyPost_ret (res_cell Tryd.results17 rfl RF Tryd.underlying24 rfl (by kernel_rfl)) rfl ⟨rfl, KF.out⟩
set_option maxRecDepth 100000 in
set_option maxHeartbeats 4000000 in
theorem rwr11c0 (t : Tm) (a v : Int) (w : World) (I : TmIn t) (a0 : 0 ≤ a) (a1 : a ≤ 65535) (v0 : 0 ≤ v) (v1 : v ≤ 255) (ha : a = 65286) (hs : t.st ≠ 2) : Calls Tryd.prog 17 #[tmV t, .int .u16 a, .int .u8 v] w fun e w' => e = .returned (tmV (writeT t a v)) ∧ Kept w w' := by
  subst ha
  have E : writeT t 65286 v = ⟨t.div, t.tima, v, t.tac, t.st⟩ := by
    show (if t.st = 2 then _ else _) = _
    rw [if_neg hs]
  rw [E]
  have HA := hid (fun u => rhot11 t u I)
  generalize hotT t = H1 at HA
  obtain ⟨dv, ta, tm, tc, ts⟩ := t
  have d0 := I.d0
  have d1 := I.d1
  have b0 := I.a0
  have b1 := I.a1
  have s0 := I.s0
  have s1 := I.s1
  simp only at d0 d1 b0 b1 s0 s1
  try simp only at HA ⊢
  simp only at hs
  have g1 : (ts == 2) = false := by simpa using hs
  clear E I
  go_enter Tryd.func17, Tryd.ntmps17
  go_wp2_with fail
  refine (HA.out _).mono ?_
  rintro e u1 ⟨rfl, k1⟩
  have B0 : Blk u1 w.heap.size 24 [.int .u16 dv, .int .u8 ta, .int .u8 tm, .int .u8 tc, .int .u8 ts] := blk_kept k1 (blk_past (blk_new w _ _) _)
  have R0 : Blk u1 (w.heap.size + 1) 24 [.int .u16 0, .int .u8 0, .int .u8 0, .int .u8 0, .int .u8 0] := blk_kept k1 (by have q := blk_new (w.alloc (.cells ([.int .u16 dv, .int .u8 ta, .int .u8 tm, .int .u8 tc, .int .u8 ts] : List Value).toArray 24)) [.int .u16 0, .int .u8 0, .int .u8 0, .int .u8 0, .int .u8 0] 24; rw [World.size_alloc] at q; exact q)
  have K0 := hid ((((Kept.refl w).alloc (.cells ([.int .u16 dv, .int .u8 ta, .int .u8 tm, .int .u8 tc, .int .u8 ts] : List Value).toArray 24)).alloc (.cells ([.int .u16 0, .int .u8 0, .int .u8 0, .int .u8 0, .int .u8 0] : List Value).toArray 24)).trans k1)
  have c0 := blk_cell B0
  have y0 := blk_lt R0
  clear k1
  go_wp2_with (first
    | ((with_reducible refine at_st 5 ?_); refine wl_store rfl rfl rfl rfl B0 (by kernel_rfl) rfl (Nat.le_of_ble_eq_true rfl) (fun v0 p0 => ?_); have B1 : Blk v0 w.heap.size 24 [.int .u16 dv, .int .u8 ta, .int .u8 v, .int .u8 tc, .int .u8 ts] := p0.blk; have R1 := p0.other _ _ _ (Nat.succ_ne_self _) R0; have K1 := hid (p0.kept _ K0.out (Nat.le_refl _)); have c1 := blk_cell B1; have y1 := blk_lt R1; clear p0 B0 R0 c0 y0 K0)
    | ((with_reducible refine at_st 24 ?_); refine wl_store rfl rfl rfl rfl R1 (by kernel_rfl) rfl (Nat.le_of_ble_eq_true rfl) (fun vr pr => ?_); have RF : Blk vr (w.heap.size + 1) 24 [.int .u16 dv, .int .u8 ta, .int .u8 v, .int .u8 tc, .int .u8 ts] := pr.blk; have KF := hid (pr.kept _ K1.out (Nat.le_succ _)); clear pr))
  exact bodyPost_ret (res_cell Tryd.results17 rfl RF Tryd.underlying24 rfl (by kernel_rfl)) rfl ⟨rfl, KF.out⟩
set_option maxRecDepth 100000 in
set_option maxHeartbeats 4000000 in
theorem rwr11d0 (t : Tm) (a v : Int) (w : World) (I : TmIn t) (a0 : 0 ≤ a) (a1 : a ≤ 65535) (v0 : 0 ≤ v) (v1 : v ≤ 255) (IW : TmIn (⟨t.div, t.tima, t.tma, v % 8, t.st⟩ : Tm)) (ha : a = 65287) (h1 : hotT t = false) : Calls Tryd.prog 17 #[tmV t, .int .u16 a, .int .u8 v] w fun e w' => e = .returned (tmV (writeT t a v)) ∧ Kept w w' := by
  subst ha
  have IN : TmIn (⟨t.div, t.tima, t.tma, v % 8, t.st⟩ : Tm) := IW
  have E : writeT t 65287 v = (⟨t.div, t.tima, t.tma, v % 8, t.st⟩ : Tm) := by
    show fallT t (⟨t.div, t.tima, t.tma, v % 8, t.st⟩ : Tm) = _
    unfold fallT
    rw [if_neg (by rw [h1]; simp)]
  rw [E]
  have HA := hid (fun u => rhot11 t u I)
  rw [h1] at HA
  obtain ⟨dv, ta, tm, tc, ts⟩ := t
  have d0 := I.d0
  have d1 := I.d1
  have b0 := I.a0
  have b1 := I.a1
  have s0 := I.s0
  have s1 := I.s1
  simp only at d0 d1 b0 b1 s0 s1
  try simp only at HA ⊢
  have e3 : Int.tmod v 8 = v % 8 := Int.tmod_eq_emod_of_nonneg v0
  clear E IN IW I h1
  go_enter Tryd.func17, Tryd.ntmps17
  go_wp2_with fail
  refine (HA.out _).mono ?_
  rintro e u1 ⟨rfl, k1⟩
  have B0 : Blk u1 w.heap.size 24 [.int .u16 dv, .int .u8 ta, .int .u8 tm, .int .u8 tc, .int .u8 ts] := blk_kept k1 (blk_past (blk_new w _ _) _)
  have R0 : Blk u1 (w.heap.size + 1) 24 [.int .u16 0, .int .u8 0, .int .u8 0, .int .u8 0, .int .u8 0] := blk_kept k1 (by have q := blk_new (w.alloc (.cells ([.int .u16 dv, .int .u8 ta, .int .u8 tm, .int .u8 tc, .int .u8 ts] : List Value).toArray 24)) [.int .u16 0, .int .u8 0, .int .u8 0, .int .u8 0, .int .u8 0] 24; rw [World.size_alloc] at q; exact q)
  have K0 := hid ((((Kept.refl w).alloc (.cells ([.int .u16 dv, .int .u8 ta, .int .u8 tm, .int .u8 tc, .int .u8 ts] : List Value).toArray 24)).alloc (.cells ([.int .u16 0, .int .u8 0, .int .u8 0, .int .u8 0, .int .u8 0] : List Value).toArray 24)).trans k1)
  have c0 := blk_cell B0
  have y0 := blk_lt R0
  clear k1
  go_wp2_with (first
    | ((with_reducible refine at_st 5 ?_); refine wl_store rfl rfl rfl rfl B0 (by kernel_rfl) rfl (Nat.le_of_ble_eq_true rfl) (fun v0 p0 => ?_); have B1 : Blk v0 w.heap.size 24 [.int .u16 dv, .int .u8 ta, .int .u8 tm, .int .u8 (v % 8), .int .u8 ts] := p0.blk; have R1 := p0.other _ _ _ (Nat.succ_ne_self _) R0; have K1 := hid (p0.kept _ K0.out (Nat.le_refl _)); have c1 := blk_cell B1; have y1 := blk_lt R1; clear p0 B0 R0 c0 y0 K0)
    | ((with_reducible refine at_st 24 ?_); refine wl_store rfl rfl rfl rfl R1 (by kernel_rfl) rfl (Nat.le_of_ble_eq_true rfl) (fun vr pr => ?_); have RF : Blk vr (w.heap.size + 1) 24 [.int .u16 dv, .int .u8 ta, .int .u8 tm, .int .u8 (v % 8), .int .u8 ts] := pr.blk; have KF := hid (pr.kept _ K1.out (Nat.le_succ _)); clear pr))
  exact bodyPost_ret (res_cell Tryd.results17 rfl RF Tryd.underlying24 rfl (by kernel_rfl)) rfl ⟨rfl, KF.out⟩
set_option maxRecDepth 100000 in
set_option maxHeartbeats 4000000 in
theorem rwr11d1 (t : Tm) (a v : Int) (w : World) (I : TmIn t) (a0 : 0 ≤ a) (a1 : a ≤ 65535) (v0 : 0 ≤ v) (v1 : v ≤ 255) (IW : TmIn (⟨t.div, t.tima, t.tma, v % 8, t.st⟩ : Tm)) (ha : a = 65287) (h1 : hotT t = true) (h2 : hotT (⟨t.div, t.tima, t.tma, v % 8, t.st⟩ : Tm) = true) : Calls Tryd.prog 17 #[tmV t, .int .u16 a, .int .u8 v] w fun e w' => e = .returned (tmV (writeT t a v)) ∧ Kept w w' := by
  subst ha
  have IN : TmIn (⟨t.div, t.tima, t.tma, v % 8, t.st⟩ : Tm) := IW
  have E : writeT t 65287 v = (⟨t.div, t.tima, t.tma, v % 8, t.st⟩ : Tm) := by
    show fallT t (⟨t.div, t.tima, t.tma, v % 8, t.st⟩ : Tm) = _
    unfold fallT
    rw [if_neg (by rw [h2]; simp)]
  rw [E]
  have HA := hid (fun u => rhot11 t u I)
  rw [h1] at HA
  have HB := hid (fun u => rhot11 (_ : Tm) u IN)
  rw [h2] at HB
  obtain ⟨dv, ta, tm, tc, ts⟩ := t
  have d0 := I.d0
  have d1 := I.d1
  have b0 := I.a0
  have b1 := I.a1
  have s0 := I.s0
  have s1 := I.s1
  simp only at d0 d1 b0 b1 s0 s1
  try simp only at HA HB ⊢
  have e3 : Int.tmod v 8 = v % 8 := Int.tmod_eq_emod_of_nonneg v0
  clear E IN IW I h1 h2
  go_enter Tryd.func17, Tryd.ntmps17
  go_wp2_with fail
  refine (HA.out _).mono ?_
  rintro e u1 ⟨rfl, k1⟩
  have B0 : Blk u1 w.heap.size 24 [.int .u16 dv, .int .u8 ta, .int .u8 tm, .int .u8 tc, .int .u8 ts] := blk_kept k1 (blk_past (blk_new w _ _) _)
  have R0 : Blk u1 (w.heap.size + 1) 24 [.int .u16 0, .int .u8 0, .int .u8 0, .int .u8 0, .int .u8 0] := blk_kept k1 (by have q := blk_new (w.alloc (.cells ([.int .u16 dv, .int .u8 ta, .int .u8 tm, .int .u8 tc, .int .u8 ts] : List Value).toArray 24)) [.int .u16 0, .int .u8 0, .int .u8 0, .int .u8 0, .int .u8 0] 24; rw [World.size_alloc] at q; exact q)
  have K0 := hid ((((Kept.refl w).alloc (.cells ([.int .u16 dv, .int .u8 ta, .int .u8 tm, .int .u8 tc, .int .u8 ts] : List Value).toArray 24)).alloc (.cells ([.int .u16 0, .int .u8 0, .int .u8 0, .int .u8 0, .int .u8 0] : List Value).toArray 24)).trans k1)
  have c0 := blk_cell B0
  have y0 := blk_lt R0
  clear k1
  go_wp2_with (first
    | ((with_reducible refine at_st 5 ?_); refine wl_store rfl rfl rfl rfl B0 (by kernel_rfl) rfl (Nat.le_of_ble_eq_true rfl) (fun v0 p0 => ?_); have B1 : Blk v0 w.heap.size 24 [.int .u16 dv, .int .u8 ta, .int .u8 tm, .int .u8 (v % 8), .int .u8 ts] := p0.blk; have R1 := p0.other _ _ _ (Nat.succ_ne_self _) R0; have K1 := hid (p0.kept _ K0.out (Nat.le_refl _)); have c1 := blk_cell B1; have y1 := blk_lt R1; clear p0 B0 R0 c0 y0 K0))
  refine (HB.out _).mono ?_
  rintro e x2 ⟨rfl, k2⟩
  have B2 : Blk x2 w.heap.size 24 [.int .u16 dv, .int .u8 ta, .int .u8 tm, .int .u8 (v % 8), .int .u8 ts] := blk_kept k2 B1
  have R2 := blk_kept k2 R1
  have K2 := hid (K1.out.trans k2)
  have c2 := blk_cell B2
  have y2 := blk_lt R2
  clear k2 B1 R1 c1 y1 K1
  go_wp2_with (first
    | ((with_reducible refine at_st 24 ?_); refine wl_store rfl rfl rfl rfl R2 (by kernel_rfl) rfl (Nat.le_of_ble_eq_true rfl) (fun vr pr => ?_); have RF : Blk vr (w.heap.size + 1) 24 [.int .u16 dv, .int .u8 ta, .int .u8 tm, .int .u8 (v % 8), .int .u8 ts] := pr.blk; have KF := hid (pr.kept _ K2.out (Nat.le_succ _)); clear pr))
  exact bodyPost_ret (res_cell Tryd.results17 rfl RF Tryd.underlying24 rfl (by kernel_rfl)) rfl ⟨rfl, KF.out⟩
set_option maxRecDepth 100000 in
set_option maxHeartbeats 4000000 in
theorem rwr11d2 (t : Tm) (a v : Int) (w : World) (I : TmIn t) (a0 : 0 ≤ a) (a1 : a ≤ 65535) (v0 : 0 ≤ v) (v1 : v ≤ 255) (IW : TmIn (⟨t.div, t.tima, t.tma, v % 8, t.st⟩ : Tm)) (ha : a = 65287) (h1 : hotT t = true) (h2 : hotT (⟨t.div, t.tima, t.tma, v % 8, t.st⟩ : Tm) = false) : Calls Tryd.prog 17 #[tmV t, .int .u16 a, .int .u8 v] w fun e w' => e = .returned (tmV (writeT t a v)) ∧ Kept w w' := by
  subst ha
  have IN : TmIn (⟨t.div, t.tima, t.tma, v % 8, t.st⟩ : Tm) := IW
  have E : writeT t 65287 v = countT (⟨t.div, t.tima, t.tma, v % 8, t.st⟩ : Tm) := by
    show fallT t (⟨t.div, t.tima, t.tma, v % 8, t.st⟩ : Tm) = _
    unfold fallT
    rw [if_pos ⟨h1, h2⟩]
  rw [E]
  have HA := hid (fun u => rhot11 t u I)
  rw [h1] at HA
  have HB := hid (fun u => rhot11 (_ : Tm) u IN)
  rw [h2] at HB
  have HC := hid (fun u => rcount11 (_ : Tm) u IN)
  obtain ⟨dv, ta, tm, tc, ts⟩ := t
  have d0 := I.d0
  have d1 := I.d1
  have b0 := I.a0
  have b1 := I.a1
  have s0 := I.s0
  have s1 := I.s1
  simp only at d0 d1 b0 b1 s0 s1
  try simp only at HA HB HC ⊢
  generalize countT (⟨dv, ta, tm, v % 8, ts⟩ : Tm) = C at *
  have e3 : Int.tmod v 8 = v % 8 := Int.tmod_eq_emod_of_nonneg v0
  clear E IN IW I h1 h2
  go_enter Tryd.func17, Tryd.ntmps17
  go_wp2_with fail
  refine (HA.out _).mono ?_
  rintro e u1 ⟨rfl, k1⟩
  have B0 : Blk u1 w.heap.size 24 [.int .u16 dv, .int .u8 ta, .int .u8 tm, .int .u8 tc, .int .u8 ts] := blk_kept k1 (blk_past (blk_new w _ _) _)
  have R0 : Blk u1 (w.heap.size + 1) 24 [.int .u16 0, .int .u8 0, .int .u8 0, .int .u8 0, .int .u8 0] := blk_kept k1 (by have q := blk_new (w.alloc (.cells ([.int .u16 dv, .int .u8 ta, .int .u8 tm, .int .u8 tc, .int .u8 ts] : List Value).toArray 24)) [.int .u16 0, .int .u8 0, .int .u8 0, .int .u8 0, .int .u8 0] 24; rw [World.size_alloc] at q; exact q)
  have K0 := hid ((((Kept.refl w).alloc (.cells ([.int .u16 dv, .int .u8 ta, .int .u8 tm, .int .u8 tc, .int .u8 ts] : List Value).toArray 24)).alloc (.cells ([.int .u16 0, .int .u8 0, .int .u8 0, .int .u8 0, .int .u8 0] : List Value).toArray 24)).trans k1)
  have c0 := blk_cell B0
  have y0 := blk_lt R0
  clear k1
  go_wp2_with (first
    | ((with_reducible refine at_st 5 ?_); refine wl_store rfl rfl rfl rfl B0 (by kernel_rfl) rfl (Nat.le_of_ble_eq_true rfl) (fun v0 p0 => ?_); have B1 : Blk v0 w.heap.size 24 [.int .u16 dv, .int .u8 ta, .int .u8 tm, .int .u8 (v % 8), .int .u8 ts] := p0.blk; have R1 := p0.other _ _ _ (Nat.succ_ne_self _) R0; have K1 := hid (p0.kept _ K0.out (Nat.le_refl _)); have c1 := blk_cell B1; have y1 := blk_lt R1; clear p0 B0 R0 c0 y0 K0))
  refine (HB.out _).mono ?_
  rintro e x2 ⟨rfl, k2⟩
  have B2 : Blk x2 w.heap.size 24 [.int .u16 dv, .int .u8 ta, .int .u8 tm, .int .u8 (v % 8), .int .u8 ts] := blk_kept k2 B1
  have R2 := blk_kept k2 R1
  have K2 := hid (K1.out.trans k2)
  have c2 := blk_cell B2
  have y2 := blk_lt R2
  clear k2 B1 R1 c1 y1 K1
  go_wp2_with fail
  refine (HC.out _).mono ?_
  rintro e x3 ⟨rfl, k3⟩
  have B3 : Blk x3 w.heap.size 24 [.int .u16 dv, .int .u8 ta, .int .u8 tm, .int .u8 (v % 8), .int .u8 ts] := blk_kept k3 B2
  have R3 := blk_kept k3 R2
  have K3 := hid (K2.out.trans k3)
  have c3 := blk_cell B3
  have y3 := blk_lt R3
  clear k3 B2 R2 c2 y2 K2
  go_wp2_with (first
    | ((with_reducible refine at_st 24 ?_); refine wl_store rfl rfl rfl rfl B3 (by kernel_rfl) rfl (Nat.le_of_ble_eq_true rfl) (fun v3 p3 => ?_); have B4 : Blk v3 w.heap.size 24 [.int .u16 C.div, .int .u8 C.tima, .int .u8 C.tma, .int .u8 C.tac, .int .u8 C.st] := p3.blk; have R4 := p3.other _ _ _ (Nat.succ_ne_self _) R3; have K4 := hid (p3.kept _ K3.out (Nat.le_refl _)); have c4 := blk_cell B4; have y4 := blk_lt R4; clear p3 B3 R3 c3 y3 K3)
    | ((with_reducible refine at_st 24 ?_); refine wl_store rfl rfl rfl rfl R4 (by kernel_rfl) rfl (Nat.le_of_ble_eq_true rfl) (fun vr pr => ?_); have RF : Blk vr (w.heap.size + 1) 24 [.int .u16 C.div, .int .u8 C.tima, .int .u8 C.tma, .int .u8 C.tac, .int .u8 C.st] := pr.blk; have KF := hid (pr.kept _ K4.out (Nat.le_succ _)); clear pr))
  exact bodyPost_ret (res_cell Tryd.results17 rfl RF Tryd.underlying24 rfl (by kernel_rfl)) rfl ⟨rfl, KF.out⟩
set_option maxRecDepth 100000 in
set_option maxHeartbeats 4000000 in
theorem rwr11e (t : Tm) (a v : Int) (w : World) (I : TmIn t) (a0 : 0 ≤ a) (a1 : a ≤ 65535) (v0 : 0 ≤ v) (v1 : v ≤ 255) (q0 : a ≠ 65284) (q1 : a ≠ 65285) (q2 : a ≠ 65286) (q3 : a ≠ 65287) : Calls Tryd.prog 17 #[tmV t, .int .u16 a, .int .u8 v] w fun e w' => e = .returned (tmV (writeT t a v)) ∧ Kept w w' := by
  have E : writeT t a v = t := by unfold writeT; rw [if_neg q0, if_neg q1, if_neg q2, if_neg q3]
  rw [E]
  have HA := hid (fun u => rhot11 t u I)
  generalize hotT t = H1 at HA
  obtain ⟨dv, ta, tm, tc, ts⟩ := t
  have d0 := I.d0
  have d1 := I.d1
  have b0 := I.a0
  have b1 := I.a1
  have s0 := I.s0
  have s1 := I.s1
  simp only at d0 d1 b0 b1 s0 s1
  try simp only at HA ⊢
  have g0 : (a == 65284) = false := by simpa using q0
  have g1 : (a == 65285) = false := by simpa using q1
  have g2 : (a == 65286) = false := by simpa using q2
  have g3 : (a == 65287) = false := by simpa using q3
  clear E I
  go_enter Tryd.func17, Tryd.ntmps17
  go_wp2_with fail
  refine (HA.out _).mono ?_
  rintro e u1 ⟨rfl, k1⟩
  have B0 : Blk u1 w.heap.size 24 [.int .u16 dv, .int .u8 ta, .int .u8 tm, .int .u8 tc, .int .u8 ts] := blk_kept k1 (blk_past (blk_new w _ _) _)
  have R0 : Blk u1 (w.heap.size + 1) 24 [.int .u16 0, .int .u8 0, .int .u8 0, .int .u8 0, .int .u8 0] := blk_kept k1 (by have q := blk_new (w.alloc (.cells ([.int .u16 dv, .int .u8 ta, .int .u8 tm, .int .u8 tc, .int .u8 ts] : List Value).toArray 24)) [.int .u16 0, .int .u8 0, .int .u8 0, .int .u8 0, .int .u8 0] 24; rw [World.size_alloc] at q; exact q)
  have K0 := hid ((((Kept.refl w).alloc (.cells ([.int .u16 dv, .int .u8 ta, .int .u8 tm, .int .u8 tc, .int .u8 ts] : List Value).toArray 24)).alloc (.cells ([.int .u16 0, .int .u8 0, .int .u8 0, .int .u8 0, .int .u8 0] : List Value).toArray 24)).trans k1)
  have c0 := blk_cell B0
  have y0 := blk_lt R0
  clear k1
  go_wp2_with (first
    | ((with_reducible refine at_st 24 ?_); refine wl_store rfl rfl rfl rfl R0 (by kernel_rfl) rfl (Nat.le_of_ble_eq_true rfl) (fun vr pr => ?_); have RF : Blk vr (w.heap.size + 1) 24 [.int .u16 dv, .int .u8 ta, .int .u8 tm, .int .u8 tc, .int .u8 ts] := pr.blk; have KF := hid (pr.kept _ K0.out (Nat.le_succ _)); clear pr))
  exact bodyPost_ret (res_cell Tryd.results17 rfl RF Tryd.underlying24 rfl (by kernel_rfl)) rfl ⟨rfl, KF.out⟩
theorem wr_in0 {t : Tm} (I : TmIn t) : TmIn (⟨0, t.tima, t.tma, t.tac, t.st⟩ : Tm) := ⟨Int.le_refl 0, (by decide : (0 : Int) ≤ 65535), I.a0, I.a1, I.m0, I.m1, I.c0, I.c1, I.s0, I.s1⟩
theorem wr_in8 {t : Tm} (I : TmIn t) {v : Int} (v0 : 0 ≤ v) : TmIn (⟨t.div, t.tima, t.tma, v % 8, t.st⟩ : Tm) := ⟨I.d0, I.d1, I.a0, I.a1, I.m0, I.m1, by show 0 ≤ v % 8; omega, by show v % 8 ≤ 255; omega, I.s0, I.s1⟩
theorem rwrite11 (t : Tm) (a v : Int) (w : World) (I : TmIn t) (a0 : 0 ≤ a) (a1 : a ≤ 65535) (v0 : 0 ≤ v) (v1 : v ≤ 255) : Calls Tryd.prog 17 #[tmV t, .int .u16 a, .int .u8 v] w fun e w' => e = .returned (tmV (writeT t a v)) ∧ Kept w w' := by
  by_cases q0 : a = 65284
  · cases h1 : hotT t
    · exact rwr11a0 t a v w I a0 a1 v0 v1 (wr_in0 I) q0 h1
    · cases h2 : hotT (⟨0, t.tima, t.tma, t.tac, t.st⟩ : Tm)
      · exact rwr11a2 t a v w I a0 a1 v0 v1 (wr_in0 I) q0 h1 h2
      · exact rwr11a1 t a v w I a0 a1 v0 v1 (wr_in0 I) q0 h1 h2
  by_cases q1 : a = 65285
  · by_cases h1 : t.st = 1
    · exact rwr11b1 t a v w I a0 a1 v0 v1 q1 h1
    · by_cases h2 : t.st = 2
      · exact rwr11b2 t a v w I a0 a1 v0 v1 q1 h2
      · exact rwr11b0 t a v w I a0 a1 v0 v1 q1 h1 h2
  by_cases q2 : a = 65286
  · by_cases h2 : t.st = 2
    · exact rwr11c2 t a v w I a0 a1 v0 v1 q2 h2
    · exact rwr11c0 t a v w I a0 a1 v0 v1 q2 h2
  by_cases q3 : a = 65287
  · cases h1 : hotT t
    · exact rwr11d0 t a v w I a0 a1 v0 v1 (wr_in8 I v0) q3 h1
    · cases h2 : hotT (⟨t.div, t.tima, t.tma, v % 8, t.st⟩ : Tm)
      · exact rwr11d2 t a v w I a0 a1 v0 v1 (wr_in8 I v0) q3 h1 h2
      · exact rwr11d1 t a v w I a0 a1 v0 v1 (wr_in8 I v0) q3 h1 h2
  exact rwr11e t a v w I a0 a1 v0 v1 q0 q1 q2 q3
end Go.Proofs.YthjpngfbabeboaaDoor
