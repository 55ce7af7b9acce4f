/- What the program's calls of layer 19 come to. -/
import Derived.Test.YtoohpdnmdnjpaaaRdm19
namespace Go.Proofs.Ytoohpdnmdnjpaaa
open Go.RowKit
set_option linter.unusedVariables false
set_option linter.unusedSimpArgs false

set_option maxRecDepth 100000 in
set_option maxHeartbeats 4000000 in
theorem pwrite19 (s : Dm) (v : Int) (w : World) : Calls Try.prog 9 #[dmV s, .int .u8 v] w fun e w' => e = .returned (dmV (askD s v)) ∧ Kept w w' := by
  obtain ⟨so, sp, sa, sw, sn⟩ := s
  go_enter Try.func9, Try.ntmps9
  go_wp2
  exact bodyPost_ret (v := dmV ⟨so, sp, sa, 2, v⟩) (by simp [results, Try.results9, go_sem]) rfl ⟨rfl, by repeat (first | with_reducible exact Kept.refl _ | with_reducible refine Kept.alloc ?_ _ | with_reducible refine Kept.drew ?_ | (with_reducible refine Kept.setCell8 ?_ ?_ _ _; rotate_left; (first | exact Nat.le_refl _ | omega | (simp; done) | (simp; omega))))⟩
set_option maxRecDepth 100000 in
set_option maxHeartbeats 4000000 in
theorem pread19 (s : Dm) (w : World) : Calls Try.prog 11 #[dmV s] w fun e w' => e = .returned (.int .u8 s.next) ∧ Kept w w' := by
  obtain ⟨so, sp, sa, sw, sn⟩ := s
  go_enter Try.func11, Try.ntmps11
  go_wp2
  go_ret
  exact ⟨rfl, (Kept.refl w).alloc _⟩
set_option maxRecDepth 100000 in
set_option maxHeartbeats 4000000 in
theorem psrc19 (p a : Int) (w : World) (p0 : 0 ≤ p) (p1 : p ≤ 255) (a0 : 0 ≤ a) (a1 : a ≤ 255) : Calls Try.prog 13 #[.int .u8 p, .int .u8 a] w fun e w' => e = .returned (.int .u16 (srcD p a)) ∧ w' = w := by
  unfold srcD
  have e1 : IntKind.u16.wrap p = p := by rw [IntKind.wrap_u16]; omega
  have e2 : IntKind.u16.wrap (256 * p) = 256 * p := by rw [IntKind.wrap_u16]; omega
  have e3 : IntKind.u16.wrap a = a := by rw [IntKind.wrap_u16]; omega
  have e4 : IntKind.u16.wrap (256 * p + a) = 256 * p + a := by rw [IntKind.wrap_u16]; omega
  by_cases h : 224 ≤ p
  · rw [if_pos h]
    have g : decide (224 ≤ p) = true := decide_eq_true h
    have e8 : IntKind.u16.wrap (256 * p + a - 8192) = 256 * p + a - 8192 := by rw [IntKind.wrap_u16]; omega
    have e9 : IntKind.i64.wrap (256 * p + a - 8192) = 256 * p + a - 8192 := by rw [IntKind.wrap_i64]; omega
    go_enter Try.func13, Try.ntmps13
    go_wp2
    go_ret
    exact ⟨rfl, rfl⟩
  · rw [if_neg h]
    have g : decide (224 ≤ p) = false := decide_eq_false h
    go_enter Try.func13, Try.ntmps13
    go_wp2
    go_ret
    exact ⟨rfl, rfl⟩
set_option maxRecDepth 100000 in
set_option maxHeartbeats 4000000 in
theorem pplc19 (s : Dm) (w : World) : Calls Try.prog 18 #[dmV s] w fun e w' => e = .returned (.int .u8 (plcD s.pos)) ∧ Kept w w' := by
  unfold plcD
  obtain ⟨so, sp, sa, sw, sn⟩ := s
  simp only
  by_cases h : 159 < sa
  · rw [if_pos h]
    have g1 : min sa 159 = 159 := by omega
    have g2 : decide (159 < sa) = true := decide_eq_true h
    have g3 : decide (sa < 159) = false := decide_eq_false (by omega)
    have g4 : decide (sa ≤ 159) = false := decide_eq_false (by omega)
    go_enter Try.func18, Try.ntmps18
    go_wp2
    go_ret
    exact ⟨by simp <;> omega, (Kept.refl w).alloc _⟩
  · rw [if_neg h]
    have g1 : min sa 159 = sa := by omega
    have g2 : decide (159 < sa) = false := decide_eq_false h
    go_enter Try.func18, Try.ntmps18
    go_wp2
    go_ret
    exact ⟨by simp <;> omega, (Kept.refl w).alloc _⟩
set_option maxRecDepth 100000 in
set_option maxHeartbeats 4000000 in
theorem pne19_z (s : Dm) (w : World) (I : DmIn s) (hz : s.wait ≠ 0) (h1 : s.wait = 1) : Calls Try.prog 21 #[dmV s] w fun e w' => e = .returned (dmV (nearD s)) ∧ Kept w w' := by
  unfold nearD
  rw [if_pos h1]
  obtain ⟨so, sp, sa, sw, sn⟩ := s
  have p0 := I.p0
  have p1 := I.p1
  have a0 := I.a0
  have a1 := I.a1
  have w0 := I.w0
  have w1 := I.w1
  have n0 := I.n0
  have n1 := I.n1
  simp only at p0 p1 a0 a1 w0 w1 n0 n1
  try simp only at *
  subst h1
  
  clear I
  go_enter Try.func21, Try.ntmps21
  go_wp2
  exact bodyPost_ret (v := dmV ⟨true, sn, 0, 0, sn⟩) (by simp [results, Try.results21, go_sem]) rfl ⟨rfl, by repeat (first | with_reducible exact Kept.refl _ | with_reducible refine Kept.alloc ?_ _ | with_reducible refine Kept.drew ?_ | (with_reducible refine Kept.setCell8 ?_ ?_ _ _; rotate_left; (first | exact Nat.le_refl _ | omega | (simp; done) | (simp; omega))))⟩
set_option maxRecDepth 100000 in
set_option maxHeartbeats 4000000 in
theorem pne19_n (s : Dm) (w : World) (I : DmIn s) (hz : s.wait ≠ 0) (h1 : s.wait ≠ 1) : Calls Try.prog 21 #[dmV s] w fun e w' => e = .returned (dmV (nearD s)) ∧ Kept w w' := by
  unfold nearD
  rw [if_neg h1]
  obtain ⟨so, sp, sa, sw, sn⟩ := s
  have p0 := I.p0
  have p1 := I.p1
  have a0 := I.a0
  have a1 := I.a1
  have w0 := I.w0
  have w1 := I.w1
  have n0 := I.n0
  have n1 := I.n1
  simp only at p0 p1 a0 a1 w0 w1 n0 n1
  try simp only at *
  have g5 : IntKind.u8.wrap (sw - 1) = sw - 1 := by rw [IntKind.wrap_u8]; omega
  have g6 : (sw - 1 == 0) = false := by simp; omega
  clear I
  go_enter Try.func21, Try.ntmps21
  go_wp2
  exact bodyPost_ret (v := dmV ⟨so, sp, sa, (sw - 1), sn⟩) (by simp [results, Try.results21, go_sem]) rfl ⟨rfl, by repeat (first | with_reducible exact Kept.refl _ | with_reducible refine Kept.alloc ?_ _ | with_reducible refine Kept.drew ?_ | (with_reducible refine Kept.setCell8 ?_ ?_ _ _; rotate_left; (first | exact Nat.le_refl _ | omega | (simp; done) | (simp; omega))))⟩
theorem pnear19 (s : Dm) (w : World) (I : DmIn s) (hz : s.wait ≠ 0) : Calls Try.prog 21 #[dmV s] w fun e w' => e = .returned (dmV (nearD s)) ∧ Kept w w' := by
  by_cases h1 : s.wait = 1
  · exact pne19_z s w I hz h1
  · exact pne19_n s w I hz h1
set_option maxRecDepth 100000 in
set_option maxHeartbeats 4000000 in
theorem pfu19_z (s : Dm) (w : World) (I : DmIn s) (h1 : 159 ≤ s.pos) : Calls Try.prog 19 #[dmV s] w fun e w' => e = .returned (dmV (furD s)) ∧ Kept w w' := by
  have PL : plcD s.pos = 159 := by unfold plcD; split <;> omega
  have HP := hid (fun u => pplc19 s u)
  rw [PL] at HP
  unfold furD
  rw [if_pos h1]
  obtain ⟨so, sp, sa, sw, sn⟩ := s
  have p0 := I.p0
  have p1 := I.p1
  have a0 := I.a0
  have a1 := I.a1
  have w0 := I.w0
  have w1 := I.w1
  have n0 := I.n0
  have n1 := I.n1
  simp only at p0 p1 a0 a1 w0 w1 n0 n1
  try simp only at *
  
  
  clear I PL h1
  have X0 : Blk ((w.alloc (.cells ([.bool so, .int .u8 sp, .int .u8 sa, .int .u8 sw, .int .u8 sn] : List Value).toArray 23)).alloc (.cells ([.bool false, .int .u8 0, .int .u8 0, .int .u8 0, .int .u8 0] : List Value).toArray 23)) w.heap.size 23 [.bool so, .int .u8 sp, .int .u8 sa, .int .u8 sw, .int .u8 sn] := blk_past (blk_new w _ _) _
  have X1 : Blk ((w.alloc (.cells ([.bool so, .int .u8 sp, .int .u8 sa, .int .u8 sw, .int .u8 sn] : List Value).toArray 23)).alloc (.cells ([.bool false, .int .u8 0, .int .u8 0, .int .u8 0, .int .u8 0] : List Value).toArray 23)) (w.heap.size + 1) 23 [.bool false, .int .u8 0, .int .u8 0, .int .u8 0, .int .u8 0] := by have q := blk_new (w.alloc (.cells ([.bool so, .int .u8 sp, .int .u8 sa, .int .u8 sw, .int .u8 sn] : List Value).toArray 23)) [.bool false, .int .u8 0, .int .u8 0, .int .u8 0, .int .u8 0] 23; rw [World.size_alloc] at q; exact q
  have zx : ((w.alloc (.cells ([.bool so, .int .u8 sp, .int .u8 sa, .int .u8 sw, .int .u8 sn] : List Value).toArray 23)).alloc (.cells ([.bool false, .int .u8 0, .int .u8 0, .int .u8 0, .int .u8 0] : List Value).toArray 23)).heap.size = w.heap.size + 1 + 1 := by rw [World.size_alloc, World.size_alloc]
  have KX := hid (((Kept.refl w).alloc (.cells ([.bool so, .int .u8 sp, .int .u8 sa, .int .u8 sw, .int .u8 sn] : List Value).toArray 23)).alloc (.cells ([.bool false, .int .u8 0, .int .u8 0, .int .u8 0, .int .u8 0] : List Value).toArray 23))
  go_enter Try.func19, Try.ntmps19
  go_wp2_with fail
  refine (HP.out _).mono ?_
  rintro e u1 ⟨rfl, k1⟩
  have R1 := blk_kept k1 X1
  have Q1 := blk_kept k1 X0
  have K1 := hid (KX.out.trans k1)
  have c1 := blk_cell Q1
  clear k1 X0 X1 KX zx HP
  go_wp2_with (first
    | ((with_reducible refine at_st 4 ?_); refine wl_store rfl rfl rfl rfl Q1 (by kernel_rfl) rfl (Nat.le_of_ble_eq_true rfl) (fun v2 p2 => ?_); have B2 : Blk v2 w.heap.size 23 [.bool false, .int .u8 sp, .int .u8 sa, .int .u8 sw, .int .u8 sn] := p2.blk; have z2 := p2.size; have R2 := p2.other _ _ _ (Nat.succ_ne_self _) R1; have K2 := hid (p2.kept _ K1.out (Nat.le_refl _)); have c2 := blk_cell B2; clear p2 Q1 R1 K1 c1)
    | ((with_reducible refine at_st 5 ?_); refine wl_store rfl rfl rfl rfl B2 (by kernel_rfl) rfl (Nat.le_of_ble_eq_true rfl) (fun v3 p3 => ?_); have B3 : Blk v3 w.heap.size 23 [.bool false, .int .u8 sp, .int .u8 0, .int .u8 sw, .int .u8 sn] := p3.blk; have z3 := p3.size; have R3 := p3.other _ _ _ (Nat.succ_ne_self _) R2; have K3 := hid (p3.kept _ K2.out (Nat.le_refl _)); have c3 := blk_cell B3; clear p3 B2 R2 K2 c2)
    | ((with_reducible refine at_st 23 ?_); refine wl_store rfl rfl rfl rfl R3 (by kernel_rfl) rfl (Nat.le_of_ble_eq_true rfl) (fun v4 p4 => ?_); have B4 : Blk v4 (w.heap.size + 1) 23 [.bool false, .int .u8 sp, .int .u8 0, .int .u8 sw, .int .u8 sn] := p4.blk; have z4 := p4.size; have K4 := hid (p4.kept _ K3.out (Nat.le_succ _)); clear p4))
  exact bodyPost_ret (res_cell Try.results19 rfl B4 Try.underlying23 rfl (by kernel_rfl)) rfl ⟨rfl, K4.out⟩
set_option maxRecDepth 100000 in
set_option maxHeartbeats 4000000 in
theorem pfu19_n (s : Dm) (w : World) (I : DmIn s) (h1 : ¬ 159 ≤ s.pos) : Calls Try.prog 19 #[dmV s] w fun e w' => e = .returned (dmV (furD s)) ∧ Kept w w' := by
  have PL : plcD s.pos = s.pos := by unfold plcD; split <;> omega
  have HP := hid (fun u => pplc19 s u)
  rw [PL] at HP
  unfold furD
  rw [if_neg h1]
  obtain ⟨so, sp, sa, sw, sn⟩ := s
  have p0 := I.p0
  have p1 := I.p1
  have a0 := I.a0
  have a1 := I.a1
  have w0 := I.w0
  have w1 := I.w1
  have n0 := I.n0
  have n1 := I.n1
  simp only at p0 p1 a0 a1 w0 w1 n0 n1
  try simp only at *
  have g2 : (sa == 159) = false := by simp; omega
  have g3 : IntKind.u8.wrap (sa + 1) = sa + 1 := by rw [IntKind.wrap_u8]; omega
  clear I PL h1
  have X0 : Blk ((w.alloc (.cells ([.bool so, .int .u8 sp, .int .u8 sa, .int .u8 sw, .int .u8 sn] : List Value).toArray 23)).alloc (.cells ([.bool false, .int .u8 0, .int .u8 0, .int .u8 0, .int .u8 0] : List Value).toArray 23)) w.heap.size 23 [.bool so, .int .u8 sp, .int .u8 sa, .int .u8 sw, .int .u8 sn] := blk_past (blk_new w _ _) _
  have X1 : Blk ((w.alloc (.cells ([.bool so, .int .u8 sp, .int .u8 sa, .int .u8 sw, .int .u8 sn] : List Value).toArray 23)).alloc (.cells ([.bool false, .int .u8 0, .int .u8 0, .int .u8 0, .int .u8 0] : List Value).toArray 23)) (w.heap.size + 1) 23 [.bool false, .int .u8 0, .int .u8 0, .int .u8 0, .int .u8 0] := by have q := blk_new (w.alloc (.cells ([.bool so, .int .u8 sp, .int .u8 sa, .int .u8 sw, .int .u8 sn] : List Value).toArray 23)) [.bool false, .int .u8 0, .int .u8 0, .int .u8 0, .int .u8 0] 23; rw [World.size_alloc] at q; exact q
  have zx : ((w.alloc (.cells ([.bool so, .int .u8 sp, .int .u8 sa, .int .u8 sw, .int .u8 sn] : List Value).toArray 23)).alloc (.cells ([.bool false, .int .u8 0, .int .u8 0, .int .u8 0, .int .u8 0] : List Value).toArray 23)).heap.size = w.heap.size + 1 + 1 := by rw [World.size_alloc, World.size_alloc]
  have KX := hid (((Kept.refl w).alloc (.cells ([.bool so, .int .u8 sp, .int .u8 sa, .int .u8 sw, .int .u8 sn] : List Value).toArray 23)).alloc (.cells ([.bool false, .int .u8 0, .int .u8 0, .int .u8 0, .int .u8 0] : List Value).toArray 23))
  go_enter Try.func19, Try.ntmps19
  go_wp2_with fail
  refine (HP.out _).mono ?_
  rintro e u1 ⟨rfl, k1⟩
  have R1 := blk_kept k1 X1
  have Q1 := blk_kept k1 X0
  have K1 := hid (KX.out.trans k1)
  have c1 := blk_cell Q1
  clear k1 X0 X1 KX zx HP
  go_wp2_with (first
    | ((with_reducible refine at_st 5 ?_); refine wl_store rfl rfl rfl rfl Q1 (by kernel_rfl) rfl (Nat.le_of_ble_eq_true rfl) (fun v2 p2 => ?_); have B2 : Blk v2 w.heap.size 23 [.bool so, .int .u8 sp, .int .u8 (sa + 1), .int .u8 sw, .int .u8 sn] := p2.blk; have z2 := p2.size; have R2 := p2.other _ _ _ (Nat.succ_ne_self _) R1; have K2 := hid (p2.kept _ K1.out (Nat.le_refl _)); have c2 := blk_cell B2; clear p2 Q1 R1 K1 c1)
    | ((with_reducible refine at_st 23 ?_); refine wl_store rfl rfl rfl rfl R2 (by kernel_rfl) rfl (Nat.le_of_ble_eq_true rfl) (fun v3 p3 => ?_); have B3 : Blk v3 (w.heap.size + 1) 23 [.bool so, .int .u8 sp, .int .u8 (sa + 1), .int .u8 sw, .int .u8 sn] := p3.blk; have z3 := p3.size; have K3 := hid (p3.kept _ K2.out (Nat.le_succ _)); clear p3))
  exact bodyPost_ret (res_cell Try.results19 rfl B3 Try.underlying23 rfl (by kernel_rfl)) rfl ⟨rfl, K3.out⟩
theorem pfur19 (s : Dm) (w : World) (I : DmIn s) : Calls Try.prog 19 #[dmV s] w fun e w' => e = .returned (dmV (furD s)) ∧ Kept w w' := by
  by_cases h1 : 159 ≤ s.pos
  · exact pfu19_z s w I h1
  · exact pfu19_n s w I h1
end Go.Proofs.Ytoohpdnmdnjpaaa
