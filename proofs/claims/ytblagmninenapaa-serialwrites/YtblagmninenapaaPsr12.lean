/- What the program's calls of layer 12 come to. -/
import Derived.Test.YtblagmninenapaaRsr12
namespace Go.Proofs.Ytblagmninenapaa
open Go.RowKit
set_option linter.unusedVariables false
set_option linter.unusedSimpArgs false

theorem and128_fin : ∀ a : Fin 256, (bits .and .u8 (a.val : Int) 128 != 0) = decide (128 ≤ (a.val : Int)) := by decide +kernel
theorem and128_ne (a : Int) (h0 : 0 ≤ a) (h1 : a ≤ 255) : (bits .and .u8 a 128 != 0) = decide (128 ≤ a) := fin8 (p := fun a => (bits .and .u8 a 128 != 0) = decide (128 ≤ a)) and128_fin a h0 h1
theorem and1_fin : ∀ a : Fin 256, (bits .and .u8 (a.val : Int) 1 != 0) = decide ((a.val : Int) % 2 = 1) := by decide +kernel
theorem and1_ne (a : Int) (h0 : 0 ≤ a) (h1 : a ≤ 255) : (bits .and .u8 a 1 != 0) = decide (a % 2 = 1) := fin8 (p := fun a => (bits .and .u8 a 1 != 0) = decide (a % 2 = 1)) and1_fin a h0 h1
theorem or1_fin : ∀ a : Fin 256, bits .or .u8 ((a.val : Int) * 2 % 256) 1 = (a.val : Int) * 2 % 256 + 1 := by decide +kernel
theorem or1_up (a : Int) (h0 : 0 ≤ a) (h1 : a ≤ 255) : bits .or .u8 (a * 2 % 256) 1 = a * 2 % 256 + 1 := fin8 (p := fun a => bits .or .u8 (a * 2 % 256) 1 = a * 2 % 256 + 1) or1_fin a h0 h1
theorem not128_fin : ∀ a : Fin 256, bits .andNot .u8 (a.val : Int) 128 = (a.val : Int) % 128 := by decide +kernel
theorem not128 (a : Int) (h0 : 128 ≤ a) (h1 : a ≤ 255) : bits .andNot .u8 a 128 = a - 128 := by
  rw [fin8 (p := fun a => bits .andNot .u8 a 128 = a % 128) not128_fin a (by omega) h1]; omega
theorem and129_fin : ∀ a : Fin 256, bits .and .u8 (a.val : Int) 129 = (a.val : Int) / 128 * 128 + (a.val : Int) % 2 := by decide +kernel
theorem and129 (a : Int) (h0 : 0 ≤ a) (h1 : a ≤ 255) : bits .and .u8 a 129 = a / 128 * 128 + a % 2 := fin8 (p := fun a => bits .and .u8 a 129 = a / 128 * 128 + a % 2) and129_fin a h0 h1
theorem or126_fin : ∀ a : Fin 256, bits .or .u8 126 (a.val : Int) = (a.val : Int) / 128 * 128 + 126 + (a.val : Int) % 2 := by decide +kernel
theorem or126 (a : Int) (h0 : 0 ≤ a) (h1 : a ≤ 255) : bits .or .u8 126 a = a / 128 * 128 + 126 + a % 2 := fin8 (p := fun a => bits .or .u8 126 a = a / 128 * 128 + 126 + a % 2) or126_fin a h0 h1
set_option maxRecDepth 100000 in
set_option maxHeartbeats 4000000 in
theorem pgoes12 (s : Sr) (w : World) (I : SrIn s) : Calls Try.prog 18 #[srV s] w fun e w' => e = .returned (.bool (goesS s)) ∧ Kept w w' := by
  have m := and128_ne s.ctl I.c0 I.c1
  unfold goesS
  obtain ⟨sd, sc, sl, sp⟩ := s
  simp only at *
  clear I
  by_cases q : 128 ≤ sc
  · rw [decide_eq_true q] at m ⊢
    go_enter Try.func18, Try.ntmps18
    go_wp2
    go_ret
    exact ⟨by rw [Bool.true_and]; rfl, (Kept.refl w).alloc _⟩
  · rw [decide_eq_false q] at m ⊢
    go_enter Try.func18, Try.ntmps18
    go_wp2
    go_ret
    exact ⟨rfl, (Kept.refl w).alloc _⟩
set_option maxRecDepth 100000 in
set_option maxHeartbeats 4000000 in
theorem psh12_1z (s : Sr) (b : Bool) (w : World) (I : SrIn s) (g1 : 128 ≤ s.ctl) (g2 : s.left ≠ 0) (hb : b = true) (hl : s.left = 1) : Calls Try.prog 20 #[srV s, .bool b] w fun e w' => e = .returned (srV (shiftS s b)) ∧ Kept w w' := by
  have E : shiftS s b = ⟨(s.data * 2 % 256 + 1), s.ctl - 128, s.left - 1, s.ph⟩ := by
    unfold shiftS; rw [if_pos hl, hb]; simp only [oneS, if_true]
  rw [E]
  clear E
  have o1 := or1_up s.data I.d0 I.d1
  have o2 := not128 s.ctl g1 I.c1
  obtain ⟨sd, sc, sl, sp⟩ := s
  have d0 := I.d0
  have d1 := I.d1
  have c0 := I.c0
  have c1 := I.c1
  have l0 := I.l0
  have l1 := I.l1
  have p0 := I.p0
  have p1 := I.p1
  simp only at d0 d1 c0 c1 l0 l1 p0 p1
  simp only at *
  subst hb
  subst hl
  
  clear I
  go_enter Try.func20, Try.ntmps20
  go_wp2
  exact bodyPost_ret (v := srV ⟨(sd * 2 % 256 + 1), sc - 128, 0, sp⟩) (by simp [results, Try.results20, go_sem]) rfl ⟨rfl, by repeat (first | with_reducible exact Kept.refl _ | with_reducible refine Kept.alloc ?_ _ | with_reducible refine Kept.drew ?_ | (with_reducible refine Kept.setCell8 ?_ ?_ _ _; rotate_left; (first | exact Nat.le_refl _ | omega | (simp; done) | (simp; omega))))⟩
set_option maxRecDepth 100000 in
set_option maxHeartbeats 4000000 in
theorem psh12_1n (s : Sr) (b : Bool) (w : World) (I : SrIn s) (g1 : 128 ≤ s.ctl) (g2 : s.left ≠ 0) (hb : b = true) (hl : s.left ≠ 1) : Calls Try.prog 20 #[srV s, .bool b] w fun e w' => e = .returned (srV (shiftS s b)) ∧ Kept w w' := by
  have E : shiftS s b = ⟨(s.data * 2 % 256 + 1), s.ctl, s.left - 1, s.ph⟩ := by
    unfold shiftS; rw [if_neg hl, hb]; simp only [oneS, if_true]
  rw [E]
  clear E
  have o1 := or1_up s.data I.d0 I.d1
  have o2 := not128 s.ctl g1 I.c1
  obtain ⟨sd, sc, sl, sp⟩ := s
  have d0 := I.d0
  have d1 := I.d1
  have c0 := I.c0
  have c1 := I.c1
  have l0 := I.l0
  have l1 := I.l1
  have p0 := I.p0
  have p1 := I.p1
  simp only at d0 d1 c0 c1 l0 l1 p0 p1
  simp only at *
  subst hb
  have t3 : IntKind.u8.wrap (sl - 1) = sl - 1 := by rw [IntKind.wrap_u8]; omega
  have t4 : (sl - 1 == 0) = false := by simp; omega
  clear I
  go_enter Try.func20, Try.ntmps20
  go_wp2
  exact bodyPost_ret (v := srV ⟨(sd * 2 % 256 + 1), sc, sl - 1, sp⟩) (by simp [results, Try.results20, go_sem]) rfl ⟨rfl, by repeat (first | with_reducible exact Kept.refl _ | with_reducible refine Kept.alloc ?_ _ | with_reducible refine Kept.drew ?_ | (with_reducible refine Kept.setCell8 ?_ ?_ _ _; rotate_left; (first | exact Nat.le_refl _ | omega | (simp; done) | (simp; omega))))⟩
set_option maxRecDepth 100000 in
set_option maxHeartbeats 4000000 in
theorem psh12_0z (s : Sr) (b : Bool) (w : World) (I : SrIn s) (g1 : 128 ≤ s.ctl) (g2 : s.left ≠ 0) (hb : b = false) (hl : s.left = 1) : Calls Try.prog 20 #[srV s, .bool b] w fun e w' => e = .returned (srV (shiftS s b)) ∧ Kept w w' := by
  have E : shiftS s b = ⟨(s.data * 2 % 256), s.ctl - 128, s.left - 1, s.ph⟩ := by
    unfold shiftS; rw [if_pos hl, hb]; simp only [oneS, if_true, Bool.false_eq_true, if_false, Int.add_zero]
  rw [E]
  clear E
  have o1 := or1_up s.data I.d0 I.d1
  have o2 := not128 s.ctl g1 I.c1
  obtain ⟨sd, sc, sl, sp⟩ := s
  have d0 := I.d0
  have d1 := I.d1
  have c0 := I.c0
  have c1 := I.c1
  have l0 := I.l0
  have l1 := I.l1
  have p0 := I.p0
  have p1 := I.p1
  simp only at d0 d1 c0 c1 l0 l1 p0 p1
  simp only at *
  subst hb
  subst hl
  
  clear I
  go_enter Try.func20, Try.ntmps20
  go_wp2
  exact bodyPost_ret (v := srV ⟨(sd * 2 % 256), sc - 128, 0, sp⟩) (by simp [results, Try.results20, go_sem]) rfl ⟨rfl, by repeat (first | with_reducible exact Kept.refl _ | with_reducible refine Kept.alloc ?_ _ | with_reducible refine Kept.drew ?_ | (with_reducible refine Kept.setCell8 ?_ ?_ _ _; rotate_left; (first | exact Nat.le_refl _ | omega | (simp; done) | (simp; omega))))⟩
set_option maxRecDepth 100000 in
set_option maxHeartbeats 4000000 in
theorem psh12_0n (s : Sr) (b : Bool) (w : World) (I : SrIn s) (g1 : 128 ≤ s.ctl) (g2 : s.left ≠ 0) (hb : b = false) (hl : s.left ≠ 1) : Calls Try.prog 20 #[srV s, .bool b] w fun e w' => e = .returned (srV (shiftS s b)) ∧ Kept w w' := by
  have E : shiftS s b = ⟨(s.data * 2 % 256), s.ctl, s.left - 1, s.ph⟩ := by
    unfold shiftS; rw [if_neg hl, hb]; simp only [oneS, if_true, Bool.false_eq_true, if_false, Int.add_zero]
  rw [E]
  clear E
  have o1 := or1_up s.data I.d0 I.d1
  have o2 := not128 s.ctl g1 I.c1
  obtain ⟨sd, sc, sl, sp⟩ := s
  have d0 := I.d0
  have d1 := I.d1
  have c0 := I.c0
  have c1 := I.c1
  have l0 := I.l0
  have l1 := I.l1
  have p0 := I.p0
  have p1 := I.p1
  simp only at d0 d1 c0 c1 l0 l1 p0 p1
  simp only at *
  subst hb
  have t3 : IntKind.u8.wrap (sl - 1) = sl - 1 := by rw [IntKind.wrap_u8]; omega
  have t4 : (sl - 1 == 0) = false := by simp; omega
  clear I
  go_enter Try.func20, Try.ntmps20
  go_wp2
  exact bodyPost_ret (v := srV ⟨(sd * 2 % 256), sc, sl - 1, sp⟩) (by simp [results, Try.results20, go_sem]) rfl ⟨rfl, by repeat (first | with_reducible exact Kept.refl _ | with_reducible refine Kept.alloc ?_ _ | with_reducible refine Kept.drew ?_ | (with_reducible refine Kept.setCell8 ?_ ?_ _ _; rotate_left; (first | exact Nat.le_refl _ | omega | (simp; done) | (simp; omega))))⟩
theorem pshift12 (s : Sr) (b : Bool) (w : World) (I : SrIn s) (g1 : 128 ≤ s.ctl) (g2 : s.left ≠ 0) : Calls Try.prog 20 #[srV s, .bool b] w fun e w' => e = .returned (srV (shiftS s b)) ∧ Kept w w' := by
  cases hb : b <;> by_cases hl : s.left = 1
  · exact psh12_0z s _ w I g1 g2 rfl hl
  · exact psh12_0n s _ w I g1 g2 rfl hl
  · exact psh12_1z s _ w I g1 g2 rfl hl
  · exact psh12_1n s _ w I g1 g2 rfl hl
set_option maxRecDepth 100000 in
set_option maxHeartbeats 4000000 in
theorem pcl12_a (s : Sr) (b : Bool) (w : World) (I : SrIn s) (hp : s.ph < 127) : Calls Try.prog 19 #[srV s, .bool b] w fun e w' => e = .returned (srV (ownS s b)) ∧ Kept w w' := by
  have E : ownS s b = ⟨s.data, s.ctl, s.left, s.ph + 1⟩ := by unfold ownS; rw [if_pos hp]
  rw [E]
  clear E
  obtain ⟨sd, sc, sl, sp⟩ := s
  have d0 := I.d0
  have d1 := I.d1
  have c0 := I.c0
  have c1 := I.c1
  have l0 := I.l0
  have l1 := I.l1
  have p0 := I.p0
  have p1 := I.p1
  simp only at d0 d1 c0 c1 l0 l1 p0 p1
  simp only at *
  have t3 : IntKind.u8.wrap (sp + 1) = sp + 1 := by rw [IntKind.wrap_u8]; omega
  have t4 : decide (sp < 127) = true := decide_eq_true hp
  clear I
  go_enter Try.func19, Try.ntmps19
  go_wp2
  exact bodyPost_ret (v := srV ⟨sd, sc, sl, sp + 1⟩) (by simp [results, Try.results19, go_sem]) rfl ⟨rfl, by repeat (first | with_reducible exact Kept.refl _ | with_reducible refine Kept.alloc ?_ _ | with_reducible refine Kept.drew ?_ | (with_reducible refine Kept.setCell8 ?_ ?_ _ _; rotate_left; (first | exact Nat.le_refl _ | omega | (simp; done) | (simp; omega))))⟩
set_option maxRecDepth 100000 in
set_option maxHeartbeats 4000000 in
theorem pcl12_b (s : Sr) (b : Bool) (w : World) (I : SrIn s) (g1 : 128 ≤ s.ctl) (g2 : s.left ≠ 0) (hp : ¬ s.ph < 127) : Calls Try.prog 19 #[srV s, .bool b] w fun e w' => e = .returned (srV (ownS s b)) ∧ Kept w w' := by
  have E : ownS s b = shiftS ⟨s.data, s.ctl, s.left, 0⟩ b := by unfold ownS; rw [if_neg hp]
  rw [E]
  clear E
  have HA := hid (fun x => pshift12 ⟨s.data, s.ctl, s.left, 0⟩ b x ⟨I.d0, I.d1, I.c0, I.c1, I.l0, I.l1, Int.le_refl 0, (by decide : (0 : Int) ≤ 255)⟩ g1 g2)
  generalize shiftS ⟨s.data, s.ctl, s.left, 0⟩ b = V at *
  obtain ⟨sd, sc, sl, sp⟩ := s
  simp only at *
  have t4 : decide (sp < 127) = false := decide_eq_false hp
  clear I
  have X0 : Blk ((w.alloc (.cells ([.int .u8 sd, .int .u8 sc, .int .u8 sl, .int .u8 sp] : List Value).toArray 23)).alloc (.cells ([.int .u8 0, .int .u8 0, .int .u8 0, .int .u8 0] : List Value).toArray 23)) w.heap.size 23 [.int .u8 sd, .int .u8 sc, .int .u8 sl, .int .u8 sp] := blk_past (blk_new w _ _) _
  have X1 : Blk ((w.alloc (.cells ([.int .u8 sd, .int .u8 sc, .int .u8 sl, .int .u8 sp] : List Value).toArray 23)).alloc (.cells ([.int .u8 0, .int .u8 0, .int .u8 0, .int .u8 0] : List Value).toArray 23)) (w.heap.size + 1) 23 [.int .u8 0, .int .u8 0, .int .u8 0, .int .u8 0] := by have q := blk_new (w.alloc (.cells ([.int .u8 sd, .int .u8 sc, .int .u8 sl, .int .u8 sp] : List Value).toArray 23)) [.int .u8 0, .int .u8 0, .int .u8 0, .int .u8 0] 23; rw [World.size_alloc] at q; exact q
  have zx : ((w.alloc (.cells ([.int .u8 sd, .int .u8 sc, .int .u8 sl, .int .u8 sp] : List Value).toArray 23)).alloc (.cells ([.int .u8 0, .int .u8 0, .int .u8 0, .int .u8 0] : List Value).toArray 23)).heap.size = w.heap.size + 1 + 1 := by rw [World.size_alloc, World.size_alloc]
  have KX := hid (((Kept.refl w).alloc (.cells ([.int .u8 sd, .int .u8 sc, .int .u8 sl, .int .u8 sp] : List Value).toArray 23)).alloc (.cells ([.int .u8 0, .int .u8 0, .int .u8 0, .int .u8 0] : List Value).toArray 23))
  go_enter Try.func19, Try.ntmps19
  go_wp2_with (((with_reducible refine at_st 5 ?_); refine wl_store rfl rfl rfl rfl X0 (by kernel_rfl) rfl (Nat.le_of_ble_eq_true rfl) (fun v1 p1 => ?_); have B1 : Blk v1 w.heap.size 23 [.int .u8 sd, .int .u8 sc, .int .u8 sl, .int .u8 0] := p1.blk; have z1 := p1.size; have R1 := p1.other _ _ _ (Nat.succ_ne_self _) X1; have K1 := hid (p1.kept _ KX.out (Nat.le_refl _)); clear p1); have y1 := z1.trans zx; have c1 := blk_cell B1; have l1 := blk_lt R1; clear X0 X1 KX z1 zx)
  refine (HA.out _).mono ?_
  rintro e u5 ⟨rfl, k5⟩
  have R5 := blk_kept k5 R1
  have K5 := hid (K1.out.trans k5)
  clear k5 B1 R1 K1 c1 l1
  go_wp2_with ((with_reducible refine at_st 23 ?_); refine wl_store rfl rfl rfl rfl R5 (by kernel_rfl) rfl (Nat.le_of_ble_eq_true rfl) (fun v6 p6 => ?_); have B6 : Blk v6 (w.heap.size + 1) 23 [.int .u8 V.data, .int .u8 V.ctl, .int .u8 V.left, .int .u8 V.ph] := p6.blk; have z6 := p6.size; have K6 := hid (p6.kept _ K5.out (Nat.le_succ _)); clear p6)
  exact bodyPost_ret (res_cell Try.results19 rfl B6 Try.underlying23 rfl (by kernel_rfl)) rfl ⟨rfl, K6.out⟩
theorem pclock12 (s : Sr) (b : Bool) (w : World) (I : SrIn s) (g1 : 128 ≤ s.ctl) (g2 : s.left ≠ 0) : Calls Try.prog 19 #[srV s, .bool b] w fun e w' => e = .returned (srV (ownS s b)) ∧ Kept w w' := by
  by_cases hp : s.ph < 127
  · exact pcl12_a s b w I hp
  · exact pcl12_b s b w I g1 g2 hp
set_option maxRecDepth 100000 in
set_option maxHeartbeats 4000000 in
theorem pcy12_a (s : Sr) (b edge : Bool) (w : World) (I : SrIn s) (h : goesS s = false) : Calls Try.prog 16 #[srV s, .bool b, .bool edge] w fun e w' => e = .returned (srV (stepS s b edge)) ∧ Kept w w' := by
  have E : stepS s b edge = s := (idle_step s b edge h).1
  rw [E]
  clear E
  have HG := hid (fun x => pgoes12 s x I)
  rw [h] at HG
  have m1 := and1_ne s.ctl I.c0 I.c1
  obtain ⟨sd, sc, sl, sp⟩ := s
  simp only at *
  
  clear I h
  have X0 : Blk ((w.alloc (.cells ([.int .u8 sd, .int .u8 sc, .int .u8 sl, .int .u8 sp] : List Value).toArray 23)).alloc (.cells ([.int .u8 0, .int .u8 0, .int .u8 0, .int .u8 0] : List Value).toArray 23)) w.heap.size 23 [.int .u8 sd, .int .u8 sc, .int .u8 sl, .int .u8 sp] := blk_past (blk_new w _ _) _
  have X1 : Blk ((w.alloc (.cells ([.int .u8 sd, .int .u8 sc, .int .u8 sl, .int .u8 sp] : List Value).toArray 23)).alloc (.cells ([.int .u8 0, .int .u8 0, .int .u8 0, .int .u8 0] : List Value).toArray 23)) (w.heap.size + 1) 23 [.int .u8 0, .int .u8 0, .int .u8 0, .int .u8 0] := by have q := blk_new (w.alloc (.cells ([.int .u8 sd, .int .u8 sc, .int .u8 sl, .int .u8 sp] : List Value).toArray 23)) [.int .u8 0, .int .u8 0, .int .u8 0, .int .u8 0] 23; rw [World.size_alloc] at q; exact q
  have zx : ((w.alloc (.cells ([.int .u8 sd, .int .u8 sc, .int .u8 sl, .int .u8 sp] : List Value).toArray 23)).alloc (.cells ([.int .u8 0, .int .u8 0, .int .u8 0, .int .u8 0] : List Value).toArray 23)).heap.size = w.heap.size + 1 + 1 := by rw [World.size_alloc, World.size_alloc]
  have KX := hid (((Kept.refl w).alloc (.cells ([.int .u8 sd, .int .u8 sc, .int .u8 sl, .int .u8 sp] : List Value).toArray 23)).alloc (.cells ([.int .u8 0, .int .u8 0, .int .u8 0, .int .u8 0] : List Value).toArray 23))
  go_enter Try.func16, Try.ntmps16
  go_wp2_with fail
  refine (HG.out _).mono ?_
  rintro e u1 ⟨rfl, k1⟩
  have R1 := blk_kept k1 X1
  have Q1 := blk_kept k1 X0
  have K1 := hid (KX.out.trans k1)
  have c1 := blk_cell Q1
  have l1 := blk_lt R1
  clear k1 X0 X1 KX zx
  go_wp2_with ((with_reducible refine at_st 23 ?_); refine wl_store rfl rfl rfl rfl R1 (by kernel_rfl) rfl (Nat.le_of_ble_eq_true rfl) (fun v6 p6 => ?_); have B6 : Blk v6 (w.heap.size + 1) 23 [.int .u8 sd, .int .u8 sc, .int .u8 sl, .int .u8 sp] := p6.blk; have z6 := p6.size; have K6 := hid (p6.kept _ K1.out (Nat.le_succ _)); clear p6)
  exact bodyPost_ret (res_cell Try.results16 rfl B6 Try.underlying23 rfl (by kernel_rfl)) rfl ⟨rfl, K6.out⟩
set_option maxRecDepth 100000 in
set_option maxHeartbeats 4000000 in
theorem pcy12_b (s : Sr) (b edge : Bool) (w : World) (I : SrIn s) (h : goesS s = true) (ho : s.ctl % 2 = 1) : Calls Try.prog 16 #[srV s, .bool b, .bool edge] w fun e w' => e = .returned (srV (stepS s b edge)) ∧ Kept w w' := by
  have E : stepS s b edge = ownS s b := by unfold stepS; rw [if_pos h, if_pos ho]
  rw [E]
  clear E
  have HG := hid (fun x => pgoes12 s x I)
  rw [h] at HG
  have m1 := and1_ne s.ctl I.c0 I.c1
  have HA := hid (fun x => pclock12 s b x I ((goes_iff s).1 h).1 ((goes_iff s).1 h).2)
  generalize ownS s b = V at *
  obtain ⟨sd, sc, sl, sp⟩ := s
  simp only at *
  rw [decide_eq_true ho] at m1
  clear ho
  clear I h
  have X0 : Blk ((w.alloc (.cells ([.int .u8 sd, .int .u8 sc, .int .u8 sl, .int .u8 sp] : List Value).toArray 23)).alloc (.cells ([.int .u8 0, .int .u8 0, .int .u8 0, .int .u8 0] : List Value).toArray 23)) w.heap.size 23 [.int .u8 sd, .int .u8 sc, .int .u8 sl, .int .u8 sp] := blk_past (blk_new w _ _) _
  have X1 : Blk ((w.alloc (.cells ([.int .u8 sd, .int .u8 sc, .int .u8 sl, .int .u8 sp] : List Value).toArray 23)).alloc (.cells ([.int .u8 0, .int .u8 0, .int .u8 0, .int .u8 0] : List Value).toArray 23)) (w.heap.size + 1) 23 [.int .u8 0, .int .u8 0, .int .u8 0, .int .u8 0] := by have q := blk_new (w.alloc (.cells ([.int .u8 sd, .int .u8 sc, .int .u8 sl, .int .u8 sp] : List Value).toArray 23)) [.int .u8 0, .int .u8 0, .int .u8 0, .int .u8 0] 23; rw [World.size_alloc] at q; exact q
  have zx : ((w.alloc (.cells ([.int .u8 sd, .int .u8 sc, .int .u8 sl, .int .u8 sp] : List Value).toArray 23)).alloc (.cells ([.int .u8 0, .int .u8 0, .int .u8 0, .int .u8 0] : List Value).toArray 23)).heap.size = w.heap.size + 1 + 1 := by rw [World.size_alloc, World.size_alloc]
  have KX := hid (((Kept.refl w).alloc (.cells ([.int .u8 sd, .int .u8 sc, .int .u8 sl, .int .u8 sp] : List Value).toArray 23)).alloc (.cells ([.int .u8 0, .int .u8 0, .int .u8 0, .int .u8 0] : List Value).toArray 23))
  go_enter Try.func16, Try.ntmps16
  go_wp2_with fail
  refine (HG.out _).mono ?_
  rintro e u1 ⟨rfl, k1⟩
  have R1 := blk_kept k1 X1
  have Q1 := blk_kept k1 X0
  have K1 := hid (KX.out.trans k1)
  have c1 := blk_cell Q1
  have l1 := blk_lt R1
  clear k1 X0 X1 KX zx
  go_wp2_with fail
  refine (HA.out _).mono ?_
  rintro e u5 ⟨rfl, k5⟩
  have R5 := blk_kept k5 R1
  have K5 := hid (K1.out.trans k5)
  clear k5 Q1 R1 K1 c1 l1
  go_wp2_with ((with_reducible refine at_st 23 ?_); refine wl_store rfl rfl rfl rfl R5 (by kernel_rfl) rfl (Nat.le_of_ble_eq_true rfl) (fun v6 p6 => ?_); have B6 : Blk v6 (w.heap.size + 1) 23 [.int .u8 V.data, .int .u8 V.ctl, .int .u8 V.left, .int .u8 V.ph] := p6.blk; have z6 := p6.size; have K6 := hid (p6.kept _ K5.out (Nat.le_succ _)); clear p6)
  exact bodyPost_ret (res_cell Try.results16 rfl B6 Try.underlying23 rfl (by kernel_rfl)) rfl ⟨rfl, K6.out⟩
set_option maxRecDepth 100000 in
set_option maxHeartbeats 4000000 in
theorem pcy12_c (s : Sr) (b edge : Bool) (w : World) (I : SrIn s) (h : goesS s = true) (ho : ¬ s.ctl % 2 = 1) (he : edge = true) : Calls Try.prog 16 #[srV s, .bool b, .bool edge] w fun e w' => e = .returned (srV (stepS s b edge)) ∧ Kept w w' := by
  have E : stepS s b edge = shiftS s b := by unfold stepS; rw [if_pos h, if_neg ho, if_pos he]
  rw [E]
  clear E
  have HG := hid (fun x => pgoes12 s x I)
  rw [h] at HG
  have m1 := and1_ne s.ctl I.c0 I.c1
  have HA := hid (fun x => pshift12 s b x I ((goes_iff s).1 h).1 ((goes_iff s).1 h).2)
  generalize shiftS s b = V at *
  obtain ⟨sd, sc, sl, sp⟩ := s
  simp only at *
  rw [decide_eq_false ho] at m1
  clear ho
  subst he
  clear I h
  have X0 : Blk ((w.alloc (.cells ([.int .u8 sd, .int .u8 sc, .int .u8 sl, .int .u8 sp] : List Value).toArray 23)).alloc (.cells ([.int .u8 0, .int .u8 0, .int .u8 0, .int .u8 0] : List Value).toArray 23)) w.heap.size 23 [.int .u8 sd, .int .u8 sc, .int .u8 sl, .int .u8 sp] := blk_past (blk_new w _ _) _
  have X1 : Blk ((w.alloc (.cells ([.int .u8 sd, .int .u8 sc, .int .u8 sl, .int .u8 sp] : List Value).toArray 23)).alloc (.cells ([.int .u8 0, .int .u8 0, .int .u8 0, .int .u8 0] : List Value).toArray 23)) (w.heap.size + 1) 23 [.int .u8 0, .int .u8 0, .int .u8 0, .int .u8 0] := by have q := blk_new (w.alloc (.cells ([.int .u8 sd, .int .u8 sc, .int .u8 sl, .int .u8 sp] : List Value).toArray 23)) [.int .u8 0, .int .u8 0, .int .u8 0, .int .u8 0] 23; rw [World.size_alloc] at q; exact q
  have zx : ((w.alloc (.cells ([.int .u8 sd, .int .u8 sc, .int .u8 sl, .int .u8 sp] : List Value).toArray 23)).alloc (.cells ([.int .u8 0, .int .u8 0, .int .u8 0, .int .u8 0] : List Value).toArray 23)).heap.size = w.heap.size + 1 + 1 := by rw [World.size_alloc, World.size_alloc]
  have KX := hid (((Kept.refl w).alloc (.cells ([.int .u8 sd, .int .u8 sc, .int .u8 sl, .int .u8 sp] : List Value).toArray 23)).alloc (.cells ([.int .u8 0, .int .u8 0, .int .u8 0, .int .u8 0] : List Value).toArray 23))
  go_enter Try.func16, Try.ntmps16
  go_wp2_with fail
  refine (HG.out _).mono ?_
  rintro e u1 ⟨rfl, k1⟩
  have R1 := blk_kept k1 X1
  have Q1 := blk_kept k1 X0
  have K1 := hid (KX.out.trans k1)
  have c1 := blk_cell Q1
  have l1 := blk_lt R1
  clear k1 X0 X1 KX zx
  go_wp2_with fail
  refine (HA.out _).mono ?_
  rintro e u5 ⟨rfl, k5⟩
  have R5 := blk_kept k5 R1
  have K5 := hid (K1.out.trans k5)
  clear k5 Q1 R1 K1 c1 l1
  go_wp2_with ((with_reducible refine at_st 23 ?_); refine wl_store rfl rfl rfl rfl R5 (by kernel_rfl) rfl (Nat.le_of_ble_eq_true rfl) (fun v6 p6 => ?_); have B6 : Blk v6 (w.heap.size + 1) 23 [.int .u8 V.data, .int .u8 V.ctl, .int .u8 V.left, .int .u8 V.ph] := p6.blk; have z6 := p6.size; have K6 := hid (p6.kept _ K5.out (Nat.le_succ _)); clear p6)
  exact bodyPost_ret (res_cell Try.results16 rfl B6 Try.underlying23 rfl (by kernel_rfl)) rfl ⟨rfl, K6.out⟩
set_option maxRecDepth 100000 in
set_option maxHeartbeats 4000000 in
theorem pcy12_d (s : Sr) (b edge : Bool) (w : World) (I : SrIn s) (h : goesS s = true) (ho : ¬ s.ctl % 2 = 1) (he : edge = false) : Calls Try.prog 16 #[srV s, .bool b, .bool edge] w fun e w' => e = .returned (srV (stepS s b edge)) ∧ Kept w w' := by
  have E : stepS s b edge = s := by unfold stepS; rw [if_pos h, if_neg ho, if_neg (by rw [he]; decide)]
  rw [E]
  clear E
  have HG := hid (fun x => pgoes12 s x I)
  rw [h] at HG
  have m1 := and1_ne s.ctl I.c0 I.c1
  obtain ⟨sd, sc, sl, sp⟩ := s
  simp only at *
  rw [decide_eq_false ho] at m1
  clear ho
  subst he
  clear I h
  have X0 : Blk ((w.alloc (.cells ([.int .u8 sd, .int .u8 sc, .int .u8 sl, .int .u8 sp] : List Value).toArray 23)).alloc (.cells ([.int .u8 0, .int .u8 0, .int .u8 0, .int .u8 0] : List Value).toArray 23)) w.heap.size 23 [.int .u8 sd, .int .u8 sc, .int .u8 sl, .int .u8 sp] := blk_past (blk_new w _ _) _
  have X1 : Blk ((w.alloc (.cells ([.int .u8 sd, .int .u8 sc, .int .u8 sl, .int .u8 sp] : List Value).toArray 23)).alloc (.cells ([.int .u8 0, .int .u8 0, .int .u8 0, .int .u8 0] : List Value).toArray 23)) (w.heap.size + 1) 23 [.int .u8 0, .int .u8 0, .int .u8 0, .int .u8 0] := by have q := blk_new (w.alloc (.cells ([.int .u8 sd, .int .u8 sc, .int .u8 sl, .int .u8 sp] : List Value).toArray 23)) [.int .u8 0, .int .u8 0, .int .u8 0, .int .u8 0] 23; rw [World.size_alloc] at q; exact q
  have zx : ((w.alloc (.cells ([.int .u8 sd, .int .u8 sc, .int .u8 sl, .int .u8 sp] : List Value).toArray 23)).alloc (.cells ([.int .u8 0, .int .u8 0, .int .u8 0, .int .u8 0] : List Value).toArray 23)).heap.size = w.heap.size + 1 + 1 := by rw [World.size_alloc, World.size_alloc]
  have KX := hid (((Kept.refl w).alloc (.cells ([.int .u8 sd, .int .u8 sc, .int .u8 sl, .int .u8 sp] : List Value).toArray 23)).alloc (.cells ([.int .u8 0, .int .u8 0, .int .u8 0, .int .u8 0] : List Value).toArray 23))
  go_enter Try.func16, Try.ntmps16
  go_wp2_with fail
  refine (HG.out _).mono ?_
  rintro e u1 ⟨rfl, k1⟩
  have R1 := blk_kept k1 X1
  have Q1 := blk_kept k1 X0
  have K1 := hid (KX.out.trans k1)
  have c1 := blk_cell Q1
  have l1 := blk_lt R1
  clear k1 X0 X1 KX zx
  go_wp2_with ((with_reducible refine at_st 23 ?_); refine wl_store rfl rfl rfl rfl R1 (by kernel_rfl) rfl (Nat.le_of_ble_eq_true rfl) (fun v6 p6 => ?_); have B6 : Blk v6 (w.heap.size + 1) 23 [.int .u8 sd, .int .u8 sc, .int .u8 sl, .int .u8 sp] := p6.blk; have z6 := p6.size; have K6 := hid (p6.kept _ K1.out (Nat.le_succ _)); clear p6)
  exact bodyPost_ret (res_cell Try.results16 rfl B6 Try.underlying23 rfl (by kernel_rfl)) rfl ⟨rfl, K6.out⟩
theorem pcycle12 (s : Sr) (b edge : Bool) (w : World) (I : SrIn s) : Calls Try.prog 16 #[srV s, .bool b, .bool edge] w fun e w' => e = .returned (srV (stepS s b edge)) ∧ Kept w w' := by
  cases h : goesS s
  · exact pcy12_a s b edge w I h
  · by_cases ho : s.ctl % 2 = 1
    · exact pcy12_b s b edge w I h ho
    · cases he : edge
      · exact pcy12_d s b _ w I h ho rfl
      · exact pcy12_c s b _ w I h ho rfl
theorem ask_eq (s : Sr) (b edge : Bool) (I : SrIn s) : (!((stepS s b edge).data == s.data && ((stepS s b edge).ctl == s.ctl && ((stepS s b edge).left == s.left && (stepS s b edge).ph == s.ph))) && ((stepS s b edge).left == 0)) = askS s edge := by
  unfold stepS askS
  cases h : goesS s
  · rw [if_neg (by decide)]
    simp
  · obtain ⟨g1, g2⟩ := (goes_iff s).1 h
    rw [if_pos rfl]
    have no : (s.left == 0) = false := by simpa using g2
    have sh : ∀ r : Sr, r.left = s.left → (!((shiftS r b).data == s.data && ((shiftS r b).ctl == s.ctl && ((shiftS r b).left == s.left && (shiftS r b).ph == s.ph))) && ((shiftS r b).left == 0)) = (s.left == 1) := by
      intro r hr
      have e : (shiftS r b).left = s.left - 1 := by show r.left - 1 = _; rw [hr]
      rw [e]
      have ne : (s.left - 1 == s.left) = false := by simp; omega
      rw [ne, Bool.false_and, Bool.and_false, Bool.and_false, Bool.not_false, Bool.true_and]
      by_cases q : s.left = 1
      · rw [q]; rfl
      · rw [show (s.left - 1 == 0) = false by simp; omega]; exact (by simpa using q : (s.left == 1) = false).symm
    by_cases ho : s.ctl % 2 = 1
    · rw [if_pos ho, if_pos ho]
      unfold ownS
      by_cases hp : s.ph < 127
      · rw [if_pos hp, decide_eq_false (by omega : ¬ 127 ≤ s.ph), Bool.and_false, Bool.false_and]
        show (_ && (s.left == 0)) = false
        rw [no, Bool.and_false]
      · rw [if_neg hp, decide_eq_true (by omega : 127 ≤ s.ph), Bool.and_true, Bool.true_and]
        exact sh ⟨s.data, s.ctl, s.left, 0⟩ rfl
    · rw [if_neg ho, if_neg ho]
      cases edge
      · rw [if_neg (by decide)]
        show (_ && (s.left == 0)) = _
        rw [no, Bool.and_false, Bool.and_false, Bool.false_and]
      · rw [if_pos rfl, Bool.and_true, Bool.true_and]
        exact sh s rfl
theorem res_cell3 {P : Program} {fn : Func} {p q r : Tmp} {ty t : TypeId} {cs : List Value} {d : TypeDesc} (h : fn.results = #[.cell p ty, .tmp q, .tmp r]) {tmps : Array Value} {w : World} {b : Nat} (hp : tmps.getD p undef = .pointer (some ⟨b, 0, none⟩)) (hB : Blk w b t cs)
    (hu : P.underlying ty = some d) (hd : d.isRow = true) (hi : (P.info? ty).map (·.size) = some cs.length) : (results fn tmps).run P w = .ok (.tuple #[.agg cs.toArray, tmps.getD q undef, tmps.getD r undef]) w := by
  have hp' : tmps[p]?.getD undef = .pointer (some ⟨b, 0, none⟩) := by simpa using hp
  simp [results, h, hp', asAddr, run_var_blk hB hu hd hi]
def sameS (d f : Sr) : Bool := d.data == f.data && (d.ctl == f.ctl && (d.left == f.left && d.ph == f.ph))
set_option maxHeartbeats 2000000 in
theorem eq_ports (d f : Sr) (u : World) : (Op.equalIn 10000 23 (srV d) (srV f)).run Try.prog u = .ok (sameS d f) u := by
  unfold sameS
  cases h1 : (d.data == f.data)
  · simp [go_sem, h1]
  cases h2 : (d.ctl == f.ctl)
  · simp [go_sem, h1, h2]
  cases h3 : (d.left == f.left)
  · simp [go_sem, h1, h2, h3]
  cases h4 : (d.ph == f.ph) <;> simp [go_sem, h1, h2, h3, h4]
theorem same_refl (d : Sr) : sameS d d = true := by unfold sameS; simp
set_option maxRecDepth 100000 in
set_option maxHeartbeats 4000000 in
theorem pst12_s (s V : Sr) (b edge Q : Bool) (w : World) (I : SrIn s) (HA : ∀ x, Calls Try.prog 16 #[srV s, .bool b, .bool edge] x fun e w' => e = .returned (srV V) ∧ Kept x w') (hs : sameS V s = true) (hq : false = Q) : Calls Try.prog 10 #[srV s, .bool b, .bool edge] w fun e w' => e = .returned (.tuple #[srV V, .bool (outS s), .bool Q]) ∧ Kept w w' := by
  have HA := hid HA
  have EQ := fun u => eq_ports V s u
  rw [hs] at EQ
  have OU := and128_ne s.data I.d0 I.d1
  unfold outS
  obtain ⟨sd, sc, sl, sp⟩ := s
  simp only [srV] at EQ OU HA ⊢
  have HQ := hid hq
  clear I hs hq
  have X0 : Blk ((w.alloc (.cells ([.int .u8 sd, .int .u8 sc, .int .u8 sl, .int .u8 sp] : List Value).toArray 23)).alloc (.cells ([.int .u8 0, .int .u8 0, .int .u8 0, .int .u8 0] : List Value).toArray 23)) w.heap.size 23 [.int .u8 sd, .int .u8 sc, .int .u8 sl, .int .u8 sp] := blk_past (blk_new w _ _) _
  have X1 : Blk ((w.alloc (.cells ([.int .u8 sd, .int .u8 sc, .int .u8 sl, .int .u8 sp] : List Value).toArray 23)).alloc (.cells ([.int .u8 0, .int .u8 0, .int .u8 0, .int .u8 0] : List Value).toArray 23)) (w.heap.size + 1) 23 [.int .u8 0, .int .u8 0, .int .u8 0, .int .u8 0] := by have q := blk_new (w.alloc (.cells ([.int .u8 sd, .int .u8 sc, .int .u8 sl, .int .u8 sp] : List Value).toArray 23)) [.int .u8 0, .int .u8 0, .int .u8 0, .int .u8 0] 23; rw [World.size_alloc] at q; exact q
  have zx : ((w.alloc (.cells ([.int .u8 sd, .int .u8 sc, .int .u8 sl, .int .u8 sp] : List Value).toArray 23)).alloc (.cells ([.int .u8 0, .int .u8 0, .int .u8 0, .int .u8 0] : List Value).toArray 23)).heap.size = w.heap.size + 1 + 1 := by rw [World.size_alloc, World.size_alloc]
  have KX := hid (((Kept.refl w).alloc (.cells ([.int .u8 sd, .int .u8 sc, .int .u8 sl, .int .u8 sp] : List Value).toArray 23)).alloc (.cells ([.int .u8 0, .int .u8 0, .int .u8 0, .int .u8 0] : List Value).toArray 23))
  go_enter Try.func10, Try.ntmps10
  go_wp2_with fail
  refine (HA.out _).mono ?_
  rintro e u1 ⟨rfl, k1⟩
  have R1 := blk_past (blk_kept k1 X1) (.cells ([.int .u8 V.data, .int .u8 V.ctl, .int .u8 V.left, .int .u8 V.ph] : List Value).toArray 23)
  have Q1 := blk_past (blk_kept k1 X0) (.cells ([.int .u8 V.data, .int .u8 V.ctl, .int .u8 V.left, .int .u8 V.ph] : List Value).toArray 23)
  have S1 := blk_new u1 [.int .u8 V.data, .int .u8 V.ctl, .int .u8 V.left, .int .u8 V.ph] 23
  have K1 := hid ((KX.out.trans k1).alloc (.cells ([.int .u8 V.data, .int .u8 V.ctl, .int .u8 V.left, .int .u8 V.ph] : List Value).toArray 23))
  have c0 := blk_cell (blk_kept k1 X0)
  have c1 := blk_cell Q1
  have c2 := blk_cell S1
  have l1 := blk_lt R1
  have n1 : w.heap.size ≠ u1.heap.size := by have := blk_lt (blk_kept k1 X0); omega
  clear k1 X0 X1 KX zx
  go_wp2_with ((with_reducible refine at_st 23 ?_); refine wl_store rfl rfl rfl rfl R1 (by kernel_rfl) rfl (Nat.le_of_ble_eq_true rfl) (fun v6 p6 => ?_); have B6 : Blk v6 (w.heap.size + 1) 23 [.int .u8 V.data, .int .u8 V.ctl, .int .u8 V.left, .int .u8 V.ph] := p6.blk; have z6 := p6.size; have K6 := hid (p6.kept _ K1.out (Nat.le_succ _)); clear p6)
  exact bodyPost_ret (res_cell3 Try.results10 rfl B6 Try.underlying23 rfl (by kernel_rfl)) rfl ⟨by rw [← HQ.out]; rfl, K6.out⟩
set_option maxRecDepth 100000 in
set_option maxHeartbeats 4000000 in
theorem pst12_n (s V : Sr) (b edge Q : Bool) (w : World) (I : SrIn s) (HA : ∀ x, Calls Try.prog 16 #[srV s, .bool b, .bool edge] x fun e w' => e = .returned (srV V) ∧ Kept x w') (hs : sameS V s = false) (hq : (V.left == 0) = Q) : Calls Try.prog 10 #[srV s, .bool b, .bool edge] w fun e w' => e = .returned (.tuple #[srV V, .bool (outS s), .bool Q]) ∧ Kept w w' := by
  have HA := hid HA
  have EQ := fun u => eq_ports V s u
  rw [hs] at EQ
  have OU := and128_ne s.data I.d0 I.d1
  unfold outS
  obtain ⟨sd, sc, sl, sp⟩ := s
  simp only [srV] at EQ OU HA ⊢
  have HQ := hid hq
  clear I hs hq
  have X0 : Blk ((w.alloc (.cells ([.int .u8 sd, .int .u8 sc, .int .u8 sl, .int .u8 sp] : List Value).toArray 23)).alloc (.cells ([.int .u8 0, .int .u8 0, .int .u8 0, .int .u8 0] : List Value).toArray 23)) w.heap.size 23 [.int .u8 sd, .int .u8 sc, .int .u8 sl, .int .u8 sp] := blk_past (blk_new w _ _) _
  have X1 : Blk ((w.alloc (.cells ([.int .u8 sd, .int .u8 sc, .int .u8 sl, .int .u8 sp] : List Value).toArray 23)).alloc (.cells ([.int .u8 0, .int .u8 0, .int .u8 0, .int .u8 0] : List Value).toArray 23)) (w.heap.size + 1) 23 [.int .u8 0, .int .u8 0, .int .u8 0, .int .u8 0] := by have q := blk_new (w.alloc (.cells ([.int .u8 sd, .int .u8 sc, .int .u8 sl, .int .u8 sp] : List Value).toArray 23)) [.int .u8 0, .int .u8 0, .int .u8 0, .int .u8 0] 23; rw [World.size_alloc] at q; exact q
  have zx : ((w.alloc (.cells ([.int .u8 sd, .int .u8 sc, .int .u8 sl, .int .u8 sp] : List Value).toArray 23)).alloc (.cells ([.int .u8 0, .int .u8 0, .int .u8 0, .int .u8 0] : List Value).toArray 23)).heap.size = w.heap.size + 1 + 1 := by rw [World.size_alloc, World.size_alloc]
  have KX := hid (((Kept.refl w).alloc (.cells ([.int .u8 sd, .int .u8 sc, .int .u8 sl, .int .u8 sp] : List Value).toArray 23)).alloc (.cells ([.int .u8 0, .int .u8 0, .int .u8 0, .int .u8 0] : List Value).toArray 23))
  go_enter Try.func10, Try.ntmps10
  go_wp2_with fail
  refine (HA.out _).mono ?_
  rintro e u1 ⟨rfl, k1⟩
  have R1 := blk_past (blk_kept k1 X1) (.cells ([.int .u8 V.data, .int .u8 V.ctl, .int .u8 V.left, .int .u8 V.ph] : List Value).toArray 23)
  have Q1 := blk_past (blk_kept k1 X0) (.cells ([.int .u8 V.data, .int .u8 V.ctl, .int .u8 V.left, .int .u8 V.ph] : List Value).toArray 23)
  have S1 := blk_new u1 [.int .u8 V.data, .int .u8 V.ctl, .int .u8 V.left, .int .u8 V.ph] 23
  have K1 := hid ((KX.out.trans k1).alloc (.cells ([.int .u8 V.data, .int .u8 V.ctl, .int .u8 V.left, .int .u8 V.ph] : List Value).toArray 23))
  have c0 := blk_cell (blk_kept k1 X0)
  have c1 := blk_cell Q1
  have c2 := blk_cell S1
  have l1 := blk_lt R1
  have n1 : w.heap.size ≠ u1.heap.size := by have := blk_lt (blk_kept k1 X0); omega
  clear k1 X0 X1 KX zx
  go_wp2_with ((with_reducible refine at_st 23 ?_); refine wl_store rfl rfl rfl rfl R1 (by kernel_rfl) rfl (Nat.le_of_ble_eq_true rfl) (fun v6 p6 => ?_); have B6 : Blk v6 (w.heap.size + 1) 23 [.int .u8 V.data, .int .u8 V.ctl, .int .u8 V.left, .int .u8 V.ph] := p6.blk; have z6 := p6.size; have K6 := hid (p6.kept _ K1.out (Nat.le_succ _)); clear p6)
  exact bodyPost_ret (res_cell3 Try.results10 rfl B6 Try.underlying23 rfl (by kernel_rfl)) rfl ⟨by rw [← HQ.out]; rfl, K6.out⟩
theorem pstep12 (s : Sr) (b edge : Bool) (w : World) (I : SrIn s) : Calls Try.prog 10 #[srV s, .bool b, .bool edge] w fun e w' => e = .returned (.tuple #[srV (stepS s b edge), .bool (outS s), .bool (askS s edge)]) ∧ Kept w w' := by
  have AK := ask_eq s b edge I
  have AK : (!(sameS (stepS s b edge) s) && ((stepS s b edge).left == 0)) = askS s edge := AK
  cases hs : sameS (stepS s b edge) s
  · exact pst12_n s _ b edge _ w I (fun x => pcycle12 s b edge x I) hs (by rw [← AK, hs]; rfl)
  · exact pst12_s s _ b edge _ w I (fun x => pcycle12 s b edge x I) hs (by rw [← AK, hs]; rfl)
set_option maxRecDepth 100000 in
set_option maxHeartbeats 4000000 in
theorem pread12 (s : Sr) (a : Int) (w : World) (I : SrIn s) (a0 : 0 ≤ a) (a1 : a ≤ 65535) : Calls Try.prog 12 #[srV s, .int .u16 a] w fun e w' => e = .returned (.int .u8 (readS s a)) ∧ Kept w w' := by
  obtain ⟨sd, sc, sl, sp⟩ := s
  have d0 := I.d0
  have d1 := I.d1
  have c0 := I.c0
  have c1 := I.c1
  have l0 := I.l0
  have l1 := I.l1
  have p0 := I.p0
  have p1 := I.p1
  simp only at d0 d1 c0 c1 l0 l1 p0 p1
  have e4 := or126 sc c0 c1
  clear I
  by_cases q0 : a = 65281
  · subst q0
    have E := hid (show readS ⟨sd, sc, sl, sp⟩ 65281 = sd from rfl)
    go_enter Try.func12, Try.ntmps12
    go_wp2
    go_ret
    exact ⟨by rw [E.out]; rfl, (Kept.refl w).alloc _⟩
  by_cases q1 : a = 65282
  · subst q1
    have E := hid (show readS ⟨sd, sc, sl, sp⟩ 65282 = sc / 128 * 128 + 126 + sc % 2 from rfl)
    go_enter Try.func12, Try.ntmps12
    go_wp2
    go_ret
    exact ⟨by rw [E.out]; rfl, (Kept.refl w).alloc _⟩
  have E := hid (show readS ⟨sd, sc, sl, sp⟩ a = 255 by unfold readS; rw [if_neg q0, if_neg q1])
  have g0 : (a == 65281) = false := by simpa using q0
  have g1 : (a == 65282) = false := by simpa using q1
  go_enter Try.func12, Try.ntmps12
  go_wp2
  go_ret
  exact ⟨by rw [E.out]; rfl, (Kept.refl w).alloc _⟩
set_option maxRecDepth 100000 in
set_option maxHeartbeats 4000000 in
theorem pst12_a (s : Sr) (v : Int) (w : World) (I : SrIn s) (v0 : 0 ≤ v) (v1 : v ≤ 255) (hv : 128 ≤ v) : Calls Try.prog 17 #[srV s, .int .u8 v] w fun e w' => e = .returned (srV (writeS s 65282 v)) ∧ Kept w w' := by
  have E : writeS s 65282 v = ⟨s.data, v / 128 * 128 + v % 2, 8, 0⟩ := by
    show (⟨s.data, v / 128 * 128 + v % 2, if 128 ≤ v then 8 else 0, 0⟩ : Sr) = _
    rw [if_pos hv]
  rw [E]
  clear E
  have m1 := and128_ne v v0 v1
  rw [decide_eq_true hv] at m1
  have m2 := and129 v v0 v1
  obtain ⟨sd, sc, sl, sp⟩ := s
  try simp only at *
  clear I hv
  go_enter Try.func17, Try.ntmps17
  go_wp2
  exact bodyPost_ret (v := srV ⟨sd, v / 128 * 128 + v % 2, 8, 0⟩) (by simp [results, Try.results17, go_sem]) rfl ⟨rfl, by repeat (first | with_reducible exact Kept.refl _ | with_reducible refine Kept.alloc ?_ _ | with_reducible refine Kept.drew ?_ | (with_reducible refine Kept.setCell8 ?_ ?_ _ _; rotate_left; (first | exact Nat.le_refl _ | omega | (simp; done) | (simp; omega))))⟩
set_option maxRecDepth 100000 in
set_option maxHeartbeats 4000000 in
theorem pst12_b (s : Sr) (v : Int) (w : World) (I : SrIn s) (v0 : 0 ≤ v) (v1 : v ≤ 255) (hv : ¬ 128 ≤ v) : Calls Try.prog 17 #[srV s, .int .u8 v] w fun e w' => e = .returned (srV (writeS s 65282 v)) ∧ Kept w w' := by
  have E : writeS s 65282 v = ⟨s.data, v / 128 * 128 + v % 2, 0, 0⟩ := by
    show (⟨s.data, v / 128 * 128 + v % 2, if 128 ≤ v then 8 else 0, 0⟩ : Sr) = _
    rw [if_neg hv]
  rw [E]
  clear E
  have m1 := and128_ne v v0 v1
  rw [decide_eq_false hv] at m1
  have m2 := and129 v v0 v1
  obtain ⟨sd, sc, sl, sp⟩ := s
  try simp only at *
  clear I hv
  go_enter Try.func17, Try.ntmps17
  go_wp2
  exact bodyPost_ret (v := srV ⟨sd, v / 128 * 128 + v % 2, 0, 0⟩) (by simp [results, Try.results17, go_sem]) rfl ⟨rfl, by repeat (first | with_reducible exact Kept.refl _ | with_reducible refine Kept.alloc ?_ _ | with_reducible refine Kept.drew ?_ | (with_reducible refine Kept.setCell8 ?_ ?_ _ _; rotate_left; (first | exact Nat.le_refl _ | omega | (simp; done) | (simp; omega))))⟩
theorem pstarted12 (s : Sr) (v : Int) (w : World) (I : SrIn s) (v0 : 0 ≤ v) (v1 : v ≤ 255) : Calls Try.prog 17 #[srV s, .int .u8 v] w fun e w' => e = .returned (srV (writeS s 65282 v)) ∧ Kept w w' := by
  by_cases hv : 128 ≤ v
  · exact pst12_a s v w I v0 v1 hv
  · exact pst12_b s v w I v0 v1 hv
set_option maxRecDepth 100000 in
set_option maxHeartbeats 4000000 in
theorem pwr12_a (s : Sr) (a v : Int) (w : World) (I : SrIn s) (a0 : 0 ≤ a) (a1 : a ≤ 65535) (v0 : 0 ≤ v) (v1 : v ≤ 255) (ha : a = 65281) : Calls Try.prog 14 #[srV s, .int .u16 a, .int .u8 v] w fun e w' => e = .returned (srV (writeS s a v)) ∧ Kept w w' := by
  subst ha
  have E : writeS s 65281 v = ⟨v, s.ctl, s.left, s.ph⟩ := rfl
  rw [E]
  clear E
  obtain ⟨sd, sc, sl, sp⟩ := s
  have d0 := I.d0
  have d1 := I.d1
  have c0 := I.c0
  have c1 := I.c1
  have l0 := I.l0
  have l1 := I.l1
  have p0 := I.p0
  have p1 := I.p1
  simp only at d0 d1 c0 c1 l0 l1 p0 p1
  try simp only at *
  
  clear I
  go_enter Try.func14, Try.ntmps14
  go_wp2
  exact bodyPost_ret (v := srV ⟨v, sc, sl, sp⟩) (by simp [results, Try.results14, go_sem]) rfl ⟨rfl, by repeat (first | with_reducible exact Kept.refl _ | with_reducible refine Kept.alloc ?_ _ | with_reducible refine Kept.drew ?_ | (with_reducible refine Kept.setCell8 ?_ ?_ _ _; rotate_left; (first | exact Nat.le_refl _ | omega | (simp; done) | (simp; omega))))⟩
set_option maxRecDepth 100000 in
set_option maxHeartbeats 4000000 in
theorem pwr12_d (s : Sr) (a v : Int) (w : World) (I : SrIn s) (a0 : 0 ≤ a) (a1 : a ≤ 65535) (v0 : 0 ≤ v) (v1 : v ≤ 255) (q0 : a ≠ 65281) (q1 : a ≠ 65282) : Calls Try.prog 14 #[srV s, .int .u16 a, .int .u8 v] w fun e w' => e = .returned (srV (writeS s a v)) ∧ Kept w w' := by
  have E : writeS s a v = s := by unfold writeS; rw [if_neg q0, if_neg q1]
  rw [E]
  clear E
  obtain ⟨sd, sc, sl, sp⟩ := s
  have d0 := I.d0
  have d1 := I.d1
  have c0 := I.c0
  have c1 := I.c1
  have l0 := I.l0
  have l1 := I.l1
  have p0 := I.p0
  have p1 := I.p1
  simp only at d0 d1 c0 c1 l0 l1 p0 p1
  try simp only at *
  have g0 : (a == 65281) = false := by simpa using q0
  have g1 : (a == 65282) = false := by simpa using q1
  clear q0 q1
  clear I
  go_enter Try.func14, Try.ntmps14
  go_wp2
  exact bodyPost_ret (v := srV ⟨sd, sc, sl, sp⟩) (by simp [results, Try.results14, go_sem]) rfl ⟨rfl, by repeat (first | with_reducible exact Kept.refl _ | with_reducible refine Kept.alloc ?_ _ | with_reducible refine Kept.drew ?_ | (with_reducible refine Kept.setCell8 ?_ ?_ _ _; rotate_left; (first | exact Nat.le_refl _ | omega | (simp; done) | (simp; omega))))⟩
set_option maxRecDepth 100000 in
set_option maxHeartbeats 4000000 in
theorem pwr12_b (s : Sr) (a v : Int) (w : World) (I : SrIn s) (a0 : 0 ≤ a) (a1 : a ≤ 65535) (v0 : 0 ≤ v) (v1 : v ≤ 255) (ha : a = 65282) : Calls Try.prog 14 #[srV s, .int .u16 a, .int .u8 v] w fun e w' => e = .returned (srV (writeS s a v)) ∧ Kept w w' := by
  subst ha
  have HA := hid (fun x => pstarted12 s v x I v0 v1)
  generalize writeS s 65282 v = V at *
  obtain ⟨sd, sc, sl, sp⟩ := s
  try simp only at *
  clear I
  have X0 : Blk ((w.alloc (.cells ([.int .u8 sd, .int .u8 sc, .int .u8 sl, .int .u8 sp] : List Value).toArray 23)).alloc (.cells ([.int .u8 0, .int .u8 0, .int .u8 0, .int .u8 0] : List Value).toArray 23)) w.heap.size 23 [.int .u8 sd, .int .u8 sc, .int .u8 sl, .int .u8 sp] := blk_past (blk_new w _ _) _
  have X1 : Blk ((w.alloc (.cells ([.int .u8 sd, .int .u8 sc, .int .u8 sl, .int .u8 sp] : List Value).toArray 23)).alloc (.cells ([.int .u8 0, .int .u8 0, .int .u8 0, .int .u8 0] : List Value).toArray 23)) (w.heap.size + 1) 23 [.int .u8 0, .int .u8 0, .int .u8 0, .int .u8 0] := by have q := blk_new (w.alloc (.cells ([.int .u8 sd, .int .u8 sc, .int .u8 sl, .int .u8 sp] : List Value).toArray 23)) [.int .u8 0, .int .u8 0, .int .u8 0, .int .u8 0] 23; rw [World.size_alloc] at q; exact q
  have zx : ((w.alloc (.cells ([.int .u8 sd, .int .u8 sc, .int .u8 sl, .int .u8 sp] : List Value).toArray 23)).alloc (.cells ([.int .u8 0, .int .u8 0, .int .u8 0, .int .u8 0] : List Value).toArray 23)).heap.size = w.heap.size + 1 + 1 := by rw [World.size_alloc, World.size_alloc]
  have KX := hid (((Kept.refl w).alloc (.cells ([.int .u8 sd, .int .u8 sc, .int .u8 sl, .int .u8 sp] : List Value).toArray 23)).alloc (.cells ([.int .u8 0, .int .u8 0, .int .u8 0, .int .u8 0] : List Value).toArray 23))
  go_enter Try.func14, Try.ntmps14
  go_wp2_with fail
  refine (HA.out _).mono ?_
  rintro e u5 ⟨rfl, k5⟩
  have R5 := blk_kept k5 X1
  have K5 := hid (KX.out.trans k5)
  clear k5 X0 X1 KX
  go_wp2_with ((with_reducible refine at_st 23 ?_); refine wl_store rfl rfl rfl rfl R5 (by kernel_rfl) rfl (Nat.le_of_ble_eq_true rfl) (fun v6 p6 => ?_); have B6 : Blk v6 (w.heap.size + 1) 23 [.int .u8 V.data, .int .u8 V.ctl, .int .u8 V.left, .int .u8 V.ph] := p6.blk; have z6 := p6.size; have K6 := hid (p6.kept _ K5.out (Nat.le_succ _)); clear p6)
  exact bodyPost_ret (res_cell Try.results14 rfl B6 Try.underlying23 rfl (by kernel_rfl)) rfl ⟨rfl, K6.out⟩
theorem pwrite12 (s : Sr) (a v : Int) (w : World) (I : SrIn s) (a0 : 0 ≤ a) (a1 : a ≤ 65535) (v0 : 0 ≤ v) (v1 : v ≤ 255) : Calls Try.prog 14 #[srV s, .int .u16 a, .int .u8 v] w fun e w' => e = .returned (srV (writeS s a v)) ∧ Kept w w' := by
  by_cases q0 : a = 65281
  · exact pwr12_a s a v w I a0 a1 v0 v1 q0
  by_cases q1 : a = 65282
  · exact pwr12_b s a v w I a0 a1 v0 v1 q1
  · exact pwr12_d s a v w I a0 a1 v0 v1 q0 q1
end Go.Proofs.Ytblagmninenapaa
