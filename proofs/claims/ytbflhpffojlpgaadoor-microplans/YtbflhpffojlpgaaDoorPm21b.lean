/- The program's conditional, accumulator, words, jumps, over this seat's translation. -/
import Derived.Test.YtbflhpffojlpgaaDoorPm21a
namespace Go.Proofs.YtbflhpffojlpgaaDoor
open Go.RowKit
set_option linter.unusedVariables false
set_option linter.unusedSimpArgs false

set_option maxRecDepth 100000 in
set_option maxHeartbeats 4000000 in
theorem pcond_36 (x y b c t : Int) (w : World) : Calls Tryd.prog 17 #[.agg #[.int .i64 36, .int .i64 x, .int .i64 y, .int .i64 b, .int .i64 c, .int .i64 t]] w fun e w' => e = .returned (.bool (cndP 36 x)) ∧ Kept w w' := by
  have E := hid (show cndP 36 x = decide (x < 4) by simp [cndP])
  go_enter Tryd.func17, Tryd.ntmps17
  go_wp2
  go_ret
  exact ⟨ret_bool E.out.symm, (Kept.refl w).alloc _⟩
set_option maxRecDepth 100000 in
set_option maxHeartbeats 4000000 in
theorem pcond_37 (x y b c t : Int) (w : World) : Calls Tryd.prog 17 #[.agg #[.int .i64 37, .int .i64 x, .int .i64 y, .int .i64 b, .int .i64 c, .int .i64 t]] w fun e w' => e = .returned (.bool (cndP 37 x)) ∧ Kept w w' := by
  have E := hid (show cndP 37 x = decide (x < 4) by simp [cndP])
  go_enter Tryd.func17, Tryd.ntmps17
  go_wp2
  go_ret
  exact ⟨ret_bool E.out.symm, (Kept.refl w).alloc _⟩
set_option maxRecDepth 100000 in
set_option maxHeartbeats 4000000 in
theorem pcond_39 (x y b c t : Int) (w : World) : Calls Tryd.prog 17 #[.agg #[.int .i64 39, .int .i64 x, .int .i64 y, .int .i64 b, .int .i64 c, .int .i64 t]] w fun e w' => e = .returned (.bool (cndP 39 x)) ∧ Kept w w' := by
  have E := hid (show cndP 39 x = decide (x < 4) by simp [cndP])
  go_enter Tryd.func17, Tryd.ntmps17
  go_wp2
  go_ret
  exact ⟨ret_bool E.out.symm, (Kept.refl w).alloc _⟩
set_option maxRecDepth 100000 in
set_option maxHeartbeats 4000000 in
theorem pcond_40 (x y b c t : Int) (w : World) : Calls Tryd.prog 17 #[.agg #[.int .i64 40, .int .i64 x, .int .i64 y, .int .i64 b, .int .i64 c, .int .i64 t]] w fun e w' => e = .returned (.bool (cndP 40 x)) ∧ Kept w w' := by
  have E := hid (show cndP 40 x = decide (x < 4) by simp [cndP])
  go_enter Tryd.func17, Tryd.ntmps17
  go_wp2
  go_ret
  exact ⟨ret_bool E.out.symm, (Kept.refl w).alloc _⟩
set_option maxRecDepth 100000 in
set_option maxHeartbeats 4000000 in
theorem pcond_no (k x y b c t : Int) (w : World) (n36 : (k == 36) = false) (n37 : (k == 37) = false) (n39 : (k == 39) = false) (n40 : (k == 40) = false) : Calls Tryd.prog 17 #[.agg #[.int .i64 k, .int .i64 x, .int .i64 y, .int .i64 b, .int .i64 c, .int .i64 t]] w fun e w' => e = .returned (.bool (cndP k x)) ∧ Kept w w' := by
  have E := hid (show cndP k x = false by simp [cndP, n36, n37, n39, n40])
  go_enter Tryd.func17, Tryd.ntmps17
  go_wp2
  go_ret
  exact ⟨ret_bool E.out.symm, (Kept.refl w).alloc _⟩
theorem pcond21 (k x y b c t : Int) (w : World) : Calls Tryd.prog 17 #[.agg #[.int .i64 k, .int .i64 x, .int .i64 y, .int .i64 b, .int .i64 c, .int .i64 t]] w fun e w' => e = .returned (.bool (cndP k x)) ∧ Kept w w' := by
  by_cases q36 : k = 36
  · subst q36; exact pcond_36 x y b c t w
  by_cases q37 : k = 37
  · subst q37; exact pcond_37 x y b c t w
  by_cases q39 : k = 39
  · subst q39; exact pcond_39 x y b c t w
  by_cases q40 : k = 40
  · subst q40; exact pcond_40 x y b c t w
  exact pcond_no k x y b c t w (by simp [q36]) (by simp [q37]) (by simp [q39]) (by simp [q40])
set_option maxRecDepth 100000 in
set_option maxHeartbeats 4000000 in
theorem pacc_11 (x y b c t : Int) (w : World) : Calls Tryd.prog 19 #[.agg #[.int .i64 11, .int .i64 x, .int .i64 y, .int .i64 b, .int .i64 c, .int .i64 t]] w (MRet w (accP 11 x)) := by
  go_enter Tryd.func19, Tryd.ntmps19
  have K0 := hid ((Kept.refl w).alloc (.cells #[.int .i64 11, .int .i64 x, .int .i64 y, .int .i64 b, .int .i64 c, .int .i64 t] 29))
  go_wp2_with fail
  refine (pbyte21 _).mono ?_
  rintro e u1 ⟨a1, c1, rfl, s1, k1⟩
  have K1 := hid (K0.out.trans k1)
  have SP0_1 := hid s1
  clear s1 k1
  go_wp2_with fail
  refine (pread21 7 1 _).mono ?_
  rintro e u2 ⟨a2, c2, rfl, s2, k2⟩
  have K2 := hid (K1.out.trans k2)
  have SP0_2 := hid (slM_kept k2 SP0_1.out)
  have SP1_2 := hid s2
  clear s2 k2
  go_wp2_with fail
  refine (tog2 _ SP0_2.out SP1_2.out (by first | decide | exact le_two (by first | decide | exact on100 _ (by decide)) (by first | decide | exact on100 _ (by decide)))).mono ?_
  rintro e u3 ⟨a3, c3, rfl, s3, k3⟩
  have K3 := hid (K2.out.trans k3)
  have SP0_3 := hid (slM_kept k3 SP0_2.out)
  have SP1_3 := hid (slM_kept k3 SP1_2.out)
  have ST_3 := hid s3
  clear s3 k3
  go_wp2
  go_ret
  exact ⟨a3, c3, (by first | rfl | exact ret_two), ST_3.out, K3.out⟩
set_option maxRecDepth 100000 in
set_option maxHeartbeats 4000000 in
theorem pacc_12 (x y b c t : Int) (w : World) : Calls Tryd.prog 19 #[.agg #[.int .i64 12, .int .i64 x, .int .i64 y, .int .i64 b, .int .i64 c, .int .i64 t]] w (MRet w (accP 12 x)) := by
  go_enter Tryd.func19, Tryd.ntmps19
  have K0 := hid ((Kept.refl w).alloc (.cells #[.int .i64 12, .int .i64 x, .int .i64 y, .int .i64 b, .int .i64 c, .int .i64 t] 29))
  go_wp2_with fail
  refine (pbyte21 _).mono ?_
  rintro e u1 ⟨a1, c1, rfl, s1, k1⟩
  have K1 := hid (K0.out.trans k1)
  have SP0_1 := hid s1
  clear s1 k1
  go_wp2_with fail
  refine (pwrite21 7 3 _).mono ?_
  rintro e u2 ⟨a2, c2, rfl, s2, k2⟩
  have K2 := hid (K1.out.trans k2)
  have SP0_2 := hid (slM_kept k2 SP0_1.out)
  have SP1_2 := hid s2
  clear s2 k2
  go_wp2_with fail
  refine (tog2 _ SP0_2.out SP1_2.out (by first | decide | exact le_two (by first | decide | exact on100 _ (by decide)) (by first | decide | exact on100 _ (by decide)))).mono ?_
  rintro e u3 ⟨a3, c3, rfl, s3, k3⟩
  have K3 := hid (K2.out.trans k3)
  have SP0_3 := hid (slM_kept k3 SP0_2.out)
  have SP1_3 := hid (slM_kept k3 SP1_2.out)
  have ST_3 := hid s3
  clear s3 k3
  go_wp2
  go_ret
  exact ⟨a3, c3, (by first | rfl | exact ret_two), ST_3.out, K3.out⟩
set_option maxRecDepth 100000 in
set_option maxHeartbeats 4000000 in
theorem pacc_13 (x y b c t : Int) (w : World) : Calls Tryd.prog 19 #[.agg #[.int .i64 13, .int .i64 x, .int .i64 y, .int .i64 b, .int .i64 c, .int .i64 t]] w (MRet w (accP 13 x)) := by
  go_enter Tryd.func19, Tryd.ntmps19
  have K0 := hid ((Kept.refl w).alloc (.cells #[.int .i64 13, .int .i64 x, .int .i64 y, .int .i64 b, .int .i64 c, .int .i64 t] 29))
  go_wp2_with fail
  refine (pread21 8 1 _).mono ?_
  rintro e u1 ⟨a1, c1, rfl, s1, k1⟩
  have K1 := hid (K0.out.trans k1)
  have SP0_1 := hid s1
  clear s1 k1
  go_wp2
  go_ret
  exact ⟨a1, c1, (by first | rfl | exact ret_two), SP0_1.out, K1.out⟩
set_option maxRecDepth 100000 in
set_option maxHeartbeats 4000000 in
theorem pacc_14 (x y b c t : Int) (w : World) : Calls Tryd.prog 19 #[.agg #[.int .i64 14, .int .i64 x, .int .i64 y, .int .i64 b, .int .i64 c, .int .i64 t]] w (MRet w (accP 14 x)) := by
  go_enter Tryd.func19, Tryd.ntmps19
  have K0 := hid ((Kept.refl w).alloc (.cells #[.int .i64 14, .int .i64 x, .int .i64 y, .int .i64 b, .int .i64 c, .int .i64 t] 29))
  go_wp2_with fail
  refine (pwrite21 8 3 _).mono ?_
  rintro e u1 ⟨a1, c1, rfl, s1, k1⟩
  have K1 := hid (K0.out.trans k1)
  have SP0_1 := hid s1
  clear s1 k1
  go_wp2
  go_ret
  exact ⟨a1, c1, (by first | rfl | exact ret_two), SP0_1.out, K1.out⟩
set_option maxRecDepth 100000 in
set_option maxHeartbeats 4000000 in
theorem pacc_15 (x y b c t : Int) (w : World) : Calls Tryd.prog 19 #[.agg #[.int .i64 15, .int .i64 x, .int .i64 y, .int .i64 b, .int .i64 c, .int .i64 t]] w (MRet w (accP 15 x)) := by
  go_enter Tryd.func19, Tryd.ntmps19
  have K0 := hid ((Kept.refl w).alloc (.cells #[.int .i64 15, .int .i64 x, .int .i64 y, .int .i64 b, .int .i64 c, .int .i64 t] 29))
  go_wp2_with fail
  refine (pword21 _).mono ?_
  rintro e u1 ⟨a1, c1, rfl, s1, k1⟩
  have K1 := hid (K0.out.trans k1)
  have SP0_1 := hid s1
  clear s1 k1
  go_wp2_with fail
  refine (pread21 9 1 _).mono ?_
  rintro e u2 ⟨a2, c2, rfl, s2, k2⟩
  have K2 := hid (K1.out.trans k2)
  have SP0_2 := hid (slM_kept k2 SP0_1.out)
  have SP1_2 := hid s2
  clear s2 k2
  go_wp2_with fail
  refine (tog2 _ SP0_2.out SP1_2.out (by first | decide | exact le_two (by first | decide | exact on100 _ (by decide)) (by first | decide | exact on100 _ (by decide)))).mono ?_
  rintro e u3 ⟨a3, c3, rfl, s3, k3⟩
  have K3 := hid (K2.out.trans k3)
  have SP0_3 := hid (slM_kept k3 SP0_2.out)
  have SP1_3 := hid (slM_kept k3 SP1_2.out)
  have ST_3 := hid s3
  clear s3 k3
  go_wp2
  go_ret
  exact ⟨a3, c3, (by first | rfl | exact ret_two), ST_3.out, K3.out⟩
set_option maxRecDepth 100000 in
set_option maxHeartbeats 4000000 in
theorem pacc_16 (x y b c t : Int) (w : World) : Calls Tryd.prog 19 #[.agg #[.int .i64 16, .int .i64 x, .int .i64 y, .int .i64 b, .int .i64 c, .int .i64 t]] w (MRet w (accP 16 x)) := by
  go_enter Tryd.func19, Tryd.ntmps19
  have K0 := hid ((Kept.refl w).alloc (.cells #[.int .i64 16, .int .i64 x, .int .i64 y, .int .i64 b, .int .i64 c, .int .i64 t] 29))
  go_wp2_with fail
  refine (pword21 _).mono ?_
  rintro e u1 ⟨a1, c1, rfl, s1, k1⟩
  have K1 := hid (K0.out.trans k1)
  have SP0_1 := hid s1
  clear s1 k1
  go_wp2_with fail
  refine (pwrite21 9 3 _).mono ?_
  rintro e u2 ⟨a2, c2, rfl, s2, k2⟩
  have K2 := hid (K1.out.trans k2)
  have SP0_2 := hid (slM_kept k2 SP0_1.out)
  have SP1_2 := hid s2
  clear s2 k2
  go_wp2_with fail
  refine (tog2 _ SP0_2.out SP1_2.out (by first | decide | exact le_two (by first | decide | exact on100 _ (by decide)) (by first | decide | exact on100 _ (by decide)))).mono ?_
  rintro e u3 ⟨a3, c3, rfl, s3, k3⟩
  have K3 := hid (K2.out.trans k3)
  have SP0_3 := hid (slM_kept k3 SP0_2.out)
  have SP1_3 := hid (slM_kept k3 SP1_2.out)
  have ST_3 := hid s3
  clear s3 k3
  go_wp2
  go_ret
  exact ⟨a3, c3, (by first | rfl | exact ret_two), ST_3.out, K3.out⟩
set_option maxRecDepth 100000 in
set_option maxHeartbeats 4000000 in
theorem pacc_9_0 (y b c t : Int) (w : World) (lay : Lay21 w) : Calls Tryd.prog 19 #[.agg #[.int .i64 9, .int .i64 0, .int .i64 y, .int .i64 b, .int .i64 c, .int .i64 t]] w (MRet w (accP 9 0)) := by
  have l1 := lay.2.1
  have l2 : w.cell? ⟨1, 0, none⟩ = some (.int .i64 3) := lay.2.2 0
  clear lay
  go_enter Tryd.func19, Tryd.ntmps19
  have K0 := hid ((Kept.refl w).alloc (.cells #[.int .i64 9, .int .i64 0, .int .i64 y, .int .i64 b, .int .i64 c, .int .i64 t] 29))
  go_wp2_with fail
  refine (pread21 3 1 _).mono ?_
  rintro e u1 ⟨a1, c1, rfl, s1, k1⟩
  have S1 := hid s1
  have K1 := hid (K0.out.trans k1)
  clear s1 k1
  go_wp2
  go_ret
  exact ⟨a1, c1, rfl, S1.out, K1.out⟩
set_option maxRecDepth 100000 in
set_option maxHeartbeats 4000000 in
theorem pacc_9_1 (y b c t : Int) (w : World) (lay : Lay21 w) : Calls Tryd.prog 19 #[.agg #[.int .i64 9, .int .i64 1, .int .i64 y, .int .i64 b, .int .i64 c, .int .i64 t]] w (MRet w (accP 9 1)) := by
  have l1 := lay.2.1
  have l2 : w.cell? ⟨1, 1, none⟩ = some (.int .i64 4) := lay.2.2 1
  clear lay
  go_enter Tryd.func19, Tryd.ntmps19
  have K0 := hid ((Kept.refl w).alloc (.cells #[.int .i64 9, .int .i64 1, .int .i64 y, .int .i64 b, .int .i64 c, .int .i64 t] 29))
  go_wp2_with fail
  refine (pread21 4 1 _).mono ?_
  rintro e u1 ⟨a1, c1, rfl, s1, k1⟩
  have S1 := hid s1
  have K1 := hid (K0.out.trans k1)
  clear s1 k1
  go_wp2
  go_ret
  exact ⟨a1, c1, rfl, S1.out, K1.out⟩
set_option maxRecDepth 100000 in
set_option maxHeartbeats 4000000 in
theorem pacc_9_2 (y b c t : Int) (w : World) (lay : Lay21 w) : Calls Tryd.prog 19 #[.agg #[.int .i64 9, .int .i64 2, .int .i64 y, .int .i64 b, .int .i64 c, .int .i64 t]] w (MRet w (accP 9 2)) := by
  have l1 := lay.2.1
  have l2 : w.cell? ⟨1, 2, none⟩ = some (.int .i64 5) := lay.2.2 2
  clear lay
  go_enter Tryd.func19, Tryd.ntmps19
  have K0 := hid ((Kept.refl w).alloc (.cells #[.int .i64 9, .int .i64 2, .int .i64 y, .int .i64 b, .int .i64 c, .int .i64 t] 29))
  go_wp2_with fail
  refine (pread21 5 1 _).mono ?_
  rintro e u1 ⟨a1, c1, rfl, s1, k1⟩
  have S1 := hid s1
  have K1 := hid (K0.out.trans k1)
  clear s1 k1
  go_wp2
  go_ret
  exact ⟨a1, c1, rfl, S1.out, K1.out⟩
set_option maxRecDepth 100000 in
set_option maxHeartbeats 4000000 in
theorem pacc_9_3 (y b c t : Int) (w : World) (lay : Lay21 w) : Calls Tryd.prog 19 #[.agg #[.int .i64 9, .int .i64 3, .int .i64 y, .int .i64 b, .int .i64 c, .int .i64 t]] w (MRet w (accP 9 3)) := by
  have l1 := lay.2.1
  have l2 : w.cell? ⟨1, 3, none⟩ = some (.int .i64 6) := lay.2.2 3
  clear lay
  go_enter Tryd.func19, Tryd.ntmps19
  have K0 := hid ((Kept.refl w).alloc (.cells #[.int .i64 9, .int .i64 3, .int .i64 y, .int .i64 b, .int .i64 c, .int .i64 t] 29))
  go_wp2_with fail
  refine (pread21 6 1 _).mono ?_
  rintro e u1 ⟨a1, c1, rfl, s1, k1⟩
  have S1 := hid s1
  have K1 := hid (K0.out.trans k1)
  clear s1 k1
  go_wp2
  go_ret
  exact ⟨a1, c1, rfl, S1.out, K1.out⟩
set_option maxRecDepth 100000 in
set_option maxHeartbeats 4000000 in
theorem pacc_10_0 (y b c t : Int) (w : World) (lay : Lay21 w) : Calls Tryd.prog 19 #[.agg #[.int .i64 10, .int .i64 0, .int .i64 y, .int .i64 b, .int .i64 c, .int .i64 t]] w (MRet w (accP 10 0)) := by
  have l1 := lay.2.1
  have l2 : w.cell? ⟨1, 0, none⟩ = some (.int .i64 3) := lay.2.2 0
  clear lay
  go_enter Tryd.func19, Tryd.ntmps19
  have K0 := hid ((Kept.refl w).alloc (.cells #[.int .i64 10, .int .i64 0, .int .i64 y, .int .i64 b, .int .i64 c, .int .i64 t] 29))
  go_wp2_with fail
  refine (pwrite21 3 3 _).mono ?_
  rintro e u1 ⟨a1, c1, rfl, s1, k1⟩
  have S1 := hid s1
  have K1 := hid (K0.out.trans k1)
  clear s1 k1
  go_wp2
  go_ret
  exact ⟨a1, c1, rfl, S1.out, K1.out⟩
set_option maxRecDepth 100000 in
set_option maxHeartbeats 4000000 in
theorem pacc_10_1 (y b c t : Int) (w : World) (lay : Lay21 w) : Calls Tryd.prog 19 #[.agg #[.int .i64 10, .int .i64 1, .int .i64 y, .int .i64 b, .int .i64 c, .int .i64 t]] w (MRet w (accP 10 1)) := by
  have l1 := lay.2.1
  have l2 : w.cell? ⟨1, 1, none⟩ = some (.int .i64 4) := lay.2.2 1
  clear lay
  go_enter Tryd.func19, Tryd.ntmps19
  have K0 := hid ((Kept.refl w).alloc (.cells #[.int .i64 10, .int .i64 1, .int .i64 y, .int .i64 b, .int .i64 c, .int .i64 t] 29))
  go_wp2_with fail
  refine (pwrite21 4 3 _).mono ?_
  rintro e u1 ⟨a1, c1, rfl, s1, k1⟩
  have S1 := hid s1
  have K1 := hid (K0.out.trans k1)
  clear s1 k1
  go_wp2
  go_ret
  exact ⟨a1, c1, rfl, S1.out, K1.out⟩
set_option maxRecDepth 100000 in
set_option maxHeartbeats 4000000 in
theorem pacc_10_2 (y b c t : Int) (w : World) (lay : Lay21 w) : Calls Tryd.prog 19 #[.agg #[.int .i64 10, .int .i64 2, .int .i64 y, .int .i64 b, .int .i64 c, .int .i64 t]] w (MRet w (accP 10 2)) := by
  have l1 := lay.2.1
  have l2 : w.cell? ⟨1, 2, none⟩ = some (.int .i64 5) := lay.2.2 2
  clear lay
  go_enter Tryd.func19, Tryd.ntmps19
  have K0 := hid ((Kept.refl w).alloc (.cells #[.int .i64 10, .int .i64 2, .int .i64 y, .int .i64 b, .int .i64 c, .int .i64 t] 29))
  go_wp2_with fail
  refine (pwrite21 5 3 _).mono ?_
  rintro e u1 ⟨a1, c1, rfl, s1, k1⟩
  have S1 := hid s1
  have K1 := hid (K0.out.trans k1)
  clear s1 k1
  go_wp2
  go_ret
  exact ⟨a1, c1, rfl, S1.out, K1.out⟩
set_option maxRecDepth 100000 in
set_option maxHeartbeats 4000000 in
theorem pacc_10_3 (y b c t : Int) (w : World) (lay : Lay21 w) : Calls Tryd.prog 19 #[.agg #[.int .i64 10, .int .i64 3, .int .i64 y, .int .i64 b, .int .i64 c, .int .i64 t]] w (MRet w (accP 10 3)) := by
  have l1 := lay.2.1
  have l2 : w.cell? ⟨1, 3, none⟩ = some (.int .i64 6) := lay.2.2 3
  clear lay
  go_enter Tryd.func19, Tryd.ntmps19
  have K0 := hid ((Kept.refl w).alloc (.cells #[.int .i64 10, .int .i64 3, .int .i64 y, .int .i64 b, .int .i64 c, .int .i64 t] 29))
  go_wp2_with fail
  refine (pwrite21 6 3 _).mono ?_
  rintro e u1 ⟨a1, c1, rfl, s1, k1⟩
  have S1 := hid s1
  have K1 := hid (K0.out.trans k1)
  clear s1 k1
  go_wp2
  go_ret
  exact ⟨a1, c1, rfl, S1.out, K1.out⟩
set_option maxRecDepth 100000 in
set_option maxHeartbeats 4000000 in
theorem pacc_no (k x y b c t : Int) (w : World) (n9 : (k == 9) = false) (n10 : (k == 10) = false) (n11 : (k == 11) = false) (n12 : (k == 12) = false) (n13 : (k == 13) = false) (n14 : (k == 14) = false) (n15 : (k == 15) = false) (n16 : (k == 16) = false) : Calls Tryd.prog 19 #[.agg #[.int .i64 k, .int .i64 x, .int .i64 y, .int .i64 b, .int .i64 c, .int .i64 t]] w (MRet w []) := by
  go_enter Tryd.func19, Tryd.ntmps19
  go_wp2
  go_ret
  exact ⟨none, 0, rfl, slM_nil _, (Kept.refl w).alloc _⟩
theorem pacc21 (k x y b c t : Int) (w : World) (lay : Lay21 w) (hx : 0 ≤ x) (h3 : k = 9 ∨ k = 10 → x ≤ 3) : Calls Tryd.prog 19 #[.agg #[.int .i64 k, .int .i64 x, .int .i64 y, .int .i64 b, .int .i64 c, .int .i64 t]] w (MRet w (accP k x)) := by
  by_cases q9 : k = 9
  · subst q9
    have := h3 (.inl rfl)
    rcases (show x = 0 ∨ x = 1 ∨ x = 2 ∨ x = 3 by omega) with rfl | rfl | rfl | rfl
    · exact pacc_9_0 y b c t w lay
    · exact pacc_9_1 y b c t w lay
    · exact pacc_9_2 y b c t w lay
    · exact pacc_9_3 y b c t w lay
  by_cases q10 : k = 10
  · subst q10
    have := h3 (.inr rfl)
    rcases (show x = 0 ∨ x = 1 ∨ x = 2 ∨ x = 3 by omega) with rfl | rfl | rfl | rfl
    · exact pacc_10_0 y b c t w lay
    · exact pacc_10_1 y b c t w lay
    · exact pacc_10_2 y b c t w lay
    · exact pacc_10_3 y b c t w lay
  by_cases q11 : k = 11
  · subst q11; exact pacc_11 x y b c t w
  by_cases q12 : k = 12
  · subst q12; exact pacc_12 x y b c t w
  by_cases q13 : k = 13
  · subst q13; exact pacc_13 x y b c t w
  by_cases q14 : k = 14
  · subst q14; exact pacc_14 x y b c t w
  by_cases q15 : k = 15
  · subst q15; exact pacc_15 x y b c t w
  by_cases q16 : k = 16
  · subst q16; exact pacc_16 x y b c t w
  rw [show accP k x = [] by simp [accP, q9, q10, q11, q12, q13, q14, q15, q16]]
  exact pacc_no k x y b c t w (by simp [q9]) (by simp [q10]) (by simp [q11]) (by simp [q12]) (by simp [q13]) (by simp [q14]) (by simp [q15]) (by simp [q16])
set_option maxRecDepth 100000 in
set_option maxHeartbeats 4000000 in
theorem pwrd_17 (x y b c t : Int) (w : World) : Calls Tryd.prog 21 #[.agg #[.int .i64 17, .int .i64 x, .int .i64 y, .int .i64 b, .int .i64 c, .int .i64 t]] w (MRet w (wrdP 17)) := by
  go_enter Tryd.func21, Tryd.ntmps21
  have K0 := hid ((Kept.refl w).alloc (.cells #[.int .i64 17, .int .i64 x, .int .i64 y, .int .i64 b, .int .i64 c, .int .i64 t] 29))
  go_wp2_with fail
  refine (pword21 _).mono ?_
  rintro e u1 ⟨a1, c1, rfl, s1, k1⟩
  have K1 := hid (K0.out.trans k1)
  have SP0_1 := hid s1
  clear s1 k1
  go_wp2
  go_ret
  exact ⟨a1, c1, (by first | rfl | exact ret_two), SP0_1.out, K1.out⟩
set_option maxRecDepth 100000 in
set_option maxHeartbeats 4000000 in
theorem pwrd_18 (x y b c t : Int) (w : World) : Calls Tryd.prog 21 #[.agg #[.int .i64 18, .int .i64 x, .int .i64 y, .int .i64 b, .int .i64 c, .int .i64 t]] w (MRet w (wrdP 18)) := by
  go_enter Tryd.func21, Tryd.ntmps21
  have K0 := hid ((Kept.refl w).alloc (.cells #[.int .i64 18, .int .i64 x, .int .i64 y, .int .i64 b, .int .i64 c, .int .i64 t] 29))
  go_wp2_with fail
  refine (pword21 _).mono ?_
  rintro e u1 ⟨a1, c1, rfl, s1, k1⟩
  have K1 := hid (K0.out.trans k1)
  have SP0_1 := hid s1
  clear s1 k1
  go_wp2_with fail
  refine (pwrite21 9 5 _).mono ?_
  rintro e u2 ⟨a2, c2, rfl, s2, k2⟩
  have K2 := hid (K1.out.trans k2)
  have SP0_2 := hid (slM_kept k2 SP0_1.out)
  have SP1_2 := hid s2
  clear s2 k2
  go_wp2_with fail
  refine (pwrite21 10 6 _).mono ?_
  rintro e u3 ⟨a3, c3, rfl, s3, k3⟩
  have K3 := hid (K2.out.trans k3)
  have SP0_3 := hid (slM_kept k3 SP0_2.out)
  have SP1_3 := hid (slM_kept k3 SP1_2.out)
  have SP2_3 := hid s3
  clear s3 k3
  go_wp2_with fail
  refine (tog3 _ SP0_3.out SP1_3.out SP2_3.out (by first | decide | exact le_two (by first | decide | exact on100 _ (by decide)) (by first | decide | exact on100 _ (by decide)))).mono ?_
  rintro e u4 ⟨a4, c4, rfl, s4, k4⟩
  have K4 := hid (K3.out.trans k4)
  have SP0_4 := hid (slM_kept k4 SP0_3.out)
  have SP1_4 := hid (slM_kept k4 SP1_3.out)
  have SP2_4 := hid (slM_kept k4 SP2_3.out)
  have ST_4 := hid s4
  clear s4 k4
  go_wp2
  go_ret
  exact ⟨a4, c4, (by first | rfl | exact ret_two), ST_4.out, K4.out⟩
set_option maxRecDepth 100000 in
set_option maxHeartbeats 4000000 in
theorem pwrd_19 (x y b c t : Int) (w : World) : Calls Tryd.prog 21 #[.agg #[.int .i64 19, .int .i64 x, .int .i64 y, .int .i64 b, .int .i64 c, .int .i64 t]] w (MRet w (wrdP 19)) := by
  go_enter Tryd.func21, Tryd.ntmps21
  have K0 := hid ((Kept.refl w).alloc (.cells #[.int .i64 19, .int .i64 x, .int .i64 y, .int .i64 b, .int .i64 c, .int .i64 t] 29))
  go_wp2_with fail
  refine (pidle21 _).mono ?_
  rintro e u1 ⟨a1, c1, rfl, s1, k1⟩
  have K1 := hid (K0.out.trans k1)
  have SP0_1 := hid s1
  clear s1 k1
  go_wp2
  go_ret
  exact ⟨a1, c1, (by first | rfl | exact ret_two), SP0_1.out, K1.out⟩
set_option maxRecDepth 100000 in
set_option maxHeartbeats 4000000 in
theorem pwrd_27 (x y b c t : Int) (w : World) : Calls Tryd.prog 21 #[.agg #[.int .i64 27, .int .i64 x, .int .i64 y, .int .i64 b, .int .i64 c, .int .i64 t]] w (MRet w (wrdP 27)) := by
  go_enter Tryd.func21, Tryd.ntmps21
  have K0 := hid ((Kept.refl w).alloc (.cells #[.int .i64 27, .int .i64 x, .int .i64 y, .int .i64 b, .int .i64 c, .int .i64 t] 29))
  go_wp2_with fail
  refine (pidle21 _).mono ?_
  rintro e u1 ⟨a1, c1, rfl, s1, k1⟩
  have K1 := hid (K0.out.trans k1)
  have SP0_1 := hid s1
  clear s1 k1
  go_wp2
  go_ret
  exact ⟨a1, c1, (by first | rfl | exact ret_two), SP0_1.out, K1.out⟩
set_option maxRecDepth 100000 in
set_option maxHeartbeats 4000000 in
theorem pwrd_28 (x y b c t : Int) (w : World) : Calls Tryd.prog 21 #[.agg #[.int .i64 28, .int .i64 x, .int .i64 y, .int .i64 b, .int .i64 c, .int .i64 t]] w (MRet w (wrdP 28)) := by
  go_enter Tryd.func21, Tryd.ntmps21
  have K0 := hid ((Kept.refl w).alloc (.cells #[.int .i64 28, .int .i64 x, .int .i64 y, .int .i64 b, .int .i64 c, .int .i64 t] 29))
  go_wp2_with fail
  refine (pidle21 _).mono ?_
  rintro e u1 ⟨a1, c1, rfl, s1, k1⟩
  have K1 := hid (K0.out.trans k1)
  have SP0_1 := hid s1
  clear s1 k1
  go_wp2
  go_ret
  exact ⟨a1, c1, (by first | rfl | exact ret_two), SP0_1.out, K1.out⟩
set_option maxRecDepth 100000 in
set_option maxHeartbeats 4000000 in
theorem pwrd_29 (x y b c t : Int) (w : World) : Calls Tryd.prog 21 #[.agg #[.int .i64 29, .int .i64 x, .int .i64 y, .int .i64 b, .int .i64 c, .int .i64 t]] w (MRet w (wrdP 29)) := by
  go_enter Tryd.func21, Tryd.ntmps21
  have K0 := hid ((Kept.refl w).alloc (.cells #[.int .i64 29, .int .i64 x, .int .i64 y, .int .i64 b, .int .i64 c, .int .i64 t] 29))
  go_wp2_with fail
  refine (pidle21 _).mono ?_
  rintro e u1 ⟨a1, c1, rfl, s1, k1⟩
  have K1 := hid (K0.out.trans k1)
  have SP0_1 := hid s1
  clear s1 k1
  go_wp2
  go_ret
  exact ⟨a1, c1, (by first | rfl | exact ret_two), SP0_1.out, K1.out⟩
set_option maxRecDepth 100000 in
set_option maxHeartbeats 4000000 in
theorem pwrd_20 (x y b c t : Int) (w : World) : Calls Tryd.prog 21 #[.agg #[.int .i64 20, .int .i64 x, .int .i64 y, .int .i64 b, .int .i64 c, .int .i64 t]] w (MRet w (wrdP 20)) := by
  go_enter Tryd.func21, Tryd.ntmps21
  have K0 := hid ((Kept.refl w).alloc (.cells #[.int .i64 20, .int .i64 x, .int .i64 y, .int .i64 b, .int .i64 c, .int .i64 t] 29))
  go_wp2_with fail
  refine (pbyte21 _).mono ?_
  rintro e u1 ⟨a1, c1, rfl, s1, k1⟩
  have K1 := hid (K0.out.trans k1)
  have SP0_1 := hid s1
  clear s1 k1
  go_wp2_with fail
  refine (pidle21 _).mono ?_
  rintro e u2 ⟨a2, c2, rfl, s2, k2⟩
  have K2 := hid (K1.out.trans k2)
  have SP0_2 := hid (slM_kept k2 SP0_1.out)
  have SP1_2 := hid s2
  clear s2 k2
  go_wp2_with fail
  refine (tog2 _ SP0_2.out SP1_2.out (by first | decide | exact le_two (by first | decide | exact on100 _ (by decide)) (by first | decide | exact on100 _ (by decide)))).mono ?_
  rintro e u3 ⟨a3, c3, rfl, s3, k3⟩
  have K3 := hid (K2.out.trans k3)
  have SP0_3 := hid (slM_kept k3 SP0_2.out)
  have SP1_3 := hid (slM_kept k3 SP1_2.out)
  have ST_3 := hid s3
  clear s3 k3
  go_wp2
  go_ret
  exact ⟨a3, c3, (by first | rfl | exact ret_two), ST_3.out, K3.out⟩
set_option maxRecDepth 100000 in
set_option maxHeartbeats 4000000 in
theorem pwrd_30 (x y b c t : Int) (w : World) : Calls Tryd.prog 21 #[.agg #[.int .i64 30, .int .i64 x, .int .i64 y, .int .i64 b, .int .i64 c, .int .i64 t]] w (MRet w (wrdP 30)) := by
  go_enter Tryd.func21, Tryd.ntmps21
  have K0 := hid ((Kept.refl w).alloc (.cells #[.int .i64 30, .int .i64 x, .int .i64 y, .int .i64 b, .int .i64 c, .int .i64 t] 29))
  go_wp2_with fail
  refine (pbyte21 _).mono ?_
  rintro e u1 ⟨a1, c1, rfl, s1, k1⟩
  have K1 := hid (K0.out.trans k1)
  have SP0_1 := hid s1
  clear s1 k1
  go_wp2_with fail
  refine (pidle21 _).mono ?_
  rintro e u2 ⟨a2, c2, rfl, s2, k2⟩
  have K2 := hid (K1.out.trans k2)
  have SP0_2 := hid (slM_kept k2 SP0_1.out)
  have SP1_2 := hid s2
  clear s2 k2
  go_wp2_with fail
  refine (pidle21 _).mono ?_
  rintro e u3 ⟨a3, c3, rfl, s3, k3⟩
  have K3 := hid (K2.out.trans k3)
  have SP0_3 := hid (slM_kept k3 SP0_2.out)
  have SP1_3 := hid (slM_kept k3 SP1_2.out)
  have SP2_3 := hid s3
  clear s3 k3
  go_wp2_with fail
  refine (tog3 _ SP0_3.out SP1_3.out SP2_3.out (by first | decide | exact le_two (by first | decide | exact on100 _ (by decide)) (by first | decide | exact on100 _ (by decide)))).mono ?_
  rintro e u4 ⟨a4, c4, rfl, s4, k4⟩
  have K4 := hid (K3.out.trans k4)
  have SP0_4 := hid (slM_kept k4 SP0_3.out)
  have SP1_4 := hid (slM_kept k4 SP1_3.out)
  have SP2_4 := hid (slM_kept k4 SP2_3.out)
  have ST_4 := hid s4
  clear s4 k4
  go_wp2
  go_ret
  exact ⟨a4, c4, (by first | rfl | exact ret_two), ST_4.out, K4.out⟩
set_option maxRecDepth 100000 in
set_option maxHeartbeats 4000000 in
theorem pwrd_21 (x y b c t : Int) (w : World) : Calls Tryd.prog 21 #[.agg #[.int .i64 21, .int .i64 x, .int .i64 y, .int .i64 b, .int .i64 c, .int .i64 t]] w (MRet w (wrdP 21)) := by
  go_enter Tryd.func21, Tryd.ntmps21
  have K0 := hid ((Kept.refl w).alloc (.cells #[.int .i64 21, .int .i64 x, .int .i64 y, .int .i64 b, .int .i64 c, .int .i64 t] 29))
  go_wp2_with fail
  refine (pidle21 _).mono ?_
  rintro e u1 ⟨a1, c1, rfl, s1, k1⟩
  have K1 := hid (K0.out.trans k1)
  have SP0_1 := hid s1
  clear s1 k1
  go_wp2_with fail
  refine (pwrite21 11 10 _).mono ?_
  rintro e u2 ⟨a2, c2, rfl, s2, k2⟩
  have K2 := hid (K1.out.trans k2)
  have SP0_2 := hid (slM_kept k2 SP0_1.out)
  have SP1_2 := hid s2
  clear s2 k2
  go_wp2_with fail
  refine (pwrite21 11 11 _).mono ?_
  rintro e u3 ⟨a3, c3, rfl, s3, k3⟩
  have K3 := hid (K2.out.trans k3)
  have SP0_3 := hid (slM_kept k3 SP0_2.out)
  have SP1_3 := hid (slM_kept k3 SP1_2.out)
  have SP2_3 := hid s3
  clear s3 k3
  go_wp2_with fail
  refine (tog3 _ SP0_3.out SP1_3.out SP2_3.out (by first | decide | exact le_two (by first | decide | exact on100 _ (by decide)) (by first | decide | exact on100 _ (by decide)))).mono ?_
  rintro e u4 ⟨a4, c4, rfl, s4, k4⟩
  have K4 := hid (K3.out.trans k4)
  have SP0_4 := hid (slM_kept k4 SP0_3.out)
  have SP1_4 := hid (slM_kept k4 SP1_3.out)
  have SP2_4 := hid (slM_kept k4 SP2_3.out)
  have ST_4 := hid s4
  clear s4 k4
  go_wp2
  go_ret
  exact ⟨a4, c4, (by first | rfl | exact ret_two), ST_4.out, K4.out⟩
set_option maxRecDepth 100000 in
set_option maxHeartbeats 4000000 in
theorem pwrd_22 (x y b c t : Int) (w : World) : Calls Tryd.prog 21 #[.agg #[.int .i64 22, .int .i64 x, .int .i64 y, .int .i64 b, .int .i64 c, .int .i64 t]] w (MRet w (wrdP 22)) := by
  go_enter Tryd.func21, Tryd.ntmps21
  have K0 := hid ((Kept.refl w).alloc (.cells #[.int .i64 22, .int .i64 x, .int .i64 y, .int .i64 b, .int .i64 c, .int .i64 t] 29))
  go_wp2_with fail
  refine (ppop21 _).mono ?_
  rintro e u1 ⟨a1, c1, rfl, s1, k1⟩
  have K1 := hid (K0.out.trans k1)
  have SP0_1 := hid s1
  clear s1 k1
  go_wp2
  go_ret
  exact ⟨a1, c1, (by first | rfl | exact ret_two), SP0_1.out, K1.out⟩
set_option maxRecDepth 100000 in
set_option maxHeartbeats 4000000 in
theorem pwrd_no (k x y b c t : Int) (w : World) (n17 : (k == 17) = false) (n18 : (k == 18) = false) (n19 : (k == 19) = false) (n27 : (k == 27) = false) (n28 : (k == 28) = false) (n29 : (k == 29) = false) (n20 : (k == 20) = false) (n30 : (k == 30) = false) (n21 : (k == 21) = false) (n22 : (k == 22) = false) : Calls Tryd.prog 21 #[.agg #[.int .i64 k, .int .i64 x, .int .i64 y, .int .i64 b, .int .i64 c, .int .i64 t]] w (MRet w []) := by
  go_enter Tryd.func21, Tryd.ntmps21
  go_wp2
  go_ret
  exact ⟨none, 0, rfl, slM_nil _, (Kept.refl w).alloc _⟩
theorem pwrd21 (k x y b c t : Int) (w : World) : Calls Tryd.prog 21 #[.agg #[.int .i64 k, .int .i64 x, .int .i64 y, .int .i64 b, .int .i64 c, .int .i64 t]] w (MRet w (wrdP k)) := by
  by_cases q17 : k = 17
  · subst q17; exact pwrd_17 x y b c t w
  by_cases q18 : k = 18
  · subst q18; exact pwrd_18 x y b c t w
  by_cases q19 : k = 19
  · subst q19; exact pwrd_19 x y b c t w
  by_cases q27 : k = 27
  · subst q27; exact pwrd_27 x y b c t w
  by_cases q28 : k = 28
  · subst q28; exact pwrd_28 x y b c t w
  by_cases q29 : k = 29
  · subst q29; exact pwrd_29 x y b c t w
  by_cases q20 : k = 20
  · subst q20; exact pwrd_20 x y b c t w
  by_cases q30 : k = 30
  · subst q30; exact pwrd_30 x y b c t w
  by_cases q21 : k = 21
  · subst q21; exact pwrd_21 x y b c t w
  by_cases q22 : k = 22
  · subst q22; exact pwrd_22 x y b c t w
  rw [show wrdP k = [] by simp [wrdP, q17, q18, q19, q27, q28, q29, q20, q30, q21, q22]]
  exact pwrd_no k x y b c t w (by simp [q17]) (by simp [q18]) (by simp [q19]) (by simp [q27]) (by simp [q28]) (by simp [q29]) (by simp [q20]) (by simp [q30]) (by simp [q21]) (by simp [q22])
set_option maxRecDepth 100000 in
set_option maxHeartbeats 4000000 in
theorem pjmp_36 (x y b c t : Int) (g : Bool) (w : World) : Calls Tryd.prog 22 #[.agg #[.int .i64 36, .int .i64 x, .int .i64 y, .int .i64 b, .int .i64 c, .int .i64 t], .bool g] w (MRet w (jmpP 36 x g)) := by
  go_enter Tryd.func22, Tryd.ntmps22
  have K0 := hid ((Kept.refl w).alloc (.cells #[.int .i64 36, .int .i64 x, .int .i64 y, .int .i64 b, .int .i64 c, .int .i64 t] 29))
  go_wp2_with fail
  refine (pbyte21 _).mono ?_
  rintro e u1 ⟨a1, c1, rfl, s1, k1⟩
  have K1 := hid (K0.out.trans k1)
  have SP0_1 := hid s1
  clear s1 k1
  go_wp2_with fail
  refine (pidle21 _).mono ?_
  rintro e u2 ⟨a2, c2, rfl, s2, k2⟩
  have K2 := hid (K1.out.trans k2)
  have SP0_2 := hid (slM_kept k2 SP0_1.out)
  have SQ1_2 := hid s2
  clear s2 k2
  go_wp2_with fail
  refine (ponly21 g _ SQ1_2.out).mono ?_
  rintro e u3 ⟨a3, c3, rfl, s3, k3⟩
  have K3 := hid (K2.out.trans k3)
  have SP0_3 := hid (slM_kept k3 SP0_2.out)
  have SQ1_3 := hid (slM_kept k3 SQ1_2.out)
  have SP1_3 := hid s3
  clear s3 k3
  go_wp2_with fail
  refine (tog2 _ SP0_3.out SP1_3.out (by first | decide | exact le_two (by first | decide | exact on100 _ (by decide)) (by first | decide | exact on100 _ (by decide)))).mono ?_
  rintro e u4 ⟨a4, c4, rfl, s4, k4⟩
  have K4 := hid (K3.out.trans k4)
  have SP0_4 := hid (slM_kept k4 SP0_3.out)
  have SP1_4 := hid (slM_kept k4 SP1_3.out)
  have ST_4 := hid s4
  clear s4 k4
  go_wp2
  go_ret
  exact ⟨a4, c4, (by first | rfl | exact ret_two), ST_4.out, K4.out⟩
set_option maxRecDepth 100000 in
set_option maxHeartbeats 4000000 in
theorem pjmp_37 (x y b c t : Int) (g : Bool) (w : World) : Calls Tryd.prog 22 #[.agg #[.int .i64 37, .int .i64 x, .int .i64 y, .int .i64 b, .int .i64 c, .int .i64 t], .bool g] w (MRet w (jmpP 37 x g)) := by
  go_enter Tryd.func22, Tryd.ntmps22
  have K0 := hid ((Kept.refl w).alloc (.cells #[.int .i64 37, .int .i64 x, .int .i64 y, .int .i64 b, .int .i64 c, .int .i64 t] 29))
  go_wp2_with fail
  refine (pword21 _).mono ?_
  rintro e u1 ⟨a1, c1, rfl, s1, k1⟩
  have K1 := hid (K0.out.trans k1)
  have SP0_1 := hid s1
  clear s1 k1
  go_wp2_with fail
  refine (pidle21 _).mono ?_
  rintro e u2 ⟨a2, c2, rfl, s2, k2⟩
  have K2 := hid (K1.out.trans k2)
  have SP0_2 := hid (slM_kept k2 SP0_1.out)
  have SQ1_2 := hid s2
  clear s2 k2
  go_wp2_with fail
  refine (ponly21 g _ SQ1_2.out).mono ?_
  rintro e u3 ⟨a3, c3, rfl, s3, k3⟩
  have K3 := hid (K2.out.trans k3)
  have SP0_3 := hid (slM_kept k3 SP0_2.out)
  have SQ1_3 := hid (slM_kept k3 SQ1_2.out)
  have SP1_3 := hid s3
  clear s3 k3
  go_wp2_with fail
  refine (tog2 _ SP0_3.out SP1_3.out (by first | decide | exact le_two (by first | decide | exact on100 _ (by decide)) (by first | decide | exact on100 _ (by decide)))).mono ?_
  rintro e u4 ⟨a4, c4, rfl, s4, k4⟩
  have K4 := hid (K3.out.trans k4)
  have SP0_4 := hid (slM_kept k4 SP0_3.out)
  have SP1_4 := hid (slM_kept k4 SP1_3.out)
  have ST_4 := hid s4
  clear s4 k4
  go_wp2
  go_ret
  exact ⟨a4, c4, (by first | rfl | exact ret_two), ST_4.out, K4.out⟩
set_option maxRecDepth 100000 in
set_option maxHeartbeats 4000000 in
theorem pjmp_39 (x y b c t : Int) (g : Bool) (w : World) : Calls Tryd.prog 22 #[.agg #[.int .i64 39, .int .i64 x, .int .i64 y, .int .i64 b, .int .i64 c, .int .i64 t], .bool g] w (MRet w (jmpP 39 x g)) := by
  go_enter Tryd.func22, Tryd.ntmps22
  have K0 := hid ((Kept.refl w).alloc (.cells #[.int .i64 39, .int .i64 x, .int .i64 y, .int .i64 b, .int .i64 c, .int .i64 t] 29))
  go_wp2_with fail
  refine (pword21 _).mono ?_
  rintro e u1 ⟨a1, c1, rfl, s1, k1⟩
  have K1 := hid (K0.out.trans k1)
  have SP0_1 := hid s1
  clear s1 k1
  go_wp2_with fail
  refine (pcall21 _).mono ?_
  rintro e u2 ⟨a2, c2, rfl, s2, k2⟩
  have K2 := hid (K1.out.trans k2)
  have SP0_2 := hid (slM_kept k2 SP0_1.out)
  have SQ1_2 := hid s2
  clear s2 k2
  go_wp2_with fail
  refine (ponly21 g _ SQ1_2.out).mono ?_
  rintro e u3 ⟨a3, c3, rfl, s3, k3⟩
  have K3 := hid (K2.out.trans k3)
  have SP0_3 := hid (slM_kept k3 SP0_2.out)
  have SQ1_3 := hid (slM_kept k3 SQ1_2.out)
  have SP1_3 := hid s3
  clear s3 k3
  go_wp2_with fail
  refine (tog2 _ SP0_3.out SP1_3.out (by first | decide | exact le_two (by first | decide | exact on100 _ (by decide)) (by first | decide | exact on100 _ (by decide)))).mono ?_
  rintro e u4 ⟨a4, c4, rfl, s4, k4⟩
  have K4 := hid (K3.out.trans k4)
  have SP0_4 := hid (slM_kept k4 SP0_3.out)
  have SP1_4 := hid (slM_kept k4 SP1_3.out)
  have ST_4 := hid s4
  clear s4 k4
  go_wp2
  go_ret
  exact ⟨a4, c4, (by first | rfl | exact ret_two), ST_4.out, K4.out⟩
set_option maxRecDepth 100000 in
set_option maxHeartbeats 4000000 in
theorem pjmp_41 (x y b c t : Int) (g : Bool) (w : World) : Calls Tryd.prog 22 #[.agg #[.int .i64 41, .int .i64 x, .int .i64 y, .int .i64 b, .int .i64 c, .int .i64 t], .bool g] w (MRet w (jmpP 41 x g)) := by
  go_enter Tryd.func22, Tryd.ntmps22
  have K0 := hid ((Kept.refl w).alloc (.cells #[.int .i64 41, .int .i64 x, .int .i64 y, .int .i64 b, .int .i64 c, .int .i64 t] 29))
  go_wp2_with fail
  refine (pback21 _).mono ?_
  rintro e u1 ⟨a1, c1, rfl, s1, k1⟩
  have K1 := hid (K0.out.trans k1)
  have SP0_1 := hid s1
  clear s1 k1
  go_wp2
  go_ret
  exact ⟨a1, c1, (by first | rfl | exact ret_two), SP0_1.out, K1.out⟩
set_option maxRecDepth 100000 in
set_option maxHeartbeats 4000000 in
theorem pjmp_42 (x y b c t : Int) (g : Bool) (w : World) : Calls Tryd.prog 22 #[.agg #[.int .i64 42, .int .i64 x, .int .i64 y, .int .i64 b, .int .i64 c, .int .i64 t], .bool g] w (MRet w (jmpP 42 x g)) := by
  go_enter Tryd.func22, Tryd.ntmps22
  have K0 := hid ((Kept.refl w).alloc (.cells #[.int .i64 42, .int .i64 x, .int .i64 y, .int .i64 b, .int .i64 c, .int .i64 t] 29))
  go_wp2_with fail
  refine (pcall21 _).mono ?_
  rintro e u1 ⟨a1, c1, rfl, s1, k1⟩
  have K1 := hid (K0.out.trans k1)
  have SP0_1 := hid s1
  clear s1 k1
  go_wp2
  go_ret
  exact ⟨a1, c1, (by first | rfl | exact ret_two), SP0_1.out, K1.out⟩
set_option maxRecDepth 100000 in
set_option maxHeartbeats 4000000 in
theorem pjmp_40 (x y b c t : Int) (g : Bool) (w : World) : Calls Tryd.prog 22 #[.agg #[.int .i64 40, .int .i64 x, .int .i64 y, .int .i64 b, .int .i64 c, .int .i64 t], .bool g] w (MRet w (jmpP 40 x g)) := by
  generalize hL : jmpP 40 x g = L
  have HL := hid (show L = onM (cndP 40 x) idlM ++ onM g backM from hL.symm)
  clear hL
  go_enter Tryd.func22, Tryd.ntmps22
  have K0 := hid ((Kept.refl w).alloc (.cells #[.int .i64 40, .int .i64 x, .int .i64 y, .int .i64 b, .int .i64 c, .int .i64 t] 29))
  go_wp2_with fail
  refine (pcond_40 x y b c t _).mono ?_
  rintro e v1 ⟨rfl, q1⟩
  have KA := hid (K0.out.trans q1)
  clear q1
  have K0 := KA
  go_wp2_with fail
  refine (pidle21 _).mono ?_
  rintro e u1 ⟨a1, c1, rfl, s1, k1⟩
  have K1 := hid (K0.out.trans k1)
  have SQ0_1 := hid s1
  clear s1 k1
  go_wp2_with fail
  refine (ponly21 (cndP 40 x) _ SQ0_1.out).mono ?_
  rintro e u2 ⟨a2, c2, rfl, s2, k2⟩
  have K2 := hid (K1.out.trans k2)
  have SQ0_2 := hid (slM_kept k2 SQ0_1.out)
  have SP0_2 := hid s2
  clear s2 k2
  go_wp2_with fail
  refine (pback21 _).mono ?_
  rintro e u3 ⟨a3, c3, rfl, s3, k3⟩
  have K3 := hid (K2.out.trans k3)
  have SP0_3 := hid (slM_kept k3 SP0_2.out)
  have SQ1_3 := hid s3
  clear s3 k3
  go_wp2_with fail
  refine (ponly21 g _ SQ1_3.out).mono ?_
  rintro e u4 ⟨a4, c4, rfl, s4, k4⟩
  have K4 := hid (K3.out.trans k4)
  have SP0_4 := hid (slM_kept k4 SP0_3.out)
  have SQ1_4 := hid (slM_kept k4 SQ1_3.out)
  have SP1_4 := hid s4
  clear s4 k4
  go_wp2_with fail
  refine (tog2 _ SP0_4.out SP1_4.out (by first | decide | exact le_two (by first | decide | exact on100 _ (by decide)) (by first | decide | exact on100 _ (by decide)))).mono ?_
  rintro e u5 ⟨a5, c5, rfl, s5, k5⟩
  have K5 := hid (K4.out.trans k5)
  have SP0_5 := hid (slM_kept k5 SP0_4.out)
  have SP1_5 := hid (slM_kept k5 SP1_4.out)
  have ST_5 := hid s5
  clear s5 k5
  go_wp2
  go_ret
  rw [HL.out]; exact ⟨a5, c5, (by first | rfl | exact ret_two), ST_5.out, K5.out⟩
set_option maxRecDepth 100000 in
set_option maxHeartbeats 4000000 in
theorem pjmp_no (k x y b c t : Int) (g : Bool) (w : World) (n36 : (k == 36) = false) (n37 : (k == 37) = false) (n39 : (k == 39) = false) (n40 : (k == 40) = false) (n41 : (k == 41) = false) (n42 : (k == 42) = false) : Calls Tryd.prog 22 #[.agg #[.int .i64 k, .int .i64 x, .int .i64 y, .int .i64 b, .int .i64 c, .int .i64 t], .bool g] w (MRet w []) := by
  go_enter Tryd.func22, Tryd.ntmps22
  go_wp2
  go_ret
  exact ⟨none, 0, rfl, slM_nil _, (Kept.refl w).alloc _⟩
theorem pjmp21 (k x y b c t : Int) (g : Bool) (w : World) : Calls Tryd.prog 22 #[.agg #[.int .i64 k, .int .i64 x, .int .i64 y, .int .i64 b, .int .i64 c, .int .i64 t], .bool g] w (MRet w (jmpP k x g)) := by
  by_cases q36 : k = 36
  · subst q36; exact pjmp_36 x y b c t g w
  by_cases q37 : k = 37
  · subst q37; exact pjmp_37 x y b c t g w
  by_cases q39 : k = 39
  · subst q39; exact pjmp_39 x y b c t g w
  by_cases q40 : k = 40
  · subst q40; exact pjmp_40 x y b c t g w
  by_cases q41 : k = 41
  · subst q41; exact pjmp_41 x y b c t g w
  by_cases q42 : k = 42
  · subst q42; exact pjmp_42 x y b c t g w
  rw [show jmpP k x g = [] by simp [jmpP, q36, q37, q39, q40, q41, q42]]
  exact pjmp_no k x y b c t g w (by simp [q36]) (by simp [q37]) (by simp [q39]) (by simp [q40]) (by simp [q41]) (by simp [q42])
end Go.Proofs.YtbflhpffojlpgaaDoor
