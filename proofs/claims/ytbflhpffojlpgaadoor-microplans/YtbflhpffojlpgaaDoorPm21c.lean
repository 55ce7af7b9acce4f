/- The program's bytes, over this seat's translation. -/
import Derived.Test.YtbflhpffojlpgaaDoorPm21b
namespace Go.Proofs.YtbflhpffojlpgaaDoor
open Go.RowKit
set_option linter.unusedVariables false
set_option linter.unusedSimpArgs false

set_option maxRecDepth 100000 in
set_option maxHeartbeats 4000000 in
theorem pbyt_1 (x y b c t : Int) (w : World) : Calls Tryd.prog 20 #[.agg #[.int .i64 1, .int .i64 x, .int .i64 y, .int .i64 b, .int .i64 c, .int .i64 t]] w (MRet w (bytP 1 x y)) := by
  go_enter Tryd.func20, Tryd.ntmps20
  have K0 := hid ((Kept.refl w).alloc (.cells #[.int .i64 1, .int .i64 x, .int .i64 y, .int .i64 b, .int .i64 c, .int .i64 t] 29))
  go_wp2_with fail
  refine (pbyte21 _).mono ?_
  rintro e u1 ⟨a1, c1, rfl, s1, k1⟩
  have K1 := hid (K0.out.trans k1)
  have SP0_1 := hid s1
  clear s1 k1
  go_wp2
  go_ret
  exact ⟨a1, c1, (by first | rfl | exact ret_two), SP0_1.out, K1.out⟩
set_option maxRecDepth 100000 in
set_option maxHeartbeats 4000000 in
theorem pbyt_24 (x y b c t : Int) (w : World) : Calls Tryd.prog 20 #[.agg #[.int .i64 24, .int .i64 x, .int .i64 y, .int .i64 b, .int .i64 c, .int .i64 t]] w (MRet w (bytP 24 x y)) := by
  go_enter Tryd.func20, Tryd.ntmps20
  have K0 := hid ((Kept.refl w).alloc (.cells #[.int .i64 24, .int .i64 x, .int .i64 y, .int .i64 b, .int .i64 c, .int .i64 t] 29))
  go_wp2_with fail
  refine (pbyte21 _).mono ?_
  rintro e u1 ⟨a1, c1, rfl, s1, k1⟩
  have K1 := hid (K0.out.trans k1)
  have SP0_1 := hid s1
  clear s1 k1
  go_wp2
  go_ret
  exact ⟨a1, c1, (by first | rfl | exact ret_two), SP0_1.out, K1.out⟩
set_option maxRecDepth 100000 in
set_option maxHeartbeats 4000000 in
theorem pbyt_7 (x y b c t : Int) (w : World) : Calls Tryd.prog 20 #[.agg #[.int .i64 7, .int .i64 x, .int .i64 y, .int .i64 b, .int .i64 c, .int .i64 t]] w (MRet w (bytP 7 x y)) := by
  go_enter Tryd.func20, Tryd.ntmps20
  have K0 := hid ((Kept.refl w).alloc (.cells #[.int .i64 7, .int .i64 x, .int .i64 y, .int .i64 b, .int .i64 c, .int .i64 t] 29))
  have H0 := hid (has_alloc w #[.int .i64 7, .int .i64 x, .int .i64 y, .int .i64 b, .int .i64 c, .int .i64 t] 29)
  go_wp2
  go_region_held3 (fun w' => w'.cell? ⟨w.heap.size, 1, none⟩ = some (.int .i64 x) ∧ w'.cell? ⟨w.heap.size, 2, none⟩ = some (.int .i64 y)) (go_keep) (first | (go_at_call 33; refine (pread21 2 1 _).mono ?_; rintro e u1 ⟨a1, c1, rfl, s1, k1⟩; have K1 := hid (K0.out.drew.trans k1); have H1 := hasK k1 H0.out; obtain ⟨z1, d1⟩ := id H1; have SQ_1 := hid s1; clear s1 k1) | (go_at_call_of 37 (Value.slice a1 ((rdM 2 1)).length c1); refine (ponly21 _ _ SQ_1.out).mono ?_; rintro e u2 ⟨a2, c2, rfl, s2, k2⟩; have K2 := hid (K1.out.trans k2); have H2 := hasK k2 H1; obtain ⟨z2, d2⟩ := id H2; have SQ_2 := hid (slM_kept k2 SQ_1.out); have SP_2 := hid s2; clear s2 k2) | (go_at_call 34; refine (pwrite21 2 4 _).mono ?_; rintro e u3 ⟨a3, c3, rfl, s3, k3⟩; have K3 := hid (K2.out.trans k3); have H3 := hasK k3 H2; obtain ⟨z3, d3⟩ := id H3; have SQ_3 := hid (slM_kept k3 SQ_2.out); have SP_3 := hid (slM_kept k3 SP_2.out); have SR_3 := hid s3; clear s3 k3) | (go_at_call_of 37 (Value.slice a3 ((wrM 2 4)).length c3); refine (ponly21 _ _ SR_3.out).mono ?_; rintro e u4 ⟨a4, c4, rfl, s4, k4⟩; have K4 := hid (K3.out.trans k4); have H4 := hasK k4 H3; obtain ⟨z4, d4⟩ := id H4; have SQ_4 := hid (slM_kept k4 SQ_3.out); have SP_4 := hid (slM_kept k4 SP_3.out); have SR_4 := hid (slM_kept k4 SR_3.out); have SO_4 := hid s4; clear s4 k4) | (go_at_call 18; refine (tog2 _ SP_4.out SO_4.out (le_two (by first | decide | exact on100 _ (by decide)) (by first | decide | exact on100 _ (by decide)))).mono ?_; rintro e u5 ⟨a5, c5, rfl, s5, k5⟩; have K5 := hid (K4.out.trans k5); have H5 := hasK k5 H4; obtain ⟨z5, d5⟩ := id H5; have SQ_5 := hid (slM_kept k5 SQ_4.out); have SP_5 := hid (slM_kept k5 SP_4.out); have SR_5 := hid (slM_kept k5 SR_4.out); have SO_5 := hid (slM_kept k5 SO_4.out); have ST_5 := hid s5; clear s5 k5))
  all_goals
    go_wp2
    go_ret
    exact ⟨a5, c5, (by first | rfl | exact ret_two), ST_5.out, K5.out⟩
set_option maxRecDepth 100000 in
set_option maxHeartbeats 4000000 in
theorem pbyt_8 (x y b c t : Int) (w : World) : Calls Tryd.prog 20 #[.agg #[.int .i64 8, .int .i64 x, .int .i64 y, .int .i64 b, .int .i64 c, .int .i64 t]] w (MRet w (bytP 8 x y)) := by
  go_enter Tryd.func20, Tryd.ntmps20
  have K0 := hid ((Kept.refl w).alloc (.cells #[.int .i64 8, .int .i64 x, .int .i64 y, .int .i64 b, .int .i64 c, .int .i64 t] 29))
  have H0 := hid (has_alloc w #[.int .i64 8, .int .i64 x, .int .i64 y, .int .i64 b, .int .i64 c, .int .i64 t] 29)
  go_wp2
  go_region_held3 (fun w' => w'.cell? ⟨w.heap.size, 1, none⟩ = some (.int .i64 x) ∧ w'.cell? ⟨w.heap.size, 2, none⟩ = some (.int .i64 y)) (go_keep) (first | (go_at_call 35; refine (pbyte21 _).mono ?_; rintro e u1 ⟨a1, c1, rfl, s1, k1⟩; have K1 := hid (K0.out.drew.trans k1); have H1 := hasK k1 H0.out; obtain ⟨z1, d1⟩ := id H1; have SP_1 := hid s1; clear s1 k1) | (go_at_call 34; refine (pwrite21 2 1 _).mono ?_; rintro e u2 ⟨a2, c2, rfl, s2, k2⟩; have K2 := hid (K1.out.trans k2); have H2 := hasK k2 H1; obtain ⟨z2, d2⟩ := id H2; have SP_2 := hid (slM_kept k2 SP_1.out); have SR_2 := hid s2; clear s2 k2) | (go_at_call_of 37 (Value.slice a2 ((wrM 2 1)).length c2); refine (ponly21 _ _ SR_2.out).mono ?_; rintro e u3 ⟨a3, c3, rfl, s3, k3⟩; have K3 := hid (K2.out.trans k3); have H3 := hasK k3 H2; obtain ⟨z3, d3⟩ := id H3; have SP_3 := hid (slM_kept k3 SP_2.out); have SR_3 := hid (slM_kept k3 SR_2.out); have SO_3 := hid s3; clear s3 k3) | (go_at_call 18; refine (tog2 _ SP_3.out SO_3.out (le_two (by first | decide | exact on100 _ (by decide)) (by first | decide | exact on100 _ (by decide)))).mono ?_; rintro e u4 ⟨a4, c4, rfl, s4, k4⟩; have K4 := hid (K3.out.trans k4); have H4 := hasK k4 H3; obtain ⟨z4, d4⟩ := id H4; have SP_4 := hid (slM_kept k4 SP_3.out); have SR_4 := hid (slM_kept k4 SR_3.out); have SO_4 := hid (slM_kept k4 SO_3.out); have ST_4 := hid s4; clear s4 k4))
  all_goals
    go_wp2
    go_ret
    exact ⟨a4, c4, (by first | rfl | exact ret_two), ST_4.out, K4.out⟩
set_option maxRecDepth 100000 in
set_option maxHeartbeats 4000000 in
theorem pbyt_23 (x y b c t : Int) (w : World) : Calls Tryd.prog 20 #[.agg #[.int .i64 23, .int .i64 x, .int .i64 y, .int .i64 b, .int .i64 c, .int .i64 t]] w (MRet w (bytP 23 x y)) := by
  go_enter Tryd.func20, Tryd.ntmps20
  have K0 := hid ((Kept.refl w).alloc (.cells #[.int .i64 23, .int .i64 x, .int .i64 y, .int .i64 b, .int .i64 c, .int .i64 t] 29))
  have H0 := hid (has_alloc w #[.int .i64 23, .int .i64 x, .int .i64 y, .int .i64 b, .int .i64 c, .int .i64 t] 29)
  go_wp2
  go_region_held3 (fun w' => w'.cell? ⟨w.heap.size, 1, none⟩ = some (.int .i64 x) ∧ w'.cell? ⟨w.heap.size, 2, none⟩ = some (.int .i64 y)) (go_keep) (first | (go_at_call 33; refine (pread21 2 1 _).mono ?_; rintro e u1 ⟨a1, c1, rfl, s1, k1⟩; have K1 := hid (K0.out.drew.trans k1); have H1 := hasK k1 H0.out; obtain ⟨z1, d1⟩ := id H1; have SQ_1 := hid s1; clear s1 k1) | (go_at_call_of 37 (Value.slice a1 ((rdM 2 1)).length c1); refine (ponly21 _ _ SQ_1.out).mono ?_; rintro e u2 ⟨a2, c2, rfl, s2, k2⟩; have K2 := hid (K1.out.trans k2); have H2 := hasK k2 H1; obtain ⟨z2, d2⟩ := id H2; have SQ_2 := hid (slM_kept k2 SQ_1.out); have SP_2 := hid s2; clear s2 k2))
  all_goals
    go_wp2
    go_ret
    exact ⟨a2, c2, rfl, SP_2.out, K2.out⟩
set_option maxRecDepth 100000 in
set_option maxHeartbeats 4000000 in
theorem pbyt_44 (x y b c t : Int) (w : World) : Calls Tryd.prog 20 #[.agg #[.int .i64 44, .int .i64 x, .int .i64 y, .int .i64 b, .int .i64 c, .int .i64 t]] w (MRet w (bytP 44 x y)) := by
  go_enter Tryd.func20, Tryd.ntmps20
  have K0 := hid ((Kept.refl w).alloc (.cells #[.int .i64 44, .int .i64 x, .int .i64 y, .int .i64 b, .int .i64 c, .int .i64 t] 29))
  have H0 := hid (has_alloc w #[.int .i64 44, .int .i64 x, .int .i64 y, .int .i64 b, .int .i64 c, .int .i64 t] 29)
  go_wp2
  go_region_held3 (fun w' => w'.cell? ⟨w.heap.size, 1, none⟩ = some (.int .i64 x) ∧ w'.cell? ⟨w.heap.size, 2, none⟩ = some (.int .i64 y)) (go_keep) (first | (go_at_call 33; refine (pread21 2 1 _).mono ?_; rintro e u1 ⟨a1, c1, rfl, s1, k1⟩; have K1 := hid (K0.out.drew.trans k1); have H1 := hasK k1 H0.out; obtain ⟨z1, d1⟩ := id H1; have SQ_1 := hid s1; clear s1 k1) | (go_at_call_of 37 (Value.slice a1 ((rdM 2 1)).length c1); refine (ponly21 _ _ SQ_1.out).mono ?_; rintro e u2 ⟨a2, c2, rfl, s2, k2⟩; have K2 := hid (K1.out.trans k2); have H2 := hasK k2 H1; obtain ⟨z2, d2⟩ := id H2; have SQ_2 := hid (slM_kept k2 SQ_1.out); have SP_2 := hid s2; clear s2 k2))
  all_goals
    go_wp2
    go_ret
    exact ⟨a2, c2, rfl, SP_2.out, K2.out⟩
set_option maxRecDepth 100000 in
set_option maxHeartbeats 4000000 in
theorem pbyt_25 (x y b c t : Int) (w : World) : Calls Tryd.prog 20 #[.agg #[.int .i64 25, .int .i64 x, .int .i64 y, .int .i64 b, .int .i64 c, .int .i64 t]] w (MRet w (bytP 25 x y)) := by
  go_enter Tryd.func20, Tryd.ntmps20
  have K0 := hid ((Kept.refl w).alloc (.cells #[.int .i64 25, .int .i64 x, .int .i64 y, .int .i64 b, .int .i64 c, .int .i64 t] 29))
  have H0 := hid (has_alloc w #[.int .i64 25, .int .i64 x, .int .i64 y, .int .i64 b, .int .i64 c, .int .i64 t] 29)
  go_wp2
  go_region_held3 (fun w' => w'.cell? ⟨w.heap.size, 1, none⟩ = some (.int .i64 x) ∧ w'.cell? ⟨w.heap.size, 2, none⟩ = some (.int .i64 y)) (go_keep) (first | (go_at_call 38; refine (pchange21 _).mono ?_; rintro e u1 ⟨a1, c1, rfl, s1, k1⟩; have K1 := hid (K0.out.drew.trans k1); have H1 := hasK k1 H0.out; obtain ⟨z1, d1⟩ := id H1; have SQ_1 := hid s1; clear s1 k1) | (go_at_call_of 37 (Value.slice a1 (chgM).length c1); refine (ponly21 _ _ SQ_1.out).mono ?_; rintro e u2 ⟨a2, c2, rfl, s2, k2⟩; have K2 := hid (K1.out.trans k2); have H2 := hasK k2 H1; obtain ⟨z2, d2⟩ := id H2; have SQ_2 := hid (slM_kept k2 SQ_1.out); have SP_2 := hid s2; clear s2 k2))
  all_goals
    go_wp2
    go_ret
    exact ⟨a2, c2, rfl, SP_2.out, K2.out⟩
set_option maxRecDepth 100000 in
set_option maxHeartbeats 4000000 in
theorem pbyt_26 (x y b c t : Int) (w : World) : Calls Tryd.prog 20 #[.agg #[.int .i64 26, .int .i64 x, .int .i64 y, .int .i64 b, .int .i64 c, .int .i64 t]] w (MRet w (bytP 26 x y)) := by
  go_enter Tryd.func20, Tryd.ntmps20
  have K0 := hid ((Kept.refl w).alloc (.cells #[.int .i64 26, .int .i64 x, .int .i64 y, .int .i64 b, .int .i64 c, .int .i64 t] 29))
  have H0 := hid (has_alloc w #[.int .i64 26, .int .i64 x, .int .i64 y, .int .i64 b, .int .i64 c, .int .i64 t] 29)
  go_wp2
  go_region_held3 (fun w' => w'.cell? ⟨w.heap.size, 1, none⟩ = some (.int .i64 x) ∧ w'.cell? ⟨w.heap.size, 2, none⟩ = some (.int .i64 y)) (go_keep) (first | (go_at_call 38; refine (pchange21 _).mono ?_; rintro e u1 ⟨a1, c1, rfl, s1, k1⟩; have K1 := hid (K0.out.drew.trans k1); have H1 := hasK k1 H0.out; obtain ⟨z1, d1⟩ := id H1; have SQ_1 := hid s1; clear s1 k1) | (go_at_call_of 37 (Value.slice a1 (chgM).length c1); refine (ponly21 _ _ SQ_1.out).mono ?_; rintro e u2 ⟨a2, c2, rfl, s2, k2⟩; have K2 := hid (K1.out.trans k2); have H2 := hasK k2 H1; obtain ⟨z2, d2⟩ := id H2; have SQ_2 := hid (slM_kept k2 SQ_1.out); have SP_2 := hid s2; clear s2 k2))
  all_goals
    go_wp2
    go_ret
    exact ⟨a2, c2, rfl, SP_2.out, K2.out⟩
set_option maxRecDepth 100000 in
set_option maxHeartbeats 4000000 in
theorem pbyt_43 (x y b c t : Int) (w : World) : Calls Tryd.prog 20 #[.agg #[.int .i64 43, .int .i64 x, .int .i64 y, .int .i64 b, .int .i64 c, .int .i64 t]] w (MRet w (bytP 43 x y)) := by
  go_enter Tryd.func20, Tryd.ntmps20
  have K0 := hid ((Kept.refl w).alloc (.cells #[.int .i64 43, .int .i64 x, .int .i64 y, .int .i64 b, .int .i64 c, .int .i64 t] 29))
  have H0 := hid (has_alloc w #[.int .i64 43, .int .i64 x, .int .i64 y, .int .i64 b, .int .i64 c, .int .i64 t] 29)
  go_wp2
  go_region_held3 (fun w' => w'.cell? ⟨w.heap.size, 1, none⟩ = some (.int .i64 x) ∧ w'.cell? ⟨w.heap.size, 2, none⟩ = some (.int .i64 y)) (go_keep) (first | (go_at_call 38; refine (pchange21 _).mono ?_; rintro e u1 ⟨a1, c1, rfl, s1, k1⟩; have K1 := hid (K0.out.drew.trans k1); have H1 := hasK k1 H0.out; obtain ⟨z1, d1⟩ := id H1; have SQ_1 := hid s1; clear s1 k1) | (go_at_call_of 37 (Value.slice a1 (chgM).length c1); refine (ponly21 _ _ SQ_1.out).mono ?_; rintro e u2 ⟨a2, c2, rfl, s2, k2⟩; have K2 := hid (K1.out.trans k2); have H2 := hasK k2 H1; obtain ⟨z2, d2⟩ := id H2; have SQ_2 := hid (slM_kept k2 SQ_1.out); have SP_2 := hid s2; clear s2 k2))
  all_goals
    go_wp2
    go_ret
    exact ⟨a2, c2, rfl, SP_2.out, K2.out⟩
set_option maxRecDepth 100000 in
set_option maxHeartbeats 4000000 in
theorem pbyt_45 (x y b c t : Int) (w : World) : Calls Tryd.prog 20 #[.agg #[.int .i64 45, .int .i64 x, .int .i64 y, .int .i64 b, .int .i64 c, .int .i64 t]] w (MRet w (bytP 45 x y)) := by
  go_enter Tryd.func20, Tryd.ntmps20
  have K0 := hid ((Kept.refl w).alloc (.cells #[.int .i64 45, .int .i64 x, .int .i64 y, .int .i64 b, .int .i64 c, .int .i64 t] 29))
  have H0 := hid (has_alloc w #[.int .i64 45, .int .i64 x, .int .i64 y, .int .i64 b, .int .i64 c, .int .i64 t] 29)
  go_wp2
  go_region_held3 (fun w' => w'.cell? ⟨w.heap.size, 1, none⟩ = some (.int .i64 x) ∧ w'.cell? ⟨w.heap.size, 2, none⟩ = some (.int .i64 y)) (go_keep) (first | (go_at_call 38; refine (pchange21 _).mono ?_; rintro e u1 ⟨a1, c1, rfl, s1, k1⟩; have K1 := hid (K0.out.drew.trans k1); have H1 := hasK k1 H0.out; obtain ⟨z1, d1⟩ := id H1; have SQ_1 := hid s1; clear s1 k1) | (go_at_call_of 37 (Value.slice a1 (chgM).length c1); refine (ponly21 _ _ SQ_1.out).mono ?_; rintro e u2 ⟨a2, c2, rfl, s2, k2⟩; have K2 := hid (K1.out.trans k2); have H2 := hasK k2 H1; obtain ⟨z2, d2⟩ := id H2; have SQ_2 := hid (slM_kept k2 SQ_1.out); have SP_2 := hid s2; clear s2 k2))
  all_goals
    go_wp2
    go_ret
    exact ⟨a2, c2, rfl, SP_2.out, K2.out⟩
set_option maxRecDepth 100000 in
set_option maxHeartbeats 4000000 in
theorem pbyt_46 (x y b c t : Int) (w : World) : Calls Tryd.prog 20 #[.agg #[.int .i64 46, .int .i64 x, .int .i64 y, .int .i64 b, .int .i64 c, .int .i64 t]] w (MRet w (bytP 46 x y)) := by
  go_enter Tryd.func20, Tryd.ntmps20
  have K0 := hid ((Kept.refl w).alloc (.cells #[.int .i64 46, .int .i64 x, .int .i64 y, .int .i64 b, .int .i64 c, .int .i64 t] 29))
  have H0 := hid (has_alloc w #[.int .i64 46, .int .i64 x, .int .i64 y, .int .i64 b, .int .i64 c, .int .i64 t] 29)
  go_wp2
  go_region_held3 (fun w' => w'.cell? ⟨w.heap.size, 1, none⟩ = some (.int .i64 x) ∧ w'.cell? ⟨w.heap.size, 2, none⟩ = some (.int .i64 y)) (go_keep) (first | (go_at_call 38; refine (pchange21 _).mono ?_; rintro e u1 ⟨a1, c1, rfl, s1, k1⟩; have K1 := hid (K0.out.drew.trans k1); have H1 := hasK k1 H0.out; obtain ⟨z1, d1⟩ := id H1; have SQ_1 := hid s1; clear s1 k1) | (go_at_call_of 37 (Value.slice a1 (chgM).length c1); refine (ponly21 _ _ SQ_1.out).mono ?_; rintro e u2 ⟨a2, c2, rfl, s2, k2⟩; have K2 := hid (K1.out.trans k2); have H2 := hasK k2 H1; obtain ⟨z2, d2⟩ := id H2; have SQ_2 := hid (slM_kept k2 SQ_1.out); have SP_2 := hid s2; clear s2 k2))
  all_goals
    go_wp2
    go_ret
    exact ⟨a2, c2, rfl, SP_2.out, K2.out⟩
set_option maxRecDepth 100000 in
set_option maxHeartbeats 4000000 in
theorem pbyt_no (k x y b c t : Int) (w : World) (n1 : (k == 1) = false) (n24 : (k == 24) = false) (n7 : (k == 7) = false) (n8 : (k == 8) = false) (n23 : (k == 23) = false) (n44 : (k == 44) = false) (n25 : (k == 25) = false) (n26 : (k == 26) = false) (n43 : (k == 43) = false) (n45 : (k == 45) = false) (n46 : (k == 46) = false) : Calls Tryd.prog 20 #[.agg #[.int .i64 k, .int .i64 x, .int .i64 y, .int .i64 b, .int .i64 c, .int .i64 t]] w (MRet w []) := by
  go_enter Tryd.func20, Tryd.ntmps20
  go_wp2
  go_ret
  exact ⟨none, 0, rfl, slM_nil _, (Kept.refl w).alloc _⟩
theorem pbyt21 (k x y b c t : Int) (w : World) : Calls Tryd.prog 20 #[.agg #[.int .i64 k, .int .i64 x, .int .i64 y, .int .i64 b, .int .i64 c, .int .i64 t]] w (MRet w (bytP k x y)) := by
  by_cases q1 : k = 1
  · subst q1; exact pbyt_1 x y b c t w
  by_cases q24 : k = 24
  · subst q24; exact pbyt_24 x y b c t w
  by_cases q7 : k = 7
  · subst q7; exact pbyt_7 x y b c t w
  by_cases q8 : k = 8
  · subst q8; exact pbyt_8 x y b c t w
  by_cases q23 : k = 23
  · subst q23; exact pbyt_23 x y b c t w
  by_cases q44 : k = 44
  · subst q44; exact pbyt_44 x y b c t w
  by_cases q25 : k = 25
  · subst q25; exact pbyt_25 x y b c t w
  by_cases q26 : k = 26
  · subst q26; exact pbyt_26 x y b c t w
  by_cases q43 : k = 43
  · subst q43; exact pbyt_43 x y b c t w
  by_cases q45 : k = 45
  · subst q45; exact pbyt_45 x y b c t w
  by_cases q46 : k = 46
  · subst q46; exact pbyt_46 x y b c t w
  rw [show bytP k x y = [] by simp [bytP, q1, q24, q7, q8, q23, q44, q25, q26, q43, q45, q46]]
  exact pbyt_no k x y b c t w (by simp [q1]) (by simp [q24]) (by simp [q7]) (by simp [q8]) (by simp [q23]) (by simp [q44]) (by simp [q25]) (by simp [q26]) (by simp [q43]) (by simp [q45]) (by simp [q46])
end Go.Proofs.YtbflhpffojlpgaaDoor
