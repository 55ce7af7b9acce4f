/- Layer 21's laws of plans, conditions, times. -/
import Derived.Test.YtbflhpffojlpgaaDoorSw21
namespace Go.Proofs.YtbflhpffojlpgaaDoor
open Go.RowKit
set_option linter.unusedVariables false
set_option linter.unusedSimpArgs false

theorem wrapEq21 (x : Int) : IntKind.i64.wrap x = wrap64 x := by rw [IntKind.wrap_i64]; unfold wrap64; omega
set_option maxRecDepth 100000 in
set_option maxHeartbeats 4000000 in
theorem plans21 (op : Int) (cb tk : Bool) (w : World) (lay : Lay21 w) (h0 : 0 ≤ op) (h1 : op ≤ 255) : Calls Tryd.prog 3 #[.int .u8 op, .bool cb, .bool tk] w fun e w' => e = .returned (.bool true) ∧ Kept w w' := by
  have S := hid (fun u (k : Kept w u) => kshown21 u (lay21_kept lay k))
  have A := hid (fun u (k : Kept w u) => pplan21 op cb tk u (lay21_kept lay k) h0 h1)
  have B := hid (fun u => rplan21 op cb tk u h0 h1)
  rw [plan_same op cb tk h0 h1] at B
  have HL := hid (plan_in op cb tk h0 h1).1
  generalize planP (fmOf op cb) tk = L at *
  clear lay
  go_enter Tryd.func3, Tryd.ntmps3
  go_wp2_with fail
  refine (S.out _ (Kept.refl w)).mono ?_
  rintro e u1 ⟨rfl, k1⟩
  have K1 := hid k1
  clear k1
  go_wp2_with fail
  refine (A.out _ K1.out).mono ?_
  rintro e u2 ⟨a2, c2, rfl, s2, k2⟩
  have K2 := hid (K1.out.trans k2)
  have S2 := hid s2
  clear s2 k2
  go_wp2_with fail
  refine (B.out _).mono ?_
  rintro e u3 ⟨a3, c3, rfl, s3, k3⟩
  have K3 := hid (K2.out.trans k3)
  have S3 := hid (slM_kept k3 S2.out)
  have T3 := hid s3
  clear s3 k3
  go_wp2_with fail
  refine (rsame21 _ _ _ _ L _ S3.out T3.out (Nat.le_trans HL.out (by decide))).mono ?_
  rintro e u4 ⟨rfl, k4⟩
  have K4 := hid (K3.out.trans k4)
  clear k4
  go_wp2
  go_ret
  exact ⟨rfl, K4.out⟩
set_option maxRecDepth 100000 in
set_option maxHeartbeats 4000000 in
theorem asks21 (op : Int) (cb : Bool) (w : World) (lay : Lay21 w) (h0 : 0 ≤ op) (h1 : op ≤ 255) : Calls Tryd.prog 4 #[.int .u8 op, .bool cb] w fun e w' => e = .returned (.bool true) ∧ Kept w w' := by
  have S := hid (fun u (k : Kept w u) => kshown21 u (lay21_kept lay k))
  have A := hid (fun u (k : Kept w u) => pasks21 op cb u (lay21_kept lay k) h0 h1)
  have B := hid (fun u => rasks21 op cb u h0 h1)
  rw [ask_same op cb h0 h1] at B
  generalize cndP (fmOf op cb).kind (fmOf op cb).x = q at *
  clear lay
  have e0 : (q == q) = true := by cases q <;> rfl
  go_enter Tryd.func4, Tryd.ntmps4
  go_wp2_with fail
  refine (S.out _ (Kept.refl w)).mono ?_
  rintro e u1 ⟨rfl, k1⟩
  have K1 := hid k1
  clear k1
  go_wp2_with fail
  refine (A.out _ K1.out).mono ?_
  rintro e u2 ⟨rfl, k2⟩
  have K2 := hid (K1.out.trans k2)
  clear k2
  go_wp2_with fail
  refine (B.out _).mono ?_
  rintro e u3 ⟨rfl, k3⟩
  have K3 := hid (K2.out.trans k3)
  clear k3
  go_wp2
  go_ret
  exact ⟨rfl, K3.out⟩
set_option maxRecDepth 100000 in
set_option maxHeartbeats 4000000 in
theorem times21 (op : Int) (cb : Bool) (w : World) (lay : Lay21 w) (h0 : 0 ≤ op) (h1 : op ≤ 255) : Calls Tryd.prog 5 #[.int .u8 op, .bool cb] w fun e w' => e = .returned (.bool true) ∧ Kept w w' := by
  have S := hid (fun u (k : Kept w u) => kshown21 u (lay21_kept lay k))
  cases cb
  · have T := times_all op false h0 h1
    have A := hid (fun u (k : Kept w u) => pplan21 op false false u (lay21_kept lay k) h0 h1)
    have B := hid (fun u (k : Kept w u) => pplan21 op false true u (lay21_kept lay k) h0 h1)
    have C := hid (fun u (k : Kept w u) => pasks21 op false u (lay21_kept lay k) h0 h1)
    have D := hid (fun u => decode_any op u h0 h1)
    have PA := (plan_in op false false h0 h1).1
    have PB := (plan_in op false true h0 h1).1
    clear lay
    simp only [fmOf, if_true, if_false, Bool.false_eq_true] at T A B C PA PB
    generalize decOf op = f at *
    unfold timP at T
    simp only [if_true, if_false, Bool.false_eq_true, Bool.and_eq_true, Bool.or_eq_true, beq_iff_eq, decide_eq_true_eq] at T
    generalize planP f false = LA at *
    generalize planP f true = LB at *
    obtain ⟨fk, fx, fy, fb, fc, ft⟩ := f
    simp only at T C D
    obtain ⟨⟨⟨t1, t2⟩, t3⟩, t4⟩ := T
    generalize cndP fk fx = q at *
    have e1 : IntKind.i64.wrap ((LA.length : Int) + 1) = fc := by rw [IntKind.wrap_i64]; omega
    have e2 : IntKind.i64.wrap ((LB.length : Int) + 1) = ft := by rw [IntKind.wrap_i64]; omega
    have e3 : wrap64 ((LA.length : Int) + 1) = fc := (wrapEq21 _).symm.trans e1
    have e4 : wrap64 ((LB.length : Int) + 1) = ft := (wrapEq21 _).symm.trans e2
    have g1 : (fc == fc) = true := by simp
    have g2 : (ft == ft) = true := by simp
    have g3 : decide (ft ≤ 6) = true := decide_eq_true t4
    have G4 : Hid (q = false → (fc == ft) = true) := fun h => by rcases t3 with t3 | t3; (rw [h] at t3; cases t3); simp [t3]
    clear t1 t2 t3 PA PB
    go_enter Tryd.func5, Tryd.ntmps5
    go_wp2_with fail
    refine (S.out _ (Kept.refl w)).mono ?_
    rintro e u1 ⟨rfl, k1⟩
    have K1 := hid k1
    clear k1
    go_wp2_with fail
    refine (D.out _).mono ?_
    rintro e u2 ⟨rfl, x2⟩
    have K2 := hid ((K1.out.trans (Kept.of x2)).alloc (.cells #[.int .i64 fk, .int .i64 fx, .int .i64 fy, .int .i64 fb, .int .i64 fc, .int .i64 ft] 29))
    have B2 := hid (blk_new u2 [.int .i64 fk, .int .i64 fx, .int .i64 fy, .int .i64 fb, .int .i64 fc, .int .i64 ft] 29)
    have bn : Hid (u2.heap.size = u2.heap.size) := rfl
    clear x2 D
    go_wp2_with fail
    refine (A.out _ K2.out).mono ?_
    rintro e u5 ⟨a5, c5, rfl, s5, k5⟩
    have K5 := hid (K2.out.trans k5)
    have B5 := hid (blk_kept k5 B2.out)
    clear s5 k5
    go_wp2_with fail
    refine (B.out _ K5.out).mono ?_
    rintro e u6 ⟨a6, c6, rfl, s6, k6⟩
    have K6 := hid (K5.out.trans k6)
    have B6 := blk_kept k6 B5.out
    have cc := blk_cell B6
    have l6 := blk_lt B6
    clear s6 k6
    go_wp2_with fail
    refine (C.out _ K6.out).mono ?_
    rintro e u7 ⟨rfl, k7⟩
    have K7 := hid (K6.out.trans k7)
    have B7 := blk_kept k7 B6
    have cd := blk_cell B7
    have l7 := blk_lt B7
    clear k7 cc l6 B6
    cases q
    · have g4 : (fc == ft) = true := G4.out rfl
      go_wp2
      go_ret
      exact ⟨rfl, K7.out⟩
    · go_wp2
      go_ret
      exact ⟨rfl, K7.out⟩
  · have T := times_all op true h0 h1
    have A := hid (fun u (k : Kept w u) => pplan21 op true false u (lay21_kept lay k) h0 h1)
    have B := hid (fun u (k : Kept w u) => pplan21 op true true u (lay21_kept lay k) h0 h1)
    have C := hid (fun u (k : Kept w u) => pasks21 op true u (lay21_kept lay k) h0 h1)
    have D := hid (fun u => decode_any op u h0 h1)
    have PA := (plan_in op true false h0 h1).1
    have PB := (plan_in op true true h0 h1).1
    have DC := hid (fun u (k : Kept w u) => decodeCB_any op u h0 h1 (lay21_kept lay k).1)
    clear lay
    simp only [fmOf, if_true, if_false, Bool.false_eq_true] at T A B C PA PB
    generalize decOf op = g at *
    obtain ⟨gk, gx, gy, gb, gc, gt⟩ := g
    generalize cbOf op = f at *
    unfold timP at T
    simp only [if_true, if_false, Bool.false_eq_true, Bool.and_eq_true, Bool.or_eq_true, beq_iff_eq, decide_eq_true_eq] at T
    generalize planP f false = LA at *
    generalize planP f true = LB at *
    obtain ⟨fk, fx, fy, fb, fc, ft⟩ := f
    simp only at T C D DC
    obtain ⟨⟨⟨t1, t2⟩, t3⟩, t4⟩ := T
    generalize cndP fk fx = q at *
    have e1 : IntKind.i64.wrap ((LA.length : Int) + 2) = fc := by rw [IntKind.wrap_i64]; omega
    have e2 : IntKind.i64.wrap ((LB.length : Int) + 2) = ft := by rw [IntKind.wrap_i64]; omega
    have e3 : wrap64 ((LA.length : Int) + 2) = fc := (wrapEq21 _).symm.trans e1
    have e4 : wrap64 ((LB.length : Int) + 2) = ft := (wrapEq21 _).symm.trans e2
    have g1 : (fc == fc) = true := by simp
    have g2 : (ft == ft) = true := by simp
    have g3 : decide (ft ≤ 6) = true := decide_eq_true t4
    have G4 : Hid (q = false → (fc == ft) = true) := fun h => by rcases t3 with t3 | t3; (rw [h] at t3; cases t3); simp [t3]
    clear t1 t2 t3 PA PB
    go_enter Tryd.func5, Tryd.ntmps5
    go_wp2_with fail
    refine (S.out _ (Kept.refl w)).mono ?_
    rintro e u1 ⟨rfl, k1⟩
    have K1 := hid k1
    clear k1
    go_wp2_with fail
    refine (D.out _).mono ?_
    rintro e u2 ⟨rfl, x2⟩
    have K2 := hid ((K1.out.trans (Kept.of x2)).alloc (.cells #[.int .i64 gk, .int .i64 gx, .int .i64 gy, .int .i64 gb, .int .i64 gc, .int .i64 gt] 29))
    have B2 := hid (blk_new u2 [.int .i64 gk, .int .i64 gx, .int .i64 gy, .int .i64 gb, .int .i64 gc, .int .i64 gt] 29)
    have N2 := hid (K1.out.trans (Kept.of x2)).size
    clear x2 D
    go_wp2_with fail
    refine (DC.out _ K2.out).mono ?_
    rintro e u3 ⟨rfl, x3⟩
    have K3 := hid (K2.out.trans (Kept.of x3))
    have B3 := blk_kept (Kept.of x3) B2.out
    clear x3 DC K2 B2
    go_wp2_with ((with_reducible refine at_st 29 ?_); refine wl_store rfl rfl rfl rfl B3 (by kernel_rfl) rfl (Nat.le_of_ble_eq_true rfl) (fun v4 p4 => ?_); have B4 : Hid (Blk v4 u2.heap.size 29 [.int .i64 fk, .int .i64 fx, .int .i64 fy, .int .i64 fb, .int .i64 fc, .int .i64 ft]) := p4.blk; have K4 := hid (p4.kept _ K3.out N2.out); clear p4 B3 K3)
    refine (A.out _ K4.out).mono ?_
    rintro e u5 ⟨a5, c5, rfl, s5, k5⟩
    have K5 := hid (K4.out.trans k5)
    have B5 := hid (blk_kept k5 B4.out)
    clear s5 k5
    go_wp2_with fail
    refine (B.out _ K5.out).mono ?_
    rintro e u6 ⟨a6, c6, rfl, s6, k6⟩
    have K6 := hid (K5.out.trans k6)
    have B6 := blk_kept k6 B5.out
    have cc := blk_cell B6
    have l6 := blk_lt B6
    clear s6 k6
    go_wp2_with fail
    refine (C.out _ K6.out).mono ?_
    rintro e u7 ⟨rfl, k7⟩
    have K7 := hid (K6.out.trans k7)
    have B7 := blk_kept k7 B6
    have cd := blk_cell B7
    have l7 := blk_lt B7
    clear k7 cc l6 B6
    cases q
    · have g4 : (fc == ft) = true := G4.out rfl
      go_wp2
      go_ret
      exact ⟨rfl, K7.out⟩
    · go_wp2
      go_ret
      exact ⟨rfl, K7.out⟩
end Go.Proofs.YtbflhpffojlpgaaDoor
