/- The program's form, Plan, Asks, over this seat's translation. -/
import Derived.Test.YtbflhpffojlpgaaDoorPm21c
import Derived.Test.YtbflhpffojlpgaaDoorOp5
namespace Go.Proofs.YtbflhpffojlpgaaDoor
open Go.RowKit
set_option linter.unusedVariables false
set_option linter.unusedSimpArgs false

def fmL (f : Fm) : List Value := [.int .i64 f.kind, .int .i64 f.x, .int .i64 f.y, .int .i64 f.bytes, .int .i64 f.cycles, .int .i64 f.taken]
theorem ret_four {a : Option Addr} {c : Nat} {l m n o : List Mc} : Ending.returned (.slice a (l.length + (m.length + (n.length + o.length))) c) = Ending.returned (.slice a (l ++ m ++ n ++ o).length c) := by simp only [List.length_append, Nat.add_assoc]
set_option maxRecDepth 100000 in
set_option maxHeartbeats 4000000 in
theorem pform21 (op : Int) (cb : Bool) (w : World) (lay : Lay21 w) (h0 : 0 ≤ op) (h1 : op ≤ 255) : Calls Tryd.prog 16 #[.int .u8 op, .bool cb] w fun e w' => e = .returned (.agg (fmL (fmOf op cb)).toArray) ∧ Kept w w' := by
  cases cb
  · have HA := hid (fun (u : World) (k : Kept w u) => decode_any op u h0 h1)
    show Calls _ _ _ _ (fun e w' => e = .returned (.agg (fmL (decOf op)).toArray) ∧ Kept w w')
    generalize decOf op = f at *
    have X0 : Blk (w.alloc (.cells ([.int .i64 0, .int .i64 0, .int .i64 0, .int .i64 0, .int .i64 0, .int .i64 0] : List Value).toArray 29)) w.heap.size 29 [.int .i64 0, .int .i64 0, .int .i64 0, .int .i64 0, .int .i64 0, .int .i64 0] := blk_new w _ _
    have K0 := hid ((Kept.refl w).alloc (.cells ([.int .i64 0, .int .i64 0, .int .i64 0, .int .i64 0, .int .i64 0, .int .i64 0] : List Value).toArray 29))
    go_enter Tryd.func16, Tryd.ntmps16
    go_wp2_with fail
    refine (HA.out _ K0.out).mono ?_
    rintro e u1 ⟨rfl, g1⟩
    have R1 := blk_kept (Kept.of g1) X0
    have K1 := hid (K0.out.trans (Kept.of g1))
    clear g1 X0 K0 HA
    go_wp2_with ((with_reducible refine at_st 29 ?_); refine wl_store rfl rfl rfl rfl R1 (by kernel_rfl) rfl (Nat.le_of_ble_eq_true rfl) (fun v2 p2 => ?_); have B2 : Blk v2 w.heap.size 29 (fmL f) := p2.blk; have K2 := hid (p2.kept _ K1.out (Nat.le_refl _)); clear p2)
    exact bodyPost_ret (res_cell Tryd.results16 rfl B2 Tryd.underlying29 rfl (by kernel_rfl)) rfl ⟨rfl, K2.out⟩
  · have HA := hid (fun (u : World) (k : Kept w u) => decodeCB_any op u h0 h1 (lay21_kept lay k).1)
    show Calls _ _ _ _ (fun e w' => e = .returned (.agg (fmL (cbOf op)).toArray) ∧ Kept w w')
    generalize cbOf op = f at *
    have X0 : Blk (w.alloc (.cells ([.int .i64 0, .int .i64 0, .int .i64 0, .int .i64 0, .int .i64 0, .int .i64 0] : List Value).toArray 29)) w.heap.size 29 [.int .i64 0, .int .i64 0, .int .i64 0, .int .i64 0, .int .i64 0, .int .i64 0] := blk_new w _ _
    have K0 := hid ((Kept.refl w).alloc (.cells ([.int .i64 0, .int .i64 0, .int .i64 0, .int .i64 0, .int .i64 0, .int .i64 0] : List Value).toArray 29))
    go_enter Tryd.func16, Tryd.ntmps16
    go_wp2_with fail
    refine (HA.out _ K0.out).mono ?_
    rintro e u1 ⟨rfl, g1⟩
    have R1 := blk_kept (Kept.of g1) X0
    have K1 := hid (K0.out.trans (Kept.of g1))
    clear g1 X0 K0 HA
    go_wp2_with ((with_reducible refine at_st 29 ?_); refine wl_store rfl rfl rfl rfl R1 (by kernel_rfl) rfl (Nat.le_of_ble_eq_true rfl) (fun v2 p2 => ?_); have B2 : Blk v2 w.heap.size 29 (fmL f) := p2.blk; have K2 := hid (p2.kept _ K1.out (Nat.le_refl _)); clear p2)
    exact bodyPost_ret (res_cell Tryd.results16 rfl B2 Tryd.underlying29 rfl (by kernel_rfl)) rfl ⟨rfl, K2.out⟩
set_option maxRecDepth 100000 in
set_option maxHeartbeats 4000000 in
theorem pplan21 (op : Int) (cb tk : Bool) (w : World) (lay : Lay21 w) (h0 : 0 ≤ op) (h1 : op ≤ 255) : Calls Tryd.prog 10 #[.int .u8 op, .bool cb, .bool tk] w (MRet w (planP (fmOf op cb) tk)) := by
  have HP := hid (plan_in op cb tk h0 h1)
  have FO := hid (pform21 op cb w lay h0 h1)
  have LY := hid lay
  clear lay
  generalize fmOf op cb = f at *
  cases tk
  · have PN : Hid ((accP f.kind f.x ++ bytP f.kind f.x f.y ++ wrdP f.kind ++ jmpP f.kind f.x (!cndP f.kind f.x)).length ≤ 1000) := Nat.le_trans HP.out.1 (by decide)
    show Calls _ _ _ _ (MRet w (accP f.kind f.x ++ bytP f.kind f.x f.y ++ wrdP f.kind ++ jmpP f.kind f.x (!cndP f.kind f.x)))
    go_enter Tryd.func10, Tryd.ntmps10
    go_wp2_with fail
    refine FO.out.mono ?_
    rintro e u1 ⟨rfl, q1⟩
    have K1 := hid (q1.alloc (.cells #[.int .i64 f.kind, .int .i64 f.x, .int .i64 f.y, .int .i64 f.bytes, .int .i64 f.cycles, .int .i64 f.taken] 29))
    have H1 := hid (has_alloc u1 #[.int .i64 f.kind, .int .i64 f.x, .int .i64 f.y, .int .i64 f.bytes, .int .i64 f.cycles, .int .i64 f.taken] 29)
    clear q1 FO
    simp only [fmL]
    go_wp2_with fail
    refine (pcond21 f.kind f.x f.y f.bytes f.cycles f.taken _).mono ?_
    rintro e u2 ⟨rfl, q2⟩
    have K2 := hid (K1.out.trans q2)
    have H2 := hid (hasK q2 H1.out)
    have z2 := H2.out.1
    have d0 : u2.cell? ⟨u1.heap.size, 0, none⟩ = some (.int .i64 f.kind) := H2.out.2 0
    have d1 : u2.cell? ⟨u1.heap.size, 1, none⟩ = some (.int .i64 f.x) := H2.out.2 1
    have d2 : u2.cell? ⟨u1.heap.size, 2, none⟩ = some (.int .i64 f.y) := H2.out.2 2
    have d3 : u2.cell? ⟨u1.heap.size, 3, none⟩ = some (.int .i64 f.bytes) := H2.out.2 3
    have d4 : u2.cell? ⟨u1.heap.size, 4, none⟩ = some (.int .i64 f.cycles) := H2.out.2 4
    have d5 : u2.cell? ⟨u1.heap.size, 5, none⟩ = some (.int .i64 f.taken) := H2.out.2 5
    clear q2 K1 H1
    go_wp2
    go_region_held3 (fun w' => w'.cell? ⟨u1.heap.size, 0, none⟩ = some (.int .i64 f.kind) ∧ w'.cell? ⟨u1.heap.size, 1, none⟩ = some (.int .i64 f.x) ∧ w'.cell? ⟨u1.heap.size, 2, none⟩ = some (.int .i64 f.y) ∧ w'.cell? ⟨u1.heap.size, 3, none⟩ = some (.int .i64 f.bytes) ∧ w'.cell? ⟨u1.heap.size, 4, none⟩ = some (.int .i64 f.cycles) ∧ w'.cell? ⟨u1.heap.size, 5, none⟩ = some (.int .i64 f.taken)) (go_keep) (first | (go_at_call 19; refine (pacc21 f.kind f.x f.y f.bytes f.cycles f.taken _ (lay21_kept LY.out K2.out.drew) HP.out.2.1 HP.out.2.2.2).mono ?_; rintro e v1 ⟨a1, c1, rfl, s1, k1⟩; have KA1 := hid (K2.out.drew.trans k1); have HA1 := hasK k1 H2.out; obtain ⟨zz1, dd1⟩ := id HA1; have S1_1 := hid s1; clear s1 k1) | (go_at_call 20; refine (pbyt21 f.kind f.x f.y f.bytes f.cycles f.taken _).mono ?_; rintro e v2 ⟨a2, c2, rfl, s2, k2⟩; have KA2 := hid (KA1.out.trans k2); have HA2 := hasK k2 HA1; obtain ⟨zz2, dd2⟩ := id HA2; have S1_2 := hid (slM_kept k2 S1_1.out); have S2_2 := hid s2; clear s2 k2) | (go_at_call 21; refine (pwrd21 f.kind f.x f.y f.bytes f.cycles f.taken _).mono ?_; rintro e v3 ⟨a3, c3, rfl, s3, k3⟩; have KA3 := hid (KA2.out.trans k3); have HA3 := hasK k3 HA2; obtain ⟨zz3, dd3⟩ := id HA3; have S1_3 := hid (slM_kept k3 S1_2.out); have S2_3 := hid (slM_kept k3 S2_2.out); have S3_3 := hid s3; clear s3 k3) | (go_at_call 22; refine (pjmp21 f.kind f.x f.y f.bytes f.cycles f.taken (!cndP f.kind f.x) _).mono ?_; rintro e v4 ⟨a4, c4, rfl, s4, k4⟩; have KA4 := hid (KA3.out.trans k4); have HA4 := hasK k4 HA3; obtain ⟨zz4, dd4⟩ := id HA4; have S1_4 := hid (slM_kept k4 S1_3.out); have S2_4 := hid (slM_kept k4 S2_3.out); have S3_4 := hid (slM_kept k4 S3_3.out); have S4_4 := hid s4; clear s4 k4) | (go_at_call 18; refine (tog4 _ S1_4.out S2_4.out S3_4.out S4_4.out PN.out).mono ?_; rintro e v5 ⟨a5, c5, rfl, s5, k5⟩; have KA5 := hid (KA4.out.trans k5); have HA5 := hasK k5 HA4; obtain ⟨zz5, dd5⟩ := id HA5; have S1_5 := hid (slM_kept k5 S1_4.out); have S2_5 := hid (slM_kept k5 S2_4.out); have S3_5 := hid (slM_kept k5 S3_4.out); have S4_5 := hid (slM_kept k5 S4_4.out); have S5_5 := hid s5; clear s5 k5))
    all_goals
      go_wp2
      go_ret
      exact ⟨a5, c5, (by first | rfl | exact ret_four), S5_5.out, KA5.out⟩
  · have PN : Hid ((accP f.kind f.x ++ bytP f.kind f.x f.y ++ wrdP f.kind ++ jmpP f.kind f.x true).length ≤ 1000) := Nat.le_trans HP.out.1 (by decide)
    show Calls _ _ _ _ (MRet w (accP f.kind f.x ++ bytP f.kind f.x f.y ++ wrdP f.kind ++ jmpP f.kind f.x true))
    go_enter Tryd.func10, Tryd.ntmps10
    go_wp2_with fail
    refine FO.out.mono ?_
    rintro e u1 ⟨rfl, q1⟩
    have K1 := hid (q1.alloc (.cells #[.int .i64 f.kind, .int .i64 f.x, .int .i64 f.y, .int .i64 f.bytes, .int .i64 f.cycles, .int .i64 f.taken] 29))
    have H1 := hid (has_alloc u1 #[.int .i64 f.kind, .int .i64 f.x, .int .i64 f.y, .int .i64 f.bytes, .int .i64 f.cycles, .int .i64 f.taken] 29)
    clear q1 FO
    simp only [fmL]
    go_wp2
    go_region_held3 (fun w' => w'.cell? ⟨u1.heap.size, 0, none⟩ = some (.int .i64 f.kind) ∧ w'.cell? ⟨u1.heap.size, 1, none⟩ = some (.int .i64 f.x) ∧ w'.cell? ⟨u1.heap.size, 2, none⟩ = some (.int .i64 f.y) ∧ w'.cell? ⟨u1.heap.size, 3, none⟩ = some (.int .i64 f.bytes) ∧ w'.cell? ⟨u1.heap.size, 4, none⟩ = some (.int .i64 f.cycles) ∧ w'.cell? ⟨u1.heap.size, 5, none⟩ = some (.int .i64 f.taken)) (go_keep) (first | (go_at_call 19; refine (pacc21 f.kind f.x f.y f.bytes f.cycles f.taken _ (lay21_kept LY.out K1.out.drew) HP.out.2.1 HP.out.2.2.2).mono ?_; rintro e v1 ⟨a1, c1, rfl, s1, k1⟩; have KA1 := hid (K1.out.drew.trans k1); have HA1 := hasK k1 H1.out; obtain ⟨zz1, dd1⟩ := id HA1; have S1_1 := hid s1; clear s1 k1) | (go_at_call 20; refine (pbyt21 f.kind f.x f.y f.bytes f.cycles f.taken _).mono ?_; rintro e v2 ⟨a2, c2, rfl, s2, k2⟩; have KA2 := hid (KA1.out.trans k2); have HA2 := hasK k2 HA1; obtain ⟨zz2, dd2⟩ := id HA2; have S1_2 := hid (slM_kept k2 S1_1.out); have S2_2 := hid s2; clear s2 k2) | (go_at_call 21; refine (pwrd21 f.kind f.x f.y f.bytes f.cycles f.taken _).mono ?_; rintro e v3 ⟨a3, c3, rfl, s3, k3⟩; have KA3 := hid (KA2.out.trans k3); have HA3 := hasK k3 HA2; obtain ⟨zz3, dd3⟩ := id HA3; have S1_3 := hid (slM_kept k3 S1_2.out); have S2_3 := hid (slM_kept k3 S2_2.out); have S3_3 := hid s3; clear s3 k3) | (go_at_call 22; refine (pjmp21 f.kind f.x f.y f.bytes f.cycles f.taken true _).mono ?_; rintro e v4 ⟨a4, c4, rfl, s4, k4⟩; have KA4 := hid (KA3.out.trans k4); have HA4 := hasK k4 HA3; obtain ⟨zz4, dd4⟩ := id HA4; have S1_4 := hid (slM_kept k4 S1_3.out); have S2_4 := hid (slM_kept k4 S2_3.out); have S3_4 := hid (slM_kept k4 S3_3.out); have S4_4 := hid s4; clear s4 k4) | (go_at_call 18; refine (tog4 _ S1_4.out S2_4.out S3_4.out S4_4.out PN.out).mono ?_; rintro e v5 ⟨a5, c5, rfl, s5, k5⟩; have KA5 := hid (KA4.out.trans k5); have HA5 := hasK k5 HA4; obtain ⟨zz5, dd5⟩ := id HA5; have S1_5 := hid (slM_kept k5 S1_4.out); have S2_5 := hid (slM_kept k5 S2_4.out); have S3_5 := hid (slM_kept k5 S3_4.out); have S4_5 := hid (slM_kept k5 S4_4.out); have S5_5 := hid s5; clear s5 k5))
    all_goals
      go_wp2
      go_ret
      exact ⟨a5, c5, (by first | rfl | exact ret_four), S5_5.out, KA5.out⟩
set_option maxRecDepth 100000 in
set_option maxHeartbeats 4000000 in
theorem pasks21 (op : Int) (cb : Bool) (w : World) (lay : Lay21 w) (h0 : 0 ≤ op) (h1 : op ≤ 255) : Calls Tryd.prog 12 #[.int .u8 op, .bool cb] w fun e w' => e = .returned (.bool (cndP (fmOf op cb).kind (fmOf op cb).x)) ∧ Kept w w' := by
  have FO := hid (pform21 op cb w lay h0 h1)
  clear lay
  generalize fmOf op cb = f at *
  go_enter Tryd.func12, Tryd.ntmps12
  go_wp2_with fail
  refine FO.out.mono ?_
  rintro e u1 ⟨rfl, q1⟩
  have K1 := hid q1
  clear q1 FO
  simp only [fmL]
  go_wp2_with fail
  refine (pcond21 f.kind f.x f.y f.bytes f.cycles f.taken _).mono ?_
  rintro e u2 ⟨rfl, q2⟩
  have K2 := hid (K1.out.trans q2)
  clear q2
  go_wp2
  go_ret
  exact ⟨rfl, K2.out⟩
end Go.Proofs.YtbflhpffojlpgaaDoor
