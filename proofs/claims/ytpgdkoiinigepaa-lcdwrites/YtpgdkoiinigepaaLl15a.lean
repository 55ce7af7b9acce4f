/- Layer 15: LcdModes, Steps, Powers, Reads, Writes, as walks. -/
import Derived.Test.YtpgdkoiinigepaaSw15
import Derived.Test.YtpgdkoiinigepaaRlc15c
namespace Go.Proofs.Ytpgdkoiinigepaa
open Go.RowKit
set_option linter.unusedVariables false
set_option linter.unusedSimpArgs false

set_option maxRecDepth 100000 in
set_option maxHeartbeats 4000000 in
theorem modes15 (l : Lc) (w : World) (I : LcIn l) : Calls Try.prog 3 #[lcV l] w fun e w' => e = .returned (.bool true) ∧ Kept w w' := by
  have S := hid kshown15
  have A := hid (fun u => plock15 l u I)
  have B := hid (fun u => rlock15 l u I)
  have M := hid (fun u => pmode15 l u I)
  have N := hid (fun u => rmode15 l u I)
  have G := hid (fun u => psrc15 l u I)
  have H := hid (fun u => rsrc15 l u I)
  generalize (modeL l == 3) = x3 at *
  generalize decide (2 ≤ modeL l) = x2 at *
  generalize modeL l = m at *
  generalize srcL l = s at *
  obtain ⟨so, sl, sd, sy, ss, sh, se⟩ := l
  try simp only at A B M N G H
  clear I
  have Bl_0 : Blk (w.alloc (.cells ([.bool so, .int .u8 sl, .int .u16 sd, .int .u8 sy, .int .u8 ss, .bool sh, .int .u16 se] : List Value).toArray 24)) w.heap.size 24 [.bool so, .int .u8 sl, .int .u16 sd, .int .u8 sy, .int .u8 ss, .bool sh, .int .u16 se] := blk_new w _ _
  have cl_0 := True.intro
  have zl_0 := True.intro
  go_enter Try.func3, Try.ntmps3
  go_wp2_with fail
  refine (S.out _).mono ?_
  rintro e u1 ⟨rfl, k1⟩
  have Bl_1 := blk_kept k1 Bl_0
  have K_1 := hid (((Kept.refl w).alloc (.cells ([.bool so, .int .u8 sl, .int .u16 sd, .int .u8 sy, .int .u8 ss, .bool sh, .int .u16 se] : List Value).toArray 24)).trans k1)
  clear k1 Bl_0 cl_0 zl_0
  have cl_1 := blk_cell Bl_1
  have zl_1 := blk_lt Bl_1
  go_wp2_with fail
  refine (A.out _).mono ?_
  rintro e u2 ⟨rfl, k2⟩
  have Bl_2 := blk_kept k2 Bl_1
  have K_2 := hid (K_1.out.trans k2)
  clear k2 K_1 Bl_1 cl_1 zl_1
  have cl_2 := blk_cell Bl_2
  have zl_2 := blk_lt Bl_2
  go_wp2_with fail
  refine (B.out _).mono ?_
  rintro e u3 ⟨rfl, k3⟩
  have Bl_3 := blk_kept k3 Bl_2
  have K_3 := hid (K_2.out.trans k3)
  clear k3 K_2 Bl_2 cl_2 zl_2
  have cl_3 := blk_cell Bl_3
  have zl_3 := blk_lt Bl_3
  go_wp2_with fail
  go_region_held3 (fun w' => w'.cell? ⟨w.heap.size, 0, none⟩ = some (.bool so) ∧ w'.cell? ⟨w.heap.size, 1, none⟩ = some (.int .u8 sl) ∧ w'.cell? ⟨w.heap.size, 2, none⟩ = some (.int .u16 sd) ∧ w'.cell? ⟨w.heap.size, 3, none⟩ = some (.int .u8 sy) ∧ w'.cell? ⟨w.heap.size, 4, none⟩ = some (.int .u8 ss) ∧ w'.cell? ⟨w.heap.size, 5, none⟩ = some (.bool sh) ∧ w'.cell? ⟨w.heap.size, 6, none⟩ = some (.int .u16 se)) (go_keep) (first | (go_at_call 12; refine (M.out _).mono ?_; rintro e va ⟨rfl, qa⟩; have Da := hid (blk_kept qa (blk_drew Bl_3)); have da := blk_cell Da.out; have Za := hid (K_3.out.drew.trans qa); clear qa) | (go_at_call 13; refine (N.out _).mono ?_; rintro e vb ⟨rfl, qb⟩; have Db := hid (blk_kept qb Da.out); have db := blk_cell Db.out; have Zb := hid (Za.out.trans qb); clear qb) | (go_at_call 14; refine (G.out _).mono ?_; rintro e vc ⟨rfl, qc⟩; have Dc := hid (blk_kept qc Db.out); have dc := blk_cell Dc.out; have Zc := hid (Zb.out.trans qc); clear qc) | (go_at_call 15; refine (H.out _).mono ?_; rintro e vd ⟨rfl, qd⟩; have Dd := hid (blk_kept qd Dc.out); have dd := blk_cell Dd.out; have Zd := hid (Zc.out.trans qd); clear qd))
  all_goals
    go_wp2
    go_ret
    exact ⟨rfl, Zd.out⟩
set_option maxRecDepth 100000 in
set_option maxHeartbeats 4000000 in
theorem reads15 (l : Lc) (a : Int) (w : World) (I : LcIn l) (a0 : 0 ≤ a) (a1 : a ≤ 65535) : Calls Try.prog 6 #[lcV l, .int .u16 a] w fun e w' => e = .returned (.bool true) ∧ Kept w w' := by
  have S := hid kshown15
  have A := hid (fun u => pread15 l a u I a0 a1)
  have B := hid (fun u => rread15 l a u I a0 a1)
  generalize readL l a = V at *
  obtain ⟨so, sl, sd, sy, ss, sh, se⟩ := l
  try simp only at A B
  clear I
  have Bl_0 : Blk (w.alloc (.cells ([.bool so, .int .u8 sl, .int .u16 sd, .int .u8 sy, .int .u8 ss, .bool sh, .int .u16 se] : List Value).toArray 24)) w.heap.size 24 [.bool so, .int .u8 sl, .int .u16 sd, .int .u8 sy, .int .u8 ss, .bool sh, .int .u16 se] := blk_new w _ _
  have cl_0 := True.intro
  have zl_0 := True.intro
  go_enter Try.func6, Try.ntmps6
  go_wp2_with fail
  refine (S.out _).mono ?_
  rintro e u1 ⟨rfl, k1⟩
  have Bl_1 := blk_kept k1 Bl_0
  have K_1 := hid (((Kept.refl w).alloc (.cells ([.bool so, .int .u8 sl, .int .u16 sd, .int .u8 sy, .int .u8 ss, .bool sh, .int .u16 se] : List Value).toArray 24)).trans k1)
  clear k1 Bl_0 cl_0 zl_0
  have cl_1 := blk_cell Bl_1
  have zl_1 := blk_lt Bl_1
  go_wp2_with fail
  go_region_held3 (fun w' => w'.cell? ⟨w.heap.size, 0, none⟩ = some (.bool so) ∧ w'.cell? ⟨w.heap.size, 1, none⟩ = some (.int .u8 sl) ∧ w'.cell? ⟨w.heap.size, 2, none⟩ = some (.int .u16 sd) ∧ w'.cell? ⟨w.heap.size, 3, none⟩ = some (.int .u8 sy) ∧ w'.cell? ⟨w.heap.size, 4, none⟩ = some (.int .u8 ss) ∧ w'.cell? ⟨w.heap.size, 5, none⟩ = some (.bool sh) ∧ w'.cell? ⟨w.heap.size, 6, none⟩ = some (.int .u16 se)) (go_keep) (first | (go_at_call 20; refine (A.out _).mono ?_; rintro e va ⟨rfl, qa⟩; have Da := hid (blk_kept qa (blk_drew Bl_1)); have da := blk_cell Da.out; have Za := hid (K_1.out.drew.trans qa); clear qa) | (go_at_call 21; refine (B.out _).mono ?_; rintro e vb ⟨rfl, qb⟩; have Db := hid (blk_kept qb Da.out); have db := blk_cell Db.out; have Zb := hid (Za.out.trans qb); clear qb))
  all_goals
    go_wp2
    go_ret
    exact ⟨rfl, Zb.out⟩
set_option maxRecDepth 100000 in
set_option maxHeartbeats 4000000 in
theorem steps15 (l : Lc) (x : Int) (w : World) (I : LcIn l) (x0 : 0 ≤ x) (x1 : x ≤ 65535) : Calls Try.prog 4 #[lcV l, .int .u16 x] w fun e w' => e = .returned (.bool true) ∧ Kept w w' := by
  have S := hid kshown15
  have A := hid (fun u => pstep15 l x u I x0 x1)
  have B := hid (fun u => rstep15 l x u I x0 x1)
  generalize stepL l x = V at *
  generalize stepF l = f at *
  generalize stepR l x = r at *
  generalize stepD l = d at *
  obtain ⟨so, sl, sd, sy, ss, sh, se⟩ := l
  try simp only at A B
  clear I
  have Bl_0 : Blk (w.alloc (.cells ([.bool so, .int .u8 sl, .int .u16 sd, .int .u8 sy, .int .u8 ss, .bool sh, .int .u16 se] : List Value).toArray 24)) w.heap.size 24 [.bool so, .int .u8 sl, .int .u16 sd, .int .u8 sy, .int .u8 ss, .bool sh, .int .u16 se] := blk_new w _ _
  have cl_0 := True.intro
  have zl_0 := True.intro
  go_enter Try.func4, Try.ntmps4
  go_wp2_with fail
  refine (S.out _).mono ?_
  rintro e u1 ⟨rfl, k1⟩
  have Bl_1 := blk_kept k1 Bl_0
  have K_1 := hid (((Kept.refl w).alloc (.cells ([.bool so, .int .u8 sl, .int .u16 sd, .int .u8 sy, .int .u8 ss, .bool sh, .int .u16 se] : List Value).toArray 24)).trans k1)
  clear k1 Bl_0 cl_0 zl_0
  have cl_1 := blk_cell Bl_1
  have zl_1 := blk_lt Bl_1
  go_wp2_with fail
  refine (A.out _).mono ?_
  rintro e u2 ⟨rfl, k2⟩
  have Bl_2 := blk_kept k2 Bl_1
  have K_2 := hid (K_1.out.trans k2)
  clear k2 K_1 Bl_1 cl_1 zl_1
  have cl_2 := blk_cell Bl_2
  have zl_2 := blk_lt Bl_2
  have Bl_3 := blk_past (blk_past Bl_2 (.cells ([.bool false, .int .u8 0, .int .u16 0, .int .u8 0, .int .u8 0, .bool false, .int .u16 0] : List Value).toArray 24)) (.cells ([.bool false, .bool false, .bool false] : List Value).toArray 31)
  have Ba_3 : Blk ((u2.alloc (.cells ([.bool false, .int .u8 0, .int .u16 0, .int .u8 0, .int .u8 0, .bool false, .int .u16 0] : List Value).toArray 24)).alloc (.cells ([.bool false, .bool false, .bool false] : List Value).toArray 31)) u2.heap.size 24 [.bool false, .int .u8 0, .int .u16 0, .int .u8 0, .int .u8 0, .bool false, .int .u16 0] := blk_past (blk_new u2 _ _) _
  have Be_3 : Blk ((u2.alloc (.cells ([.bool false, .int .u8 0, .int .u16 0, .int .u8 0, .int .u8 0, .bool false, .int .u16 0] : List Value).toArray 24)).alloc (.cells ([.bool false, .bool false, .bool false] : List Value).toArray 31)) (u2.heap.size + 1) 31 [.bool false, .bool false, .bool false] := by have q := blk_new (u2.alloc (.cells ([.bool false, .int .u8 0, .int .u16 0, .int .u8 0, .int .u8 0, .bool false, .int .u16 0] : List Value).toArray 24)) [.bool false, .bool false, .bool false] 31; rw [World.size_alloc] at q; exact q
  have K_3 := hid ((K_2.out.alloc (.cells ([.bool false, .int .u8 0, .int .u16 0, .int .u8 0, .int .u8 0, .bool false, .int .u16 0] : List Value).toArray 24)).alloc (.cells ([.bool false, .bool false, .bool false] : List Value).toArray 31))
  have nla : w.heap.size ≠ u2.heap.size := by omega
  have nal : u2.heap.size ≠ w.heap.size := by omega
  have nle : w.heap.size ≠ u2.heap.size + 1 := by omega
  have nel : u2.heap.size + 1 ≠ w.heap.size := by omega
  have nae : u2.heap.size ≠ u2.heap.size + 1 := by omega
  have nea : u2.heap.size + 1 ≠ u2.heap.size := by omega
  have lea : w.heap.size ≤ u2.heap.size := K_2.out.size
  have lee : w.heap.size ≤ u2.heap.size + 1 := by omega
  clear K_2 Bl_2 cl_2 zl_2
  go_wp2_with (first
    | ((with_reducible refine at_st 24 ?_); refine wl_store rfl rfl rfl rfl Ba_3 (by kernel_rfl) rfl (Nat.le_of_ble_eq_true rfl) (fun v4 p4 => ?_); have Ba_4 : Blk v4 u2.heap.size 24 [.bool V.on, .int .u8 V.line, .int .u16 V.dot, .int .u8 V.lyc, .int .u8 V.sel, .bool V.high, .int .u16 V.extra] := p4.blk; have Bl_4 := p4.other _ _ _ nla Bl_3; have Be_4 := p4.other _ _ _ nea Be_3; have K_4 := hid (p4.kept _ K_3.out lea); clear p4 K_3 Bl_3 Ba_3 Be_3; have cl_4 := blk_cell Bl_4; have zl_4 := blk_lt Bl_4; have ca_4 := blk_cell Ba_4; have za_4 := blk_lt Ba_4; have ce_4 := blk_cell Be_4; have ze_4 := blk_lt Be_4)
    | ((with_reducible refine at_st 31 ?_); refine wl_store rfl rfl rfl rfl Be_4 (by kernel_rfl) rfl (Nat.le_of_ble_eq_true rfl) (fun v5 p5 => ?_); have Be_5 : Blk v5 (u2.heap.size + 1) 31 [.bool f, .bool r, .bool d] := p5.blk; have Bl_5 := p5.other _ _ _ nle Bl_4; have Ba_5 := p5.other _ _ _ nae Ba_4; have K_5 := hid (p5.kept _ K_4.out lee); clear p5 K_4 Bl_4 cl_4 zl_4 Ba_4 ca_4 za_4 Be_4 ce_4 ze_4; have cl_5 := blk_cell Bl_5; have zl_5 := blk_lt Bl_5; have ca_5 := blk_cell Ba_5; have za_5 := blk_lt Ba_5; have ce_5 := blk_cell Be_5; have ze_5 := blk_lt Be_5))
  refine (B.out _).mono ?_
  rintro e u6 ⟨rfl, k6⟩
  have Bl_6 := blk_kept k6 Bl_5
  have Ba_6 := blk_kept k6 Ba_5
  have Be_6 := blk_kept k6 Be_5
  have K_6 := hid (K_5.out.trans k6)
  clear k6 K_5 Bl_5 cl_5 zl_5 Ba_5 ca_5 za_5 Be_5 ce_5 ze_5
  have cl_6 := blk_cell Bl_6
  have zl_6 := blk_lt Bl_6
  have ca_6 := blk_cell Ba_6
  have za_6 := blk_lt Ba_6
  have ce_6 := blk_cell Be_6
  have ze_6 := blk_lt Be_6
  have Bl_7 := blk_past (blk_past Bl_6 (.cells ([.bool false, .int .u8 0, .int .u16 0, .int .u8 0, .int .u8 0, .bool false, .int .u16 0] : List Value).toArray 24)) (.cells ([.bool false, .bool false, .bool false] : List Value).toArray 31)
  have Ba_7 := blk_past (blk_past Ba_6 (.cells ([.bool false, .int .u8 0, .int .u16 0, .int .u8 0, .int .u8 0, .bool false, .int .u16 0] : List Value).toArray 24)) (.cells ([.bool false, .bool false, .bool false] : List Value).toArray 31)
  have Be_7 := blk_past (blk_past Be_6 (.cells ([.bool false, .int .u8 0, .int .u16 0, .int .u8 0, .int .u8 0, .bool false, .int .u16 0] : List Value).toArray 24)) (.cells ([.bool false, .bool false, .bool false] : List Value).toArray 31)
  have Bb_7 : Blk ((u6.alloc (.cells ([.bool false, .int .u8 0, .int .u16 0, .int .u8 0, .int .u8 0, .bool false, .int .u16 0] : List Value).toArray 24)).alloc (.cells ([.bool false, .bool false, .bool false] : List Value).toArray 31)) u6.heap.size 24 [.bool false, .int .u8 0, .int .u16 0, .int .u8 0, .int .u8 0, .bool false, .int .u16 0] := blk_past (blk_new u6 _ _) _
  have Bg_7 : Blk ((u6.alloc (.cells ([.bool false, .int .u8 0, .int .u16 0, .int .u8 0, .int .u8 0, .bool false, .int .u16 0] : List Value).toArray 24)).alloc (.cells ([.bool false, .bool false, .bool false] : List Value).toArray 31)) (u6.heap.size + 1) 31 [.bool false, .bool false, .bool false] := by have q := blk_new (u6.alloc (.cells ([.bool false, .int .u8 0, .int .u16 0, .int .u8 0, .int .u8 0, .bool false, .int .u16 0] : List Value).toArray 24)) [.bool false, .bool false, .bool false] 31; rw [World.size_alloc] at q; exact q
  have K_7 := hid ((K_6.out.alloc (.cells ([.bool false, .int .u8 0, .int .u16 0, .int .u8 0, .int .u8 0, .bool false, .int .u16 0] : List Value).toArray 24)).alloc (.cells ([.bool false, .bool false, .bool false] : List Value).toArray 31))
  have nlb : w.heap.size ≠ u6.heap.size := by omega
  have nbl : u6.heap.size ≠ w.heap.size := by omega
  have nlg : w.heap.size ≠ u6.heap.size + 1 := by omega
  have ngl : u6.heap.size + 1 ≠ w.heap.size := by omega
  have nab : u2.heap.size ≠ u6.heap.size := by omega
  have nba : u6.heap.size ≠ u2.heap.size := by omega
  have nag : u2.heap.size ≠ u6.heap.size + 1 := by omega
  have nga : u6.heap.size + 1 ≠ u2.heap.size := by omega
  have neb : (u2.heap.size + 1) ≠ u6.heap.size := by omega
  have nbe : u6.heap.size ≠ (u2.heap.size + 1) := by omega
  have neg : (u2.heap.size + 1) ≠ u6.heap.size + 1 := by omega
  have nge : u6.heap.size + 1 ≠ (u2.heap.size + 1) := by omega
  have nbg : u6.heap.size ≠ u6.heap.size + 1 := by omega
  have ngb : u6.heap.size + 1 ≠ u6.heap.size := by omega
  have leb : w.heap.size ≤ u6.heap.size := K_6.out.size
  have leg : w.heap.size ≤ u6.heap.size + 1 := by omega
  clear K_6 Bl_6 cl_6 zl_6 Ba_6 ca_6 za_6 Be_6 ce_6 ze_6
  go_wp2_with (first
    | ((with_reducible refine at_st 24 ?_); refine wl_store rfl rfl rfl rfl Bb_7 (by kernel_rfl) rfl (Nat.le_of_ble_eq_true rfl) (fun v8 p8 => ?_); have Bb_8 : Blk v8 u6.heap.size 24 [.bool V.on, .int .u8 V.line, .int .u16 V.dot, .int .u8 V.lyc, .int .u8 V.sel, .bool V.high, .int .u16 V.extra] := p8.blk; have Bl_8 := p8.other _ _ _ nlb Bl_7; have Ba_8 := p8.other _ _ _ nab Ba_7; have Be_8 := p8.other _ _ _ neb Be_7; have Bg_8 := p8.other _ _ _ ngb Bg_7; have K_8 := hid (p8.kept _ K_7.out leb); clear p8 K_7 Bl_7 Ba_7 Be_7 Bb_7 Bg_7; have cl_8 := blk_cell Bl_8; have zl_8 := blk_lt Bl_8; have ca_8 := blk_cell Ba_8; have za_8 := blk_lt Ba_8; have ce_8 := blk_cell Be_8; have ze_8 := blk_lt Be_8; have cb_8 := blk_cell Bb_8; have zb_8 := blk_lt Bb_8; have cg_8 := blk_cell Bg_8; have zg_8 := blk_lt Bg_8)
    | ((with_reducible refine at_st 31 ?_); refine wl_store rfl rfl rfl rfl Bg_8 (by kernel_rfl) rfl (Nat.le_of_ble_eq_true rfl) (fun v9 p9 => ?_); have Bg_9 : Blk v9 (u6.heap.size + 1) 31 [.bool f, .bool r, .bool d] := p9.blk; have Bl_9 := p9.other _ _ _ nlg Bl_8; have Ba_9 := p9.other _ _ _ nag Ba_8; have Be_9 := p9.other _ _ _ neg Be_8; have Bb_9 := p9.other _ _ _ nbg Bb_8; have K_9 := hid (p9.kept _ K_8.out leg); clear p9 K_8 Bl_8 cl_8 zl_8 Ba_8 ca_8 za_8 Be_8 ce_8 ze_8 Bb_8 cb_8 zb_8 Bg_8 cg_8 zg_8; have cl_9 := blk_cell Bl_9; have zl_9 := blk_lt Bl_9; have ca_9 := blk_cell Ba_9; have za_9 := blk_lt Ba_9; have ce_9 := blk_cell Be_9; have ze_9 := blk_lt Be_9; have cb_9 := blk_cell Bb_9; have zb_9 := blk_lt Bb_9; have cg_9 := blk_cell Bg_9; have zg_9 := blk_lt Bg_9))
  go_ret
  exact ⟨rfl, K_9.out⟩
set_option maxRecDepth 100000 in
set_option maxHeartbeats 4000000 in
theorem powers15 (l : Lc) (on : Bool) (w : World) (I : LcIn l) : Calls Try.prog 5 #[lcV l, .bool on] w fun e w' => e = .returned (.bool true) ∧ Kept w w' := by
  have S := hid kshown15
  have A := hid (fun u => ppow15 l on u I)
  have B := hid (fun u => rpow15 l on u I)
  generalize powL l on = V at *
  generalize powR l on = x at *
  obtain ⟨so, sl, sd, sy, ss, sh, se⟩ := l
  try simp only at A B
  clear I
  have Bl_0 : Blk (w.alloc (.cells ([.bool so, .int .u8 sl, .int .u16 sd, .int .u8 sy, .int .u8 ss, .bool sh, .int .u16 se] : List Value).toArray 24)) w.heap.size 24 [.bool so, .int .u8 sl, .int .u16 sd, .int .u8 sy, .int .u8 ss, .bool sh, .int .u16 se] := blk_new w _ _
  have cl_0 := True.intro
  have zl_0 := True.intro
  go_enter Try.func5, Try.ntmps5
  go_wp2_with fail
  refine (S.out _).mono ?_
  rintro e u1 ⟨rfl, k1⟩
  have Bl_1 := blk_kept k1 Bl_0
  have K_1 := hid (((Kept.refl w).alloc (.cells ([.bool so, .int .u8 sl, .int .u16 sd, .int .u8 sy, .int .u8 ss, .bool sh, .int .u16 se] : List Value).toArray 24)).trans k1)
  clear k1 Bl_0 cl_0 zl_0
  have cl_1 := blk_cell Bl_1
  have zl_1 := blk_lt Bl_1
  go_wp2_with fail
  refine (A.out _).mono ?_
  rintro e u2 ⟨rfl, k2⟩
  have Bl_2 := blk_kept k2 Bl_1
  have K_2 := hid (K_1.out.trans k2)
  clear k2 K_1 Bl_1 cl_1 zl_1
  have cl_2 := blk_cell Bl_2
  have zl_2 := blk_lt Bl_2
  have Bl_3 := blk_past Bl_2 (.cells ([.bool V.on, .int .u8 V.line, .int .u16 V.dot, .int .u8 V.lyc, .int .u8 V.sel, .bool V.high, .int .u16 V.extra] : List Value).toArray 24)
  have Ba_3 := blk_new u2 [.bool V.on, .int .u8 V.line, .int .u16 V.dot, .int .u8 V.lyc, .int .u8 V.sel, .bool V.high, .int .u16 V.extra] 24
  have K_3 := hid (K_2.out.alloc (.cells ([.bool V.on, .int .u8 V.line, .int .u16 V.dot, .int .u8 V.lyc, .int .u8 V.sel, .bool V.high, .int .u16 V.extra] : List Value).toArray 24))
  have nla : w.heap.size ≠ u2.heap.size := by omega
  have nal : u2.heap.size ≠ w.heap.size := by omega
  clear K_2 Bl_2
  have cl_3 := blk_cell Bl_3
  have zl_3 := blk_lt Bl_3
  have ca_3 := blk_cell Ba_3
  have za_3 := blk_lt Ba_3
  go_wp2_with fail
  refine (B.out _).mono ?_
  rintro e u4 ⟨rfl, k4⟩
  have Bl_4 := blk_kept k4 Bl_3
  have Ba_4 := blk_kept k4 Ba_3
  have K_4 := hid (K_3.out.trans k4)
  clear k4 K_3 Bl_3 cl_3 zl_3 Ba_3 ca_3 za_3
  have cl_4 := blk_cell Bl_4
  have zl_4 := blk_lt Bl_4
  have ca_4 := blk_cell Ba_4
  have za_4 := blk_lt Ba_4
  have Bl_5 := blk_past Bl_4 (.cells ([.bool V.on, .int .u8 V.line, .int .u16 V.dot, .int .u8 V.lyc, .int .u8 V.sel, .bool V.high, .int .u16 V.extra] : List Value).toArray 24)
  have Ba_5 := blk_past Ba_4 (.cells ([.bool V.on, .int .u8 V.line, .int .u16 V.dot, .int .u8 V.lyc, .int .u8 V.sel, .bool V.high, .int .u16 V.extra] : List Value).toArray 24)
  have Bb_5 := blk_new u4 [.bool V.on, .int .u8 V.line, .int .u16 V.dot, .int .u8 V.lyc, .int .u8 V.sel, .bool V.high, .int .u16 V.extra] 24
  have K_5 := hid (K_4.out.alloc (.cells ([.bool V.on, .int .u8 V.line, .int .u16 V.dot, .int .u8 V.lyc, .int .u8 V.sel, .bool V.high, .int .u16 V.extra] : List Value).toArray 24))
  have nlb : w.heap.size ≠ u4.heap.size := by omega
  have nbl : u4.heap.size ≠ w.heap.size := by omega
  have nab : u2.heap.size ≠ u4.heap.size := by omega
  have nba : u4.heap.size ≠ u2.heap.size := by omega
  clear K_4 Bl_4 Ba_4
  have cl_5 := blk_cell Bl_5
  have zl_5 := blk_lt Bl_5
  have ca_5 := blk_cell Ba_5
  have za_5 := blk_lt Ba_5
  have cb_5 := blk_cell Bb_5
  have zb_5 := blk_lt Bb_5
  go_wp2
  go_ret
  exact ⟨rfl, K_5.out⟩
set_option maxRecDepth 100000 in
set_option maxHeartbeats 4000000 in
theorem writes15 (l : Lc) (a v : Int) (w : World) (I : LcIn l) (v0 : 0 ≤ v) (v1 : v ≤ 255) : Calls Try.prog 7 #[lcV l, .int .u16 a, .int .u8 v] w fun e w' => e = .returned (.bool true) ∧ Kept w w' := by
  have S := hid kshown15
  have A := hid (fun u => pwrite15 l a v u I v0 v1)
  have B := hid (fun u => rwrite15 l a v u I v0 v1)
  generalize writeL l a v = V at *
  generalize writeR l a v = x at *
  obtain ⟨so, sl, sd, sy, ss, sh, se⟩ := l
  try simp only at A B
  clear I
  have Bl_0 : Blk (w.alloc (.cells ([.bool so, .int .u8 sl, .int .u16 sd, .int .u8 sy, .int .u8 ss, .bool sh, .int .u16 se] : List Value).toArray 24)) w.heap.size 24 [.bool so, .int .u8 sl, .int .u16 sd, .int .u8 sy, .int .u8 ss, .bool sh, .int .u16 se] := blk_new w _ _
  have cl_0 := True.intro
  have zl_0 := True.intro
  go_enter Try.func7, Try.ntmps7
  go_wp2_with fail
  refine (S.out _).mono ?_
  rintro e u1 ⟨rfl, k1⟩
  have Bl_1 := blk_kept k1 Bl_0
  have K_1 := hid (((Kept.refl w).alloc (.cells ([.bool so, .int .u8 sl, .int .u16 sd, .int .u8 sy, .int .u8 ss, .bool sh, .int .u16 se] : List Value).toArray 24)).trans k1)
  clear k1 Bl_0 cl_0 zl_0
  have cl_1 := blk_cell Bl_1
  have zl_1 := blk_lt Bl_1
  go_wp2_with fail
  refine (A.out _).mono ?_
  rintro e u2 ⟨rfl, k2⟩
  have Bl_2 := blk_kept k2 Bl_1
  have K_2 := hid (K_1.out.trans k2)
  clear k2 K_1 Bl_1 cl_1 zl_1
  have cl_2 := blk_cell Bl_2
  have zl_2 := blk_lt Bl_2
  have Bl_3 := blk_past Bl_2 (.cells ([.bool V.on, .int .u8 V.line, .int .u16 V.dot, .int .u8 V.lyc, .int .u8 V.sel, .bool V.high, .int .u16 V.extra] : List Value).toArray 24)
  have Ba_3 := blk_new u2 [.bool V.on, .int .u8 V.line, .int .u16 V.dot, .int .u8 V.lyc, .int .u8 V.sel, .bool V.high, .int .u16 V.extra] 24
  have K_3 := hid (K_2.out.alloc (.cells ([.bool V.on, .int .u8 V.line, .int .u16 V.dot, .int .u8 V.lyc, .int .u8 V.sel, .bool V.high, .int .u16 V.extra] : List Value).toArray 24))
  have nla : w.heap.size ≠ u2.heap.size := by omega
  have nal : u2.heap.size ≠ w.heap.size := by omega
  clear K_2 Bl_2
  have cl_3 := blk_cell Bl_3
  have zl_3 := blk_lt Bl_3
  have ca_3 := blk_cell Ba_3
  have za_3 := blk_lt Ba_3
  go_wp2_with fail
  refine (B.out _).mono ?_
  rintro e u4 ⟨rfl, k4⟩
  have Bl_4 := blk_kept k4 Bl_3
  have Ba_4 := blk_kept k4 Ba_3
  have K_4 := hid (K_3.out.trans k4)
  clear k4 K_3 Bl_3 cl_3 zl_3 Ba_3 ca_3 za_3
  have cl_4 := blk_cell Bl_4
  have zl_4 := blk_lt Bl_4
  have ca_4 := blk_cell Ba_4
  have za_4 := blk_lt Ba_4
  have Bl_5 := blk_past Bl_4 (.cells ([.bool V.on, .int .u8 V.line, .int .u16 V.dot, .int .u8 V.lyc, .int .u8 V.sel, .bool V.high, .int .u16 V.extra] : List Value).toArray 24)
  have Ba_5 := blk_past Ba_4 (.cells ([.bool V.on, .int .u8 V.line, .int .u16 V.dot, .int .u8 V.lyc, .int .u8 V.sel, .bool V.high, .int .u16 V.extra] : List Value).toArray 24)
  have Bb_5 := blk_new u4 [.bool V.on, .int .u8 V.line, .int .u16 V.dot, .int .u8 V.lyc, .int .u8 V.sel, .bool V.high, .int .u16 V.extra] 24
  have K_5 := hid (K_4.out.alloc (.cells ([.bool V.on, .int .u8 V.line, .int .u16 V.dot, .int .u8 V.lyc, .int .u8 V.sel, .bool V.high, .int .u16 V.extra] : List Value).toArray 24))
  have nlb : w.heap.size ≠ u4.heap.size := by omega
  have nbl : u4.heap.size ≠ w.heap.size := by omega
  have nab : u2.heap.size ≠ u4.heap.size := by omega
  have nba : u4.heap.size ≠ u2.heap.size := by omega
  clear K_4 Bl_4 Ba_4
  have cl_5 := blk_cell Bl_5
  have zl_5 := blk_lt Bl_5
  have ca_5 := blk_cell Ba_5
  have za_5 := blk_lt Ba_5
  have cb_5 := blk_cell Bb_5
  have zb_5 := blk_lt Bb_5
  go_wp2
  go_ret
  exact ⟨rfl, K_5.out⟩
end Go.Proofs.Ytpgdkoiinigepaa
