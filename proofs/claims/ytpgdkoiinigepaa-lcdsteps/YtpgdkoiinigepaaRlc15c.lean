/- What the document's answers of layer 15 come to: Step. -/
import Derived.Test.YtpgdkoiinigepaaRlc15b
namespace Go.Proofs.Ytpgdkoiinigepaa
open Go.RowKit
set_option linter.unusedVariables false
set_option linter.unusedSimpArgs false

set_option maxRecDepth 100000 in
set_option maxHeartbeats 4000000 in
theorem rstep15_off (l : Lc) (x : Int) (w : World) (I : LcIn l) (h : l.on = false) : Calls Try.prog 17 #[lcV l, .int .u16 x] w fun e w' => e = .returned (.tuple #[lcV l, evV false false false]) ∧ Kept w w' := by
  obtain ⟨so, sl, sd, sy, ss, sh, se⟩ := l
  have l0 := I.l0
  have l1 := I.l1
  have d0 := I.d0
  have d1 := I.d1
  have y0 := I.y0
  have y1 := I.y1
  have s0 := I.s0
  have s1 := I.s1
  have e0 := I.e0
  have e1 := I.e1
  simp only at l0 l1 d0 d1 y0 y1 s0 s1 e0 e1
  try simp only at *
  subst h
  clear I
  go_enter Try.func17, Try.ntmps17
  go_wp2
  exact bodyPost_ret (v := .tuple #[lcV ⟨false, sl, sd, sy, ss, sh, se⟩, evV false false false]) (by simp [results, Try.results17, go_sem]) rfl ⟨rfl, by repeat (first | with_reducible exact Kept.refl _ | with_reducible refine Kept.alloc ?_ _ | with_reducible refine Kept.drew ?_ | (with_reducible refine Kept.setCell8 ?_ ?_ _ _; rotate_left; (first | exact Nat.le_refl _ | omega | (simp; done) | (simp; omega))))⟩
set_option maxRecDepth 100000 in
set_option maxHeartbeats 4000000 in
theorem rstep15_Ad (l V2 : Lc) (x : Int) (r : Bool) (w : World) (I : LcIn l) (x0 : 0 ≤ x) (x1 : x ≤ 65535) (h : l.on = true) (a : l.dot < 455) (q : l.line < 144) (t : l.dot + 1 = 80) (hx : x ≤ 200) (HA : ∀ u, Calls Try.prog 30 #[lcV ⟨true, l.line, l.dot + 1, l.lyc, l.sel, l.high, x⟩] u fun e w' => e = .returned (.tuple #[lcV V2, .bool r]) ∧ Kept u w') : Calls Try.prog 17 #[lcV l, .int .u16 x] w fun e w' => e = .returned (.tuple #[lcV V2, evV false r true]) ∧ Kept w w' := by
  have HA := hid HA
  obtain ⟨so, sl, sd, sy, ss, sh, se⟩ := l
  have l0 := I.l0
  have l1 := I.l1
  have d0 := I.d0
  have d1 := I.d1
  have y0 := I.y0
  have y1 := I.y1
  have s0 := I.s0
  have s1 := I.s1
  have e0 := I.e0
  have e1 := I.e1
  simp only at l0 l1 d0 d1 y0 y1 s0 s1 e0 e1
  try simp only at *
  subst h
  have a1 : decide (456 ≤ sd + 1) = false := decide_eq_false (by omega)
  have a2 : IntKind.u16.wrap (sd + 1) = sd + 1 := by rw [IntKind.wrap_u16]; omega
  have a3 : IntKind.u8.wrap sl = sl := by rw [IntKind.wrap_u8]; omega
  have a4 : IntKind.i64.wrap (sd + 1) = sd + 1 := by rw [IntKind.wrap_i64]; omega
  have a5 : decide (455 < sd + 1) = false := decide_eq_false (by omega)
  have a6 : decide (455 ≤ sd) = false := decide_eq_false (by omega)
  have b1 : decide (sl < 144) = true := decide_eq_true q
  have b2 : (sl == 144) = false := by simp; omega
  have b3 : (sd + 1 == 80) = true := by simpa using t
  clear t
  have b4 : (sd + 1 == 0) = false := by simp; omega
  have b5 : decide (200 < x) = false := decide_eq_false (by omega)
  clear I
  have n01 : w.heap.size ≠ (w.heap.size + 1) := by omega
  have n02 : w.heap.size ≠ (w.heap.size + 1 + 1) := by omega
  have n03 : w.heap.size ≠ (w.heap.size + 1 + 1 + 1) := by omega
  have n10 : (w.heap.size + 1) ≠ w.heap.size := by omega
  have n12 : (w.heap.size + 1) ≠ (w.heap.size + 1 + 1) := by omega
  have n13 : (w.heap.size + 1) ≠ (w.heap.size + 1 + 1 + 1) := by omega
  have n20 : (w.heap.size + 1 + 1) ≠ w.heap.size := by omega
  have n21 : (w.heap.size + 1 + 1) ≠ (w.heap.size + 1) := by omega
  have n23 : (w.heap.size + 1 + 1) ≠ (w.heap.size + 1 + 1 + 1) := by omega
  have n30 : (w.heap.size + 1 + 1 + 1) ≠ w.heap.size := by omega
  have n31 : (w.heap.size + 1 + 1 + 1) ≠ (w.heap.size + 1) := by omega
  have n32 : (w.heap.size + 1 + 1 + 1) ≠ (w.heap.size + 1 + 1) := by omega
  have le0 : w.heap.size ≤ w.heap.size := by omega
  have le1 : w.heap.size ≤ (w.heap.size + 1) := by omega
  have le2 : w.heap.size ≤ (w.heap.size + 1 + 1) := by omega
  have le3 : w.heap.size ≤ (w.heap.size + 1 + 1 + 1) := by omega
  have B0_x : Blk (((w.alloc (.cells ([.bool true, .int .u8 sl, .int .u16 sd, .int .u8 sy, .int .u8 ss, .bool sh, .int .u16 se] : List Value).toArray 24)).alloc (.cells ([.bool false, .int .u8 0, .int .u16 0, .int .u8 0, .int .u8 0, .bool false, .int .u16 0] : List Value).toArray 24)).alloc (.cells ([.bool false, .bool false, .bool false] : List Value).toArray 31)) w.heap.size 24 [.bool true, .int .u8 sl, .int .u16 sd, .int .u8 sy, .int .u8 ss, .bool sh, .int .u16 se] := blk_past (blk_past (blk_new w _ _) _) _
  have B1_x : Blk (((w.alloc (.cells ([.bool true, .int .u8 sl, .int .u16 sd, .int .u8 sy, .int .u8 ss, .bool sh, .int .u16 se] : List Value).toArray 24)).alloc (.cells ([.bool false, .int .u8 0, .int .u16 0, .int .u8 0, .int .u8 0, .bool false, .int .u16 0] : List Value).toArray 24)).alloc (.cells ([.bool false, .bool false, .bool false] : List Value).toArray 31)) (w.heap.size + 1) 24 [.bool false, .int .u8 0, .int .u16 0, .int .u8 0, .int .u8 0, .bool false, .int .u16 0] := by have q := blk_new (w.alloc (.cells ([.bool true, .int .u8 sl, .int .u16 sd, .int .u8 sy, .int .u8 ss, .bool sh, .int .u16 se] : List Value).toArray 24)) [.bool false, .int .u8 0, .int .u16 0, .int .u8 0, .int .u8 0, .bool false, .int .u16 0] 24; rw [World.size_alloc] at q; exact blk_past q _
  have B2_x : Blk (((w.alloc (.cells ([.bool true, .int .u8 sl, .int .u16 sd, .int .u8 sy, .int .u8 ss, .bool sh, .int .u16 se] : List Value).toArray 24)).alloc (.cells ([.bool false, .int .u8 0, .int .u16 0, .int .u8 0, .int .u8 0, .bool false, .int .u16 0] : List Value).toArray 24)).alloc (.cells ([.bool false, .bool false, .bool false] : List Value).toArray 31)) (w.heap.size + 1 + 1) 31 [.bool false, .bool false, .bool false] := by have q := blk_new ((w.alloc (.cells ([.bool true, .int .u8 sl, .int .u16 sd, .int .u8 sy, .int .u8 ss, .bool sh, .int .u16 se] : List Value).toArray 24)).alloc (.cells ([.bool false, .int .u8 0, .int .u16 0, .int .u8 0, .int .u8 0, .bool false, .int .u16 0] : List Value).toArray 24)) [.bool false, .bool false, .bool false] 31; rw [World.size_alloc, World.size_alloc] at q; exact q
  have y_x : (((w.alloc (.cells ([.bool true, .int .u8 sl, .int .u16 sd, .int .u8 sy, .int .u8 ss, .bool sh, .int .u16 se] : List Value).toArray 24)).alloc (.cells ([.bool false, .int .u8 0, .int .u16 0, .int .u8 0, .int .u8 0, .bool false, .int .u16 0] : List Value).toArray 24)).alloc (.cells ([.bool false, .bool false, .bool false] : List Value).toArray 31)).heap.size = (w.heap.size + 1 + 1 + 1) := by rw [World.size_alloc, World.size_alloc, World.size_alloc]
  have K_x := hid ((((Kept.refl w).alloc (.cells ([.bool true, .int .u8 sl, .int .u16 sd, .int .u8 sy, .int .u8 ss, .bool sh, .int .u16 se] : List Value).toArray 24)).alloc (.cells ([.bool false, .int .u8 0, .int .u16 0, .int .u8 0, .int .u8 0, .bool false, .int .u16 0] : List Value).toArray 24)).alloc (.cells ([.bool false, .bool false, .bool false] : List Value).toArray 31))
  have c0_x := True.intro
  have c1_x := True.intro
  go_enter Try.func17, Try.ntmps17
  go_wp2_with (first
    | ((with_reducible refine at_st 22 ?_); refine wl_store rfl rfl rfl rfl B0_x (by kernel_rfl) rfl (Nat.le_of_ble_eq_true rfl) (fun va pa => ?_); have B0_a : Blk va w.heap.size 24 [.bool true, .int .u8 sl, .int .u16 (sd + 1), .int .u8 sy, .int .u8 ss, .bool sh, .int .u16 se] := pa.blk; have B1_a := pa.other _ _ _ n10 B1_x; have B2_a := pa.other _ _ _ n20 B2_x; have y_a := pa.size.trans y_x; have K_a := hid (pa.kept _ K_x.out le0); clear pa K_x B0_x B1_x B2_x c0_x c1_x y_x; have c0_a := blk_cell B0_a; have c1_a := blk_lt B1_a)
    | ((with_reducible refine at_st 5 ?_); refine wl_store rfl rfl rfl rfl B0_a (by kernel_rfl) rfl (Nat.le_of_ble_eq_true rfl) (fun vb pb => ?_); have B0_b : Blk vb w.heap.size 24 [.bool true, .int .u8 sl, .int .u16 (sd + 1), .int .u8 sy, .int .u8 ss, .bool sh, .int .u16 se] := pb.blk; have B1_b := pb.other _ _ _ n10 B1_a; have B2_b := pb.other _ _ _ n20 B2_a; have y_b := pb.size.trans y_a; have K_b := hid (pb.kept _ K_a.out le0); clear pb K_a B0_a B1_a B2_a c0_a c1_a y_a; have c0_b := blk_cell B0_b; have c1_b := blk_lt B1_b; have B3_n : Blk (vb.alloc (.cells ([.bool false, .bool false, .bool false] : List Value).toArray 31)) (w.heap.size + 1 + 1 + 1) 31 [.bool false, .bool false, .bool false] := (by have q := blk_new vb [.bool false, .bool false, .bool false] 31; rw [y_b] at q; exact q); have B0_n := blk_past B0_b (.cells ([.bool false, .bool false, .bool false] : List Value).toArray 31); have B1_n := blk_past B1_b (.cells ([.bool false, .bool false, .bool false] : List Value).toArray 31); have B2_n := blk_past B2_b (.cells ([.bool false, .bool false, .bool false] : List Value).toArray 31); have K_n := hid (K_b.out.alloc (.cells ([.bool false, .bool false, .bool false] : List Value).toArray 31)); clear B0_b B1_b B2_b K_b c0_b c1_b; have c0_n := blk_cell B0_n; have c1_n := blk_lt B1_n; have c3_n := blk_cell B3_n)
    | ((with_reducible refine at_st 31 ?_); refine wl_store rfl rfl rfl rfl B3_n (by kernel_rfl) rfl (Nat.le_of_ble_eq_true rfl) (fun vc pc => ?_); have B3_c : Blk vc (w.heap.size + 1 + 1 + 1) 31 [.bool false, .bool false, .bool false] := pc.blk; have B0_c := pc.other _ _ _ n03 B0_n; have B1_c := pc.other _ _ _ n13 B1_n; have B2_c := pc.other _ _ _ n23 B2_n; have K_c := hid (pc.kept _ K_n.out le3); clear pc K_n B0_n B1_n B2_n B3_n c0_n c1_n c3_n; have c0_c := blk_cell B0_c; have c1_c := blk_lt B1_c; have c3_c := blk_cell B3_c)
    | ((with_reducible refine at_st 4 ?_); refine wl_store rfl rfl rfl rfl B3_c (by kernel_rfl) rfl (Nat.le_of_ble_eq_true rfl) (fun vd pd => ?_); have B3_d : Blk vd (w.heap.size + 1 + 1 + 1) 31 [.bool false, .bool false, .bool true] := pd.blk; have B0_d := pd.other _ _ _ n03 B0_c; have B1_d := pd.other _ _ _ n13 B1_c; have B2_d := pd.other _ _ _ n23 B2_c; have K_d := hid (pd.kept _ K_c.out le3); clear pd K_c B0_c B1_c B2_c B3_c c0_c c1_c c3_c; have c0_d := blk_cell B0_d; have c1_d := blk_lt B1_d; have c3_d := blk_cell B3_d)
    | ((with_reducible refine at_st 22 ?_); refine wl_store rfl rfl rfl rfl B0_d (by kernel_rfl) rfl (Nat.le_of_ble_eq_true rfl) (fun ve pe => ?_); have B0_e : Blk ve w.heap.size 24 [.bool true, .int .u8 sl, .int .u16 (sd + 1), .int .u8 sy, .int .u8 ss, .bool sh, .int .u16 x] := pe.blk; have B1_e := pe.other _ _ _ n10 B1_d; have B2_e := pe.other _ _ _ n20 B2_d; have B3_e := pe.other _ _ _ n30 B3_d; have K_e := hid (pe.kept _ K_d.out le0); clear pe K_d B0_d B1_d B2_d B3_d c0_d c1_d c3_d; have c0_e := blk_cell B0_e; have c1_e := blk_lt B1_e; have c3_e := blk_cell B3_e)
    | ((with_reducible refine at_st 4 ?_); refine wl_store rfl rfl rfl rfl B3_e (by kernel_rfl) rfl (Nat.le_of_ble_eq_true rfl) (fun vg pg => ?_); have B3_g : Blk vg (w.heap.size + 1 + 1 + 1) 31 [.bool false, .bool false, .bool true] := pg.blk; have B0_g := pg.other _ _ _ n03 B0_e; have B1_g := pg.other _ _ _ n13 B1_e; have B2_g := pg.other _ _ _ n23 B2_e; have K_g := hid (pg.kept _ K_e.out le3); clear pg K_e B0_e B1_e B2_e B3_e c0_e c1_e c3_e; have c0_g := blk_cell B0_g; have c1_g := blk_lt B1_g; have c3_g := blk_cell B3_g))
  refine (HA.out _).mono ?_
  rintro e u1 ⟨rfl, k1⟩
  have B0_h := blk_kept k1 B0_g
  have B1_h := blk_kept k1 B1_g
  have B2_h := blk_kept k1 B2_g
  have B3_h := blk_kept k1 B3_g
  have K_h := hid (K_g.out.trans k1)
  clear k1 B0_g B1_g B2_g B3_g K_g c0_g c1_g c3_g
  have c0_h := blk_cell B0_h
  have c1_h := blk_lt B1_h
  have c3_h := blk_cell B3_h
  go_wp2_with (first
    | ((with_reducible refine at_st 24 ?_); refine wl_store rfl rfl rfl rfl B0_h (by kernel_rfl) rfl (Nat.le_of_ble_eq_true rfl) (fun vi pi => ?_); have B0_i : Blk vi w.heap.size 24 [.bool V2.on, .int .u8 V2.line, .int .u16 V2.dot, .int .u8 V2.lyc, .int .u8 V2.sel, .bool V2.high, .int .u16 V2.extra] := pi.blk; have B1_i := pi.other _ _ _ n10 B1_h; have B2_i := pi.other _ _ _ n20 B2_h; have B3_i := pi.other _ _ _ n30 B3_h; have K_i := hid (pi.kept _ K_h.out le0); clear pi K_h B0_h B1_h B2_h B3_h c0_h c1_h c3_h; have c0_i := blk_cell B0_i; have c1_i := blk_lt B1_i; have c3_i := blk_cell B3_i)
    | ((with_reducible refine at_st 4 ?_); refine wl_store rfl rfl rfl rfl B3_i (by kernel_rfl) rfl (Nat.le_of_ble_eq_true rfl) (fun vz pz => ?_); have B3_z : Blk vz (w.heap.size + 1 + 1 + 1) 31 [.bool false, .bool r, .bool true] := pz.blk; have B0_z := pz.other _ _ _ n03 B0_i; have B1_z := pz.other _ _ _ n13 B1_i; have B2_z := pz.other _ _ _ n23 B2_i; have K_z := hid (pz.kept _ K_i.out le3); clear pz K_i B0_i B1_i B2_i B3_i c0_i c1_i c3_i; have c0_z := blk_cell B0_z; have c1_z := blk_lt B1_z; have c3_z := blk_cell B3_z))
  have f1 := blk_froz B1_z
  have f2 := blk_froz B2_z
  have d1_z := blk_cell B1_z
  have d2_z := blk_cell B2_z
  have z2_z := blk_lt B2_z
  have Q1 : Put vz (w.heap.size + 1) 24 [.bool V2.on, .int .u8 V2.line, .int .u16 V2.dot, .int .u8 V2.lyc, .int .u8 V2.sel, .bool V2.high, .int .u16 V2.extra] (vz.setCells (w.heap.size + 1) 0 [.bool V2.on, .int .u8 V2.line, .int .u16 V2.dot, .int .u8 V2.lyc, .int .u8 V2.sel, .bool V2.high, .int .u16 V2.extra]) := put_of B1_z 0 [.bool V2.on, .int .u8 V2.line, .int .u16 V2.dot, .int .u8 V2.lyc, .int .u8 V2.sel, .bool V2.high, .int .u16 V2.extra] (Nat.le_of_ble_eq_true rfl)
  have Q2 : Put vz (w.heap.size + 1 + 1) 31 [.bool false, .bool r, .bool true] (vz.setCells (w.heap.size + 1 + 1) 0 [.bool false, .bool r, .bool true]) := put_of B2_z 0 [.bool false, .bool r, .bool true] (Nat.le_of_ble_eq_true rfl)
  have Q12 : Put (vz.setCells (w.heap.size + 1) 0 [.bool V2.on, .int .u8 V2.line, .int .u16 V2.dot, .int .u8 V2.lyc, .int .u8 V2.sel, .bool V2.high, .int .u16 V2.extra]) (w.heap.size + 1 + 1) 31 [.bool false, .bool r, .bool true] ((vz.setCells (w.heap.size + 1) 0 [.bool V2.on, .int .u8 V2.line, .int .u16 V2.dot, .int .u8 V2.lyc, .int .u8 V2.sel, .bool V2.high, .int .u16 V2.extra]).setCells (w.heap.size + 1 + 1) 0 [.bool false, .bool r, .bool true]) := put_of (Q1.other _ _ _ n21 B2_z) 0 [.bool false, .bool r, .bool true] (Nat.le_of_ble_eq_true rfl)
  have Q21 : Put (vz.setCells (w.heap.size + 1 + 1) 0 [.bool false, .bool r, .bool true]) (w.heap.size + 1) 24 [.bool V2.on, .int .u8 V2.line, .int .u16 V2.dot, .int .u8 V2.lyc, .int .u8 V2.sel, .bool V2.high, .int .u16 V2.extra] ((vz.setCells (w.heap.size + 1 + 1) 0 [.bool false, .bool r, .bool true]).setCells (w.heap.size + 1) 0 [.bool V2.on, .int .u8 V2.line, .int .u16 V2.dot, .int .u8 V2.lyc, .int .u8 V2.sel, .bool V2.high, .int .u16 V2.extra]) := put_of (Q2.other _ _ _ n12 B1_z) 0 [.bool V2.on, .int .u8 V2.line, .int .u16 V2.dot, .int .u8 V2.lyc, .int .u8 V2.sel, .bool V2.high, .int .u16 V2.extra] (Nat.le_of_ble_eq_true rfl)
  have R12 := hid (And.intro (Q12.other _ _ _ n12 Q1.blk) (And.intro Q12.blk (Q12.kept _ (Q1.kept _ K_z.out le1) le2)))
  have R21 := hid (And.intro Q21.blk (And.intro (Q21.other _ _ _ n21 Q2.blk) (Q21.kept _ (Q2.kept _ K_z.out le2) le1)))
  clear Q1 Q2 Q12 Q21
  go_region
  all_goals
    go_wp2_with fail
    first
    | (rw [← cells3, ← cells7]
       exact bodyPost_ret (res_two Try.results17 rfl rfl (blk_drew R12.out.1) (blk_drew R12.out.2.1) Try.underlying24 rfl (by kernel_rfl) Try.underlying31 rfl (by kernel_rfl)) rfl ⟨rfl, R12.out.2.2.drew⟩)
    | (rw [← cells7, ← cells3]
       exact bodyPost_ret (res_two Try.results17 rfl rfl (blk_drew R21.out.1) (blk_drew R21.out.2.1) Try.underlying24 rfl (by kernel_rfl) Try.underlying31 rfl (by kernel_rfl)) rfl ⟨rfl, R21.out.2.2.drew⟩)
set_option maxRecDepth 100000 in
set_option maxHeartbeats 4000000 in
theorem rstep15_Ae (l V2 : Lc) (x : Int) (r : Bool) (w : World) (I : LcIn l) (x0 : 0 ≤ x) (x1 : x ≤ 65535) (h : l.on = true) (a : l.dot < 455) (q : l.line < 144) (t : l.dot + 1 = 80) (hx : ¬ x ≤ 200) (HA : ∀ u, Calls Try.prog 30 #[lcV ⟨true, l.line, l.dot + 1, l.lyc, l.sel, l.high, 200⟩] u fun e w' => e = .returned (.tuple #[lcV V2, .bool r]) ∧ Kept u w') : Calls Try.prog 17 #[lcV l, .int .u16 x] w fun e w' => e = .returned (.tuple #[lcV V2, evV false r true]) ∧ Kept w w' := by
  have HA := hid HA
  obtain ⟨so, sl, sd, sy, ss, sh, se⟩ := l
  have l0 := I.l0
  have l1 := I.l1
  have d0 := I.d0
  have d1 := I.d1
  have y0 := I.y0
  have y1 := I.y1
  have s0 := I.s0
  have s1 := I.s1
  have e0 := I.e0
  have e1 := I.e1
  simp only at l0 l1 d0 d1 y0 y1 s0 s1 e0 e1
  try simp only at *
  subst h
  have a1 : decide (456 ≤ sd + 1) = false := decide_eq_false (by omega)
  have a2 : IntKind.u16.wrap (sd + 1) = sd + 1 := by rw [IntKind.wrap_u16]; omega
  have a3 : IntKind.u8.wrap sl = sl := by rw [IntKind.wrap_u8]; omega
  have a4 : IntKind.i64.wrap (sd + 1) = sd + 1 := by rw [IntKind.wrap_i64]; omega
  have a5 : decide (455 < sd + 1) = false := decide_eq_false (by omega)
  have a6 : decide (455 ≤ sd) = false := decide_eq_false (by omega)
  have b1 : decide (sl < 144) = true := decide_eq_true q
  have b2 : (sl == 144) = false := by simp; omega
  have b3 : (sd + 1 == 80) = true := by simpa using t
  clear t
  have b4 : (sd + 1 == 0) = false := by simp; omega
  have b5 : decide (200 < x) = true := decide_eq_true (by omega)
  clear I
  have n01 : w.heap.size ≠ (w.heap.size + 1) := by omega
  have n02 : w.heap.size ≠ (w.heap.size + 1 + 1) := by omega
  have n03 : w.heap.size ≠ (w.heap.size + 1 + 1 + 1) := by omega
  have n10 : (w.heap.size + 1) ≠ w.heap.size := by omega
  have n12 : (w.heap.size + 1) ≠ (w.heap.size + 1 + 1) := by omega
  have n13 : (w.heap.size + 1) ≠ (w.heap.size + 1 + 1 + 1) := by omega
  have n20 : (w.heap.size + 1 + 1) ≠ w.heap.size := by omega
  have n21 : (w.heap.size + 1 + 1) ≠ (w.heap.size + 1) := by omega
  have n23 : (w.heap.size + 1 + 1) ≠ (w.heap.size + 1 + 1 + 1) := by omega
  have n30 : (w.heap.size + 1 + 1 + 1) ≠ w.heap.size := by omega
  have n31 : (w.heap.size + 1 + 1 + 1) ≠ (w.heap.size + 1) := by omega
  have n32 : (w.heap.size + 1 + 1 + 1) ≠ (w.heap.size + 1 + 1) := by omega
  have le0 : w.heap.size ≤ w.heap.size := by omega
  have le1 : w.heap.size ≤ (w.heap.size + 1) := by omega
  have le2 : w.heap.size ≤ (w.heap.size + 1 + 1) := by omega
  have le3 : w.heap.size ≤ (w.heap.size + 1 + 1 + 1) := by omega
  have B0_x : Blk (((w.alloc (.cells ([.bool true, .int .u8 sl, .int .u16 sd, .int .u8 sy, .int .u8 ss, .bool sh, .int .u16 se] : List Value).toArray 24)).alloc (.cells ([.bool false, .int .u8 0, .int .u16 0, .int .u8 0, .int .u8 0, .bool false, .int .u16 0] : List Value).toArray 24)).alloc (.cells ([.bool false, .bool false, .bool false] : List Value).toArray 31)) w.heap.size 24 [.bool true, .int .u8 sl, .int .u16 sd, .int .u8 sy, .int .u8 ss, .bool sh, .int .u16 se] := blk_past (blk_past (blk_new w _ _) _) _
  have B1_x : Blk (((w.alloc (.cells ([.bool true, .int .u8 sl, .int .u16 sd, .int .u8 sy, .int .u8 ss, .bool sh, .int .u16 se] : List Value).toArray 24)).alloc (.cells ([.bool false, .int .u8 0, .int .u16 0, .int .u8 0, .int .u8 0, .bool false, .int .u16 0] : List Value).toArray 24)).alloc (.cells ([.bool false, .bool false, .bool false] : List Value).toArray 31)) (w.heap.size + 1) 24 [.bool false, .int .u8 0, .int .u16 0, .int .u8 0, .int .u8 0, .bool false, .int .u16 0] := by have q := blk_new (w.alloc (.cells ([.bool true, .int .u8 sl, .int .u16 sd, .int .u8 sy, .int .u8 ss, .bool sh, .int .u16 se] : List Value).toArray 24)) [.bool false, .int .u8 0, .int .u16 0, .int .u8 0, .int .u8 0, .bool false, .int .u16 0] 24; rw [World.size_alloc] at q; exact blk_past q _
  have B2_x : Blk (((w.alloc (.cells ([.bool true, .int .u8 sl, .int .u16 sd, .int .u8 sy, .int .u8 ss, .bool sh, .int .u16 se] : List Value).toArray 24)).alloc (.cells ([.bool false, .int .u8 0, .int .u16 0, .int .u8 0, .int .u8 0, .bool false, .int .u16 0] : List Value).toArray 24)).alloc (.cells ([.bool false, .bool false, .bool false] : List Value).toArray 31)) (w.heap.size + 1 + 1) 31 [.bool false, .bool false, .bool false] := by have q := blk_new ((w.alloc (.cells ([.bool true, .int .u8 sl, .int .u16 sd, .int .u8 sy, .int .u8 ss, .bool sh, .int .u16 se] : List Value).toArray 24)).alloc (.cells ([.bool false, .int .u8 0, .int .u16 0, .int .u8 0, .int .u8 0, .bool false, .int .u16 0] : List Value).toArray 24)) [.bool false, .bool false, .bool false] 31; rw [World.size_alloc, World.size_alloc] at q; exact q
  have y_x : (((w.alloc (.cells ([.bool true, .int .u8 sl, .int .u16 sd, .int .u8 sy, .int .u8 ss, .bool sh, .int .u16 se] : List Value).toArray 24)).alloc (.cells ([.bool false, .int .u8 0, .int .u16 0, .int .u8 0, .int .u8 0, .bool false, .int .u16 0] : List Value).toArray 24)).alloc (.cells ([.bool false, .bool false, .bool false] : List Value).toArray 31)).heap.size = (w.heap.size + 1 + 1 + 1) := by rw [World.size_alloc, World.size_alloc, World.size_alloc]
  have K_x := hid ((((Kept.refl w).alloc (.cells ([.bool true, .int .u8 sl, .int .u16 sd, .int .u8 sy, .int .u8 ss, .bool sh, .int .u16 se] : List Value).toArray 24)).alloc (.cells ([.bool false, .int .u8 0, .int .u16 0, .int .u8 0, .int .u8 0, .bool false, .int .u16 0] : List Value).toArray 24)).alloc (.cells ([.bool false, .bool false, .bool false] : List Value).toArray 31))
  have c0_x := True.intro
  have c1_x := True.intro
  go_enter Try.func17, Try.ntmps17
  go_wp2_with (first
    | ((with_reducible refine at_st 22 ?_); refine wl_store rfl rfl rfl rfl B0_x (by kernel_rfl) rfl (Nat.le_of_ble_eq_true rfl) (fun va pa => ?_); have B0_a : Blk va w.heap.size 24 [.bool true, .int .u8 sl, .int .u16 (sd + 1), .int .u8 sy, .int .u8 ss, .bool sh, .int .u16 se] := pa.blk; have B1_a := pa.other _ _ _ n10 B1_x; have B2_a := pa.other _ _ _ n20 B2_x; have y_a := pa.size.trans y_x; have K_a := hid (pa.kept _ K_x.out le0); clear pa K_x B0_x B1_x B2_x c0_x c1_x y_x; have c0_a := blk_cell B0_a; have c1_a := blk_lt B1_a)
    | ((with_reducible refine at_st 5 ?_); refine wl_store rfl rfl rfl rfl B0_a (by kernel_rfl) rfl (Nat.le_of_ble_eq_true rfl) (fun vb pb => ?_); have B0_b : Blk vb w.heap.size 24 [.bool true, .int .u8 sl, .int .u16 (sd + 1), .int .u8 sy, .int .u8 ss, .bool sh, .int .u16 se] := pb.blk; have B1_b := pb.other _ _ _ n10 B1_a; have B2_b := pb.other _ _ _ n20 B2_a; have y_b := pb.size.trans y_a; have K_b := hid (pb.kept _ K_a.out le0); clear pb K_a B0_a B1_a B2_a c0_a c1_a y_a; have c0_b := blk_cell B0_b; have c1_b := blk_lt B1_b; have B3_n : Blk (vb.alloc (.cells ([.bool false, .bool false, .bool false] : List Value).toArray 31)) (w.heap.size + 1 + 1 + 1) 31 [.bool false, .bool false, .bool false] := (by have q := blk_new vb [.bool false, .bool false, .bool false] 31; rw [y_b] at q; exact q); have B0_n := blk_past B0_b (.cells ([.bool false, .bool false, .bool false] : List Value).toArray 31); have B1_n := blk_past B1_b (.cells ([.bool false, .bool false, .bool false] : List Value).toArray 31); have B2_n := blk_past B2_b (.cells ([.bool false, .bool false, .bool false] : List Value).toArray 31); have K_n := hid (K_b.out.alloc (.cells ([.bool false, .bool false, .bool false] : List Value).toArray 31)); clear B0_b B1_b B2_b K_b c0_b c1_b; have c0_n := blk_cell B0_n; have c1_n := blk_lt B1_n; have c3_n := blk_cell B3_n)
    | ((with_reducible refine at_st 31 ?_); refine wl_store rfl rfl rfl rfl B3_n (by kernel_rfl) rfl (Nat.le_of_ble_eq_true rfl) (fun vc pc => ?_); have B3_c : Blk vc (w.heap.size + 1 + 1 + 1) 31 [.bool false, .bool false, .bool false] := pc.blk; have B0_c := pc.other _ _ _ n03 B0_n; have B1_c := pc.other _ _ _ n13 B1_n; have B2_c := pc.other _ _ _ n23 B2_n; have K_c := hid (pc.kept _ K_n.out le3); clear pc K_n B0_n B1_n B2_n B3_n c0_n c1_n c3_n; have c0_c := blk_cell B0_c; have c1_c := blk_lt B1_c; have c3_c := blk_cell B3_c)
    | ((with_reducible refine at_st 4 ?_); refine wl_store rfl rfl rfl rfl B3_c (by kernel_rfl) rfl (Nat.le_of_ble_eq_true rfl) (fun vd pd => ?_); have B3_d : Blk vd (w.heap.size + 1 + 1 + 1) 31 [.bool false, .bool false, .bool true] := pd.blk; have B0_d := pd.other _ _ _ n03 B0_c; have B1_d := pd.other _ _ _ n13 B1_c; have B2_d := pd.other _ _ _ n23 B2_c; have K_d := hid (pd.kept _ K_c.out le3); clear pd K_c B0_c B1_c B2_c B3_c c0_c c1_c c3_c; have c0_d := blk_cell B0_d; have c1_d := blk_lt B1_d; have c3_d := blk_cell B3_d)
    | ((with_reducible refine at_st 22 ?_); refine wl_store rfl rfl rfl rfl B0_d (by kernel_rfl) rfl (Nat.le_of_ble_eq_true rfl) (fun ve pe => ?_); have B0_e : Blk ve w.heap.size 24 [.bool true, .int .u8 sl, .int .u16 (sd + 1), .int .u8 sy, .int .u8 ss, .bool sh, .int .u16 x] := pe.blk; have B1_e := pe.other _ _ _ n10 B1_d; have B2_e := pe.other _ _ _ n20 B2_d; have B3_e := pe.other _ _ _ n30 B3_d; have K_e := hid (pe.kept _ K_d.out le0); clear pe K_d B0_d B1_d B2_d B3_d c0_d c1_d c3_d; have c0_e := blk_cell B0_e; have c1_e := blk_lt B1_e; have c3_e := blk_cell B3_e)
    | ((with_reducible refine at_st 22 ?_); refine wl_store rfl rfl rfl rfl B0_e (by kernel_rfl) rfl (Nat.le_of_ble_eq_true rfl) (fun vf pf => ?_); have B0_f : Blk vf w.heap.size 24 [.bool true, .int .u8 sl, .int .u16 (sd + 1), .int .u8 sy, .int .u8 ss, .bool sh, .int .u16 200] := pf.blk; have B1_f := pf.other _ _ _ n10 B1_e; have B2_f := pf.other _ _ _ n20 B2_e; have B3_f := pf.other _ _ _ n30 B3_e; have K_f := hid (pf.kept _ K_e.out le0); clear pf K_e B0_e B1_e B2_e B3_e c0_e c1_e c3_e; have c0_f := blk_cell B0_f; have c1_f := blk_lt B1_f; have c3_f := blk_cell B3_f)
    | ((with_reducible refine at_st 4 ?_); refine wl_store rfl rfl rfl rfl B3_f (by kernel_rfl) rfl (Nat.le_of_ble_eq_true rfl) (fun vg pg => ?_); have B3_g : Blk vg (w.heap.size + 1 + 1 + 1) 31 [.bool false, .bool false, .bool true] := pg.blk; have B0_g := pg.other _ _ _ n03 B0_f; have B1_g := pg.other _ _ _ n13 B1_f; have B2_g := pg.other _ _ _ n23 B2_f; have K_g := hid (pg.kept _ K_f.out le3); clear pg K_f B0_f B1_f B2_f B3_f c0_f c1_f c3_f; have c0_g := blk_cell B0_g; have c1_g := blk_lt B1_g; have c3_g := blk_cell B3_g))
  refine (HA.out _).mono ?_
  rintro e u1 ⟨rfl, k1⟩
  have B0_h := blk_kept k1 B0_g
  have B1_h := blk_kept k1 B1_g
  have B2_h := blk_kept k1 B2_g
  have B3_h := blk_kept k1 B3_g
  have K_h := hid (K_g.out.trans k1)
  clear k1 B0_g B1_g B2_g B3_g K_g c0_g c1_g c3_g
  have c0_h := blk_cell B0_h
  have c1_h := blk_lt B1_h
  have c3_h := blk_cell B3_h
  go_wp2_with (first
    | ((with_reducible refine at_st 24 ?_); refine wl_store rfl rfl rfl rfl B0_h (by kernel_rfl) rfl (Nat.le_of_ble_eq_true rfl) (fun vi pi => ?_); have B0_i : Blk vi w.heap.size 24 [.bool V2.on, .int .u8 V2.line, .int .u16 V2.dot, .int .u8 V2.lyc, .int .u8 V2.sel, .bool V2.high, .int .u16 V2.extra] := pi.blk; have B1_i := pi.other _ _ _ n10 B1_h; have B2_i := pi.other _ _ _ n20 B2_h; have B3_i := pi.other _ _ _ n30 B3_h; have K_i := hid (pi.kept _ K_h.out le0); clear pi K_h B0_h B1_h B2_h B3_h c0_h c1_h c3_h; have c0_i := blk_cell B0_i; have c1_i := blk_lt B1_i; have c3_i := blk_cell B3_i)
    | ((with_reducible refine at_st 4 ?_); refine wl_store rfl rfl rfl rfl B3_i (by kernel_rfl) rfl (Nat.le_of_ble_eq_true rfl) (fun vz pz => ?_); have B3_z : Blk vz (w.heap.size + 1 + 1 + 1) 31 [.bool false, .bool r, .bool true] := pz.blk; have B0_z := pz.other _ _ _ n03 B0_i; have B1_z := pz.other _ _ _ n13 B1_i; have B2_z := pz.other _ _ _ n23 B2_i; have K_z := hid (pz.kept _ K_i.out le3); clear pz K_i B0_i B1_i B2_i B3_i c0_i c1_i c3_i; have c0_z := blk_cell B0_z; have c1_z := blk_lt B1_z; have c3_z := blk_cell B3_z))
  have f1 := blk_froz B1_z
  have f2 := blk_froz B2_z
  have d1_z := blk_cell B1_z
  have d2_z := blk_cell B2_z
  have z2_z := blk_lt B2_z
  have Q1 : Put vz (w.heap.size + 1) 24 [.bool V2.on, .int .u8 V2.line, .int .u16 V2.dot, .int .u8 V2.lyc, .int .u8 V2.sel, .bool V2.high, .int .u16 V2.extra] (vz.setCells (w.heap.size + 1) 0 [.bool V2.on, .int .u8 V2.line, .int .u16 V2.dot, .int .u8 V2.lyc, .int .u8 V2.sel, .bool V2.high, .int .u16 V2.extra]) := put_of B1_z 0 [.bool V2.on, .int .u8 V2.line, .int .u16 V2.dot, .int .u8 V2.lyc, .int .u8 V2.sel, .bool V2.high, .int .u16 V2.extra] (Nat.le_of_ble_eq_true rfl)
  have Q2 : Put vz (w.heap.size + 1 + 1) 31 [.bool false, .bool r, .bool true] (vz.setCells (w.heap.size + 1 + 1) 0 [.bool false, .bool r, .bool true]) := put_of B2_z 0 [.bool false, .bool r, .bool true] (Nat.le_of_ble_eq_true rfl)
  have Q12 : Put (vz.setCells (w.heap.size + 1) 0 [.bool V2.on, .int .u8 V2.line, .int .u16 V2.dot, .int .u8 V2.lyc, .int .u8 V2.sel, .bool V2.high, .int .u16 V2.extra]) (w.heap.size + 1 + 1) 31 [.bool false, .bool r, .bool true] ((vz.setCells (w.heap.size + 1) 0 [.bool V2.on, .int .u8 V2.line, .int .u16 V2.dot, .int .u8 V2.lyc, .int .u8 V2.sel, .bool V2.high, .int .u16 V2.extra]).setCells (w.heap.size + 1 + 1) 0 [.bool false, .bool r, .bool true]) := put_of (Q1.other _ _ _ n21 B2_z) 0 [.bool false, .bool r, .bool true] (Nat.le_of_ble_eq_true rfl)
  have Q21 : Put (vz.setCells (w.heap.size + 1 + 1) 0 [.bool false, .bool r, .bool true]) (w.heap.size + 1) 24 [.bool V2.on, .int .u8 V2.line, .int .u16 V2.dot, .int .u8 V2.lyc, .int .u8 V2.sel, .bool V2.high, .int .u16 V2.extra] ((vz.setCells (w.heap.size + 1 + 1) 0 [.bool false, .bool r, .bool true]).setCells (w.heap.size + 1) 0 [.bool V2.on, .int .u8 V2.line, .int .u16 V2.dot, .int .u8 V2.lyc, .int .u8 V2.sel, .bool V2.high, .int .u16 V2.extra]) := put_of (Q2.other _ _ _ n12 B1_z) 0 [.bool V2.on, .int .u8 V2.line, .int .u16 V2.dot, .int .u8 V2.lyc, .int .u8 V2.sel, .bool V2.high, .int .u16 V2.extra] (Nat.le_of_ble_eq_true rfl)
  have R12 := hid (And.intro (Q12.other _ _ _ n12 Q1.blk) (And.intro Q12.blk (Q12.kept _ (Q1.kept _ K_z.out le1) le2)))
  have R21 := hid (And.intro Q21.blk (And.intro (Q21.other _ _ _ n21 Q2.blk) (Q21.kept _ (Q2.kept _ K_z.out le2) le1)))
  clear Q1 Q2 Q12 Q21
  go_region
  all_goals
    go_wp2_with fail
    first
    | (rw [← cells3, ← cells7]
       exact bodyPost_ret (res_two Try.results17 rfl rfl (blk_drew R12.out.1) (blk_drew R12.out.2.1) Try.underlying24 rfl (by kernel_rfl) Try.underlying31 rfl (by kernel_rfl)) rfl ⟨rfl, R12.out.2.2.drew⟩)
    | (rw [← cells7, ← cells3]
       exact bodyPost_ret (res_two Try.results17 rfl rfl (blk_drew R21.out.1) (blk_drew R21.out.2.1) Try.underlying24 rfl (by kernel_rfl) Try.underlying31 rfl (by kernel_rfl)) rfl ⟨rfl, R21.out.2.2.drew⟩)
set_option maxRecDepth 100000 in
set_option maxHeartbeats 4000000 in
theorem rstep15_An (l V2 : Lc) (x : Int) (r : Bool) (w : World) (I : LcIn l) (x0 : 0 ≤ x) (x1 : x ≤ 65535) (h : l.on = true) (a : l.dot < 455) (q : l.line < 144) (t : l.dot + 1 ≠ 80) (HA : ∀ u, Calls Try.prog 30 #[lcV ⟨true, l.line, l.dot + 1, l.lyc, l.sel, l.high, l.extra⟩] u fun e w' => e = .returned (.tuple #[lcV V2, .bool r]) ∧ Kept u w') : Calls Try.prog 17 #[lcV l, .int .u16 x] w fun e w' => e = .returned (.tuple #[lcV V2, evV false r false]) ∧ Kept w w' := by
  have HA := hid HA
  obtain ⟨so, sl, sd, sy, ss, sh, se⟩ := l
  have l0 := I.l0
  have l1 := I.l1
  have d0 := I.d0
  have d1 := I.d1
  have y0 := I.y0
  have y1 := I.y1
  have s0 := I.s0
  have s1 := I.s1
  have e0 := I.e0
  have e1 := I.e1
  simp only at l0 l1 d0 d1 y0 y1 s0 s1 e0 e1
  try simp only at *
  subst h
  have a1 : decide (456 ≤ sd + 1) = false := decide_eq_false (by omega)
  have a2 : IntKind.u16.wrap (sd + 1) = sd + 1 := by rw [IntKind.wrap_u16]; omega
  have a3 : IntKind.u8.wrap sl = sl := by rw [IntKind.wrap_u8]; omega
  have a4 : IntKind.i64.wrap (sd + 1) = sd + 1 := by rw [IntKind.wrap_i64]; omega
  have a5 : decide (455 < sd + 1) = false := decide_eq_false (by omega)
  have a6 : decide (455 ≤ sd) = false := decide_eq_false (by omega)
  have b1 : decide (sl < 144) = true := decide_eq_true q
  have b2 : (sl == 144) = false := by simp; omega
  have b3 : (sd + 1 == 80) = false := by simpa using t
  clear t
  have b4 : (sd + 1 == 0) = false := by simp; omega
  clear I
  have n01 : w.heap.size ≠ (w.heap.size + 1) := by omega
  have n02 : w.heap.size ≠ (w.heap.size + 1 + 1) := by omega
  have n03 : w.heap.size ≠ (w.heap.size + 1 + 1 + 1) := by omega
  have n10 : (w.heap.size + 1) ≠ w.heap.size := by omega
  have n12 : (w.heap.size + 1) ≠ (w.heap.size + 1 + 1) := by omega
  have n13 : (w.heap.size + 1) ≠ (w.heap.size + 1 + 1 + 1) := by omega
  have n20 : (w.heap.size + 1 + 1) ≠ w.heap.size := by omega
  have n21 : (w.heap.size + 1 + 1) ≠ (w.heap.size + 1) := by omega
  have n23 : (w.heap.size + 1 + 1) ≠ (w.heap.size + 1 + 1 + 1) := by omega
  have n30 : (w.heap.size + 1 + 1 + 1) ≠ w.heap.size := by omega
  have n31 : (w.heap.size + 1 + 1 + 1) ≠ (w.heap.size + 1) := by omega
  have n32 : (w.heap.size + 1 + 1 + 1) ≠ (w.heap.size + 1 + 1) := by omega
  have le0 : w.heap.size ≤ w.heap.size := by omega
  have le1 : w.heap.size ≤ (w.heap.size + 1) := by omega
  have le2 : w.heap.size ≤ (w.heap.size + 1 + 1) := by omega
  have le3 : w.heap.size ≤ (w.heap.size + 1 + 1 + 1) := by omega
  have B0_x : Blk (((w.alloc (.cells ([.bool true, .int .u8 sl, .int .u16 sd, .int .u8 sy, .int .u8 ss, .bool sh, .int .u16 se] : List Value).toArray 24)).alloc (.cells ([.bool false, .int .u8 0, .int .u16 0, .int .u8 0, .int .u8 0, .bool false, .int .u16 0] : List Value).toArray 24)).alloc (.cells ([.bool false, .bool false, .bool false] : List Value).toArray 31)) w.heap.size 24 [.bool true, .int .u8 sl, .int .u16 sd, .int .u8 sy, .int .u8 ss, .bool sh, .int .u16 se] := blk_past (blk_past (blk_new w _ _) _) _
  have B1_x : Blk (((w.alloc (.cells ([.bool true, .int .u8 sl, .int .u16 sd, .int .u8 sy, .int .u8 ss, .bool sh, .int .u16 se] : List Value).toArray 24)).alloc (.cells ([.bool false, .int .u8 0, .int .u16 0, .int .u8 0, .int .u8 0, .bool false, .int .u16 0] : List Value).toArray 24)).alloc (.cells ([.bool false, .bool false, .bool false] : List Value).toArray 31)) (w.heap.size + 1) 24 [.bool false, .int .u8 0, .int .u16 0, .int .u8 0, .int .u8 0, .bool false, .int .u16 0] := by have q := blk_new (w.alloc (.cells ([.bool true, .int .u8 sl, .int .u16 sd, .int .u8 sy, .int .u8 ss, .bool sh, .int .u16 se] : List Value).toArray 24)) [.bool false, .int .u8 0, .int .u16 0, .int .u8 0, .int .u8 0, .bool false, .int .u16 0] 24; rw [World.size_alloc] at q; exact blk_past q _
  have B2_x : Blk (((w.alloc (.cells ([.bool true, .int .u8 sl, .int .u16 sd, .int .u8 sy, .int .u8 ss, .bool sh, .int .u16 se] : List Value).toArray 24)).alloc (.cells ([.bool false, .int .u8 0, .int .u16 0, .int .u8 0, .int .u8 0, .bool false, .int .u16 0] : List Value).toArray 24)).alloc (.cells ([.bool false, .bool false, .bool false] : List Value).toArray 31)) (w.heap.size + 1 + 1) 31 [.bool false, .bool false, .bool false] := by have q := blk_new ((w.alloc (.cells ([.bool true, .int .u8 sl, .int .u16 sd, .int .u8 sy, .int .u8 ss, .bool sh, .int .u16 se] : List Value).toArray 24)).alloc (.cells ([.bool false, .int .u8 0, .int .u16 0, .int .u8 0, .int .u8 0, .bool false, .int .u16 0] : List Value).toArray 24)) [.bool false, .bool false, .bool false] 31; rw [World.size_alloc, World.size_alloc] at q; exact q
  have y_x : (((w.alloc (.cells ([.bool true, .int .u8 sl, .int .u16 sd, .int .u8 sy, .int .u8 ss, .bool sh, .int .u16 se] : List Value).toArray 24)).alloc (.cells ([.bool false, .int .u8 0, .int .u16 0, .int .u8 0, .int .u8 0, .bool false, .int .u16 0] : List Value).toArray 24)).alloc (.cells ([.bool false, .bool false, .bool false] : List Value).toArray 31)).heap.size = (w.heap.size + 1 + 1 + 1) := by rw [World.size_alloc, World.size_alloc, World.size_alloc]
  have K_x := hid ((((Kept.refl w).alloc (.cells ([.bool true, .int .u8 sl, .int .u16 sd, .int .u8 sy, .int .u8 ss, .bool sh, .int .u16 se] : List Value).toArray 24)).alloc (.cells ([.bool false, .int .u8 0, .int .u16 0, .int .u8 0, .int .u8 0, .bool false, .int .u16 0] : List Value).toArray 24)).alloc (.cells ([.bool false, .bool false, .bool false] : List Value).toArray 31))
  have c0_x := True.intro
  have c1_x := True.intro
  go_enter Try.func17, Try.ntmps17
  go_wp2_with (first
    | ((with_reducible refine at_st 22 ?_); refine wl_store rfl rfl rfl rfl B0_x (by kernel_rfl) rfl (Nat.le_of_ble_eq_true rfl) (fun va pa => ?_); have B0_a : Blk va w.heap.size 24 [.bool true, .int .u8 sl, .int .u16 (sd + 1), .int .u8 sy, .int .u8 ss, .bool sh, .int .u16 se] := pa.blk; have B1_a := pa.other _ _ _ n10 B1_x; have B2_a := pa.other _ _ _ n20 B2_x; have y_a := pa.size.trans y_x; have K_a := hid (pa.kept _ K_x.out le0); clear pa K_x B0_x B1_x B2_x c0_x c1_x y_x; have c0_a := blk_cell B0_a; have c1_a := blk_lt B1_a)
    | ((with_reducible refine at_st 5 ?_); refine wl_store rfl rfl rfl rfl B0_a (by kernel_rfl) rfl (Nat.le_of_ble_eq_true rfl) (fun vb pb => ?_); have B0_b : Blk vb w.heap.size 24 [.bool true, .int .u8 sl, .int .u16 (sd + 1), .int .u8 sy, .int .u8 ss, .bool sh, .int .u16 se] := pb.blk; have B1_b := pb.other _ _ _ n10 B1_a; have B2_b := pb.other _ _ _ n20 B2_a; have y_b := pb.size.trans y_a; have K_b := hid (pb.kept _ K_a.out le0); clear pb K_a B0_a B1_a B2_a c0_a c1_a y_a; have c0_b := blk_cell B0_b; have c1_b := blk_lt B1_b; have B3_n : Blk (vb.alloc (.cells ([.bool false, .bool false, .bool false] : List Value).toArray 31)) (w.heap.size + 1 + 1 + 1) 31 [.bool false, .bool false, .bool false] := (by have q := blk_new vb [.bool false, .bool false, .bool false] 31; rw [y_b] at q; exact q); have B0_n := blk_past B0_b (.cells ([.bool false, .bool false, .bool false] : List Value).toArray 31); have B1_n := blk_past B1_b (.cells ([.bool false, .bool false, .bool false] : List Value).toArray 31); have B2_n := blk_past B2_b (.cells ([.bool false, .bool false, .bool false] : List Value).toArray 31); have K_n := hid (K_b.out.alloc (.cells ([.bool false, .bool false, .bool false] : List Value).toArray 31)); clear B0_b B1_b B2_b K_b c0_b c1_b; have c0_n := blk_cell B0_n; have c1_n := blk_lt B1_n; have c3_n := blk_cell B3_n)
    | ((with_reducible refine at_st 31 ?_); refine wl_store rfl rfl rfl rfl B3_n (by kernel_rfl) rfl (Nat.le_of_ble_eq_true rfl) (fun vc pc => ?_); have B3_c : Blk vc (w.heap.size + 1 + 1 + 1) 31 [.bool false, .bool false, .bool false] := pc.blk; have B0_c := pc.other _ _ _ n03 B0_n; have B1_c := pc.other _ _ _ n13 B1_n; have B2_c := pc.other _ _ _ n23 B2_n; have K_c := hid (pc.kept _ K_n.out le3); clear pc K_n B0_n B1_n B2_n B3_n c0_n c1_n c3_n; have c0_c := blk_cell B0_c; have c1_c := blk_lt B1_c; have c3_c := blk_cell B3_c)
    | ((with_reducible refine at_st 4 ?_); refine wl_store rfl rfl rfl rfl B3_c (by kernel_rfl) rfl (Nat.le_of_ble_eq_true rfl) (fun vg pg => ?_); have B3_g : Blk vg (w.heap.size + 1 + 1 + 1) 31 [.bool false, .bool false, .bool false] := pg.blk; have B0_g := pg.other _ _ _ n03 B0_c; have B1_g := pg.other _ _ _ n13 B1_c; have B2_g := pg.other _ _ _ n23 B2_c; have K_g := hid (pg.kept _ K_c.out le3); clear pg K_c B0_c B1_c B2_c B3_c c0_c c1_c c3_c; have c0_g := blk_cell B0_g; have c1_g := blk_lt B1_g; have c3_g := blk_cell B3_g))
  refine (HA.out _).mono ?_
  rintro e u1 ⟨rfl, k1⟩
  have B0_h := blk_kept k1 B0_g
  have B1_h := blk_kept k1 B1_g
  have B2_h := blk_kept k1 B2_g
  have B3_h := blk_kept k1 B3_g
  have K_h := hid (K_g.out.trans k1)
  clear k1 B0_g B1_g B2_g B3_g K_g c0_g c1_g c3_g
  have c0_h := blk_cell B0_h
  have c1_h := blk_lt B1_h
  have c3_h := blk_cell B3_h
  go_wp2_with (first
    | ((with_reducible refine at_st 24 ?_); refine wl_store rfl rfl rfl rfl B0_h (by kernel_rfl) rfl (Nat.le_of_ble_eq_true rfl) (fun vi pi => ?_); have B0_i : Blk vi w.heap.size 24 [.bool V2.on, .int .u8 V2.line, .int .u16 V2.dot, .int .u8 V2.lyc, .int .u8 V2.sel, .bool V2.high, .int .u16 V2.extra] := pi.blk; have B1_i := pi.other _ _ _ n10 B1_h; have B2_i := pi.other _ _ _ n20 B2_h; have B3_i := pi.other _ _ _ n30 B3_h; have K_i := hid (pi.kept _ K_h.out le0); clear pi K_h B0_h B1_h B2_h B3_h c0_h c1_h c3_h; have c0_i := blk_cell B0_i; have c1_i := blk_lt B1_i; have c3_i := blk_cell B3_i)
    | ((with_reducible refine at_st 4 ?_); refine wl_store rfl rfl rfl rfl B3_i (by kernel_rfl) rfl (Nat.le_of_ble_eq_true rfl) (fun vz pz => ?_); have B3_z : Blk vz (w.heap.size + 1 + 1 + 1) 31 [.bool false, .bool r, .bool false] := pz.blk; have B0_z := pz.other _ _ _ n03 B0_i; have B1_z := pz.other _ _ _ n13 B1_i; have B2_z := pz.other _ _ _ n23 B2_i; have K_z := hid (pz.kept _ K_i.out le3); clear pz K_i B0_i B1_i B2_i B3_i c0_i c1_i c3_i; have c0_z := blk_cell B0_z; have c1_z := blk_lt B1_z; have c3_z := blk_cell B3_z))
  have f1 := blk_froz B1_z
  have f2 := blk_froz B2_z
  have d1_z := blk_cell B1_z
  have d2_z := blk_cell B2_z
  have z2_z := blk_lt B2_z
  have Q1 : Put vz (w.heap.size + 1) 24 [.bool V2.on, .int .u8 V2.line, .int .u16 V2.dot, .int .u8 V2.lyc, .int .u8 V2.sel, .bool V2.high, .int .u16 V2.extra] (vz.setCells (w.heap.size + 1) 0 [.bool V2.on, .int .u8 V2.line, .int .u16 V2.dot, .int .u8 V2.lyc, .int .u8 V2.sel, .bool V2.high, .int .u16 V2.extra]) := put_of B1_z 0 [.bool V2.on, .int .u8 V2.line, .int .u16 V2.dot, .int .u8 V2.lyc, .int .u8 V2.sel, .bool V2.high, .int .u16 V2.extra] (Nat.le_of_ble_eq_true rfl)
  have Q2 : Put vz (w.heap.size + 1 + 1) 31 [.bool false, .bool r, .bool false] (vz.setCells (w.heap.size + 1 + 1) 0 [.bool false, .bool r, .bool false]) := put_of B2_z 0 [.bool false, .bool r, .bool false] (Nat.le_of_ble_eq_true rfl)
  have Q12 : Put (vz.setCells (w.heap.size + 1) 0 [.bool V2.on, .int .u8 V2.line, .int .u16 V2.dot, .int .u8 V2.lyc, .int .u8 V2.sel, .bool V2.high, .int .u16 V2.extra]) (w.heap.size + 1 + 1) 31 [.bool false, .bool r, .bool false] ((vz.setCells (w.heap.size + 1) 0 [.bool V2.on, .int .u8 V2.line, .int .u16 V2.dot, .int .u8 V2.lyc, .int .u8 V2.sel, .bool V2.high, .int .u16 V2.extra]).setCells (w.heap.size + 1 + 1) 0 [.bool false, .bool r, .bool false]) := put_of (Q1.other _ _ _ n21 B2_z) 0 [.bool false, .bool r, .bool false] (Nat.le_of_ble_eq_true rfl)
  have Q21 : Put (vz.setCells (w.heap.size + 1 + 1) 0 [.bool false, .bool r, .bool false]) (w.heap.size + 1) 24 [.bool V2.on, .int .u8 V2.line, .int .u16 V2.dot, .int .u8 V2.lyc, .int .u8 V2.sel, .bool V2.high, .int .u16 V2.extra] ((vz.setCells (w.heap.size + 1 + 1) 0 [.bool false, .bool r, .bool false]).setCells (w.heap.size + 1) 0 [.bool V2.on, .int .u8 V2.line, .int .u16 V2.dot, .int .u8 V2.lyc, .int .u8 V2.sel, .bool V2.high, .int .u16 V2.extra]) := put_of (Q2.other _ _ _ n12 B1_z) 0 [.bool V2.on, .int .u8 V2.line, .int .u16 V2.dot, .int .u8 V2.lyc, .int .u8 V2.sel, .bool V2.high, .int .u16 V2.extra] (Nat.le_of_ble_eq_true rfl)
  have R12 := hid (And.intro (Q12.other _ _ _ n12 Q1.blk) (And.intro Q12.blk (Q12.kept _ (Q1.kept _ K_z.out le1) le2)))
  have R21 := hid (And.intro Q21.blk (And.intro (Q21.other _ _ _ n21 Q2.blk) (Q21.kept _ (Q2.kept _ K_z.out le2) le1)))
  clear Q1 Q2 Q12 Q21
  go_region
  all_goals
    go_wp2_with fail
    first
    | (rw [← cells3, ← cells7]
       exact bodyPost_ret (res_two Try.results17 rfl rfl (blk_drew R12.out.1) (blk_drew R12.out.2.1) Try.underlying24 rfl (by kernel_rfl) Try.underlying31 rfl (by kernel_rfl)) rfl ⟨rfl, R12.out.2.2.drew⟩)
    | (rw [← cells7, ← cells3]
       exact bodyPost_ret (res_two Try.results17 rfl rfl (blk_drew R21.out.1) (blk_drew R21.out.2.1) Try.underlying24 rfl (by kernel_rfl) Try.underlying31 rfl (by kernel_rfl)) rfl ⟨rfl, R21.out.2.2.drew⟩)
set_option maxRecDepth 100000 in
set_option maxHeartbeats 4000000 in
theorem rstep15_Ag (l V2 : Lc) (x : Int) (r : Bool) (w : World) (I : LcIn l) (x0 : 0 ≤ x) (x1 : x ≤ 65535) (h : l.on = true) (a : l.dot < 455) (q : l.line = 144) (HA : ∀ u, Calls Try.prog 30 #[lcV ⟨true, l.line, l.dot + 1, l.lyc, l.sel, l.high, l.extra⟩] u fun e w' => e = .returned (.tuple #[lcV V2, .bool r]) ∧ Kept u w') : Calls Try.prog 17 #[lcV l, .int .u16 x] w fun e w' => e = .returned (.tuple #[lcV V2, evV false r false]) ∧ Kept w w' := by
  have HA := hid HA
  obtain ⟨so, sl, sd, sy, ss, sh, se⟩ := l
  have l0 := I.l0
  have l1 := I.l1
  have d0 := I.d0
  have d1 := I.d1
  have y0 := I.y0
  have y1 := I.y1
  have s0 := I.s0
  have s1 := I.s1
  have e0 := I.e0
  have e1 := I.e1
  simp only at l0 l1 d0 d1 y0 y1 s0 s1 e0 e1
  try simp only at *
  subst h
  have a1 : decide (456 ≤ sd + 1) = false := decide_eq_false (by omega)
  have a2 : IntKind.u16.wrap (sd + 1) = sd + 1 := by rw [IntKind.wrap_u16]; omega
  have a3 : IntKind.u8.wrap sl = sl := by rw [IntKind.wrap_u8]; omega
  have a4 : IntKind.i64.wrap (sd + 1) = sd + 1 := by rw [IntKind.wrap_i64]; omega
  have a5 : decide (455 < sd + 1) = false := decide_eq_false (by omega)
  have a6 : decide (455 ≤ sd) = false := decide_eq_false (by omega)
  have b1 : decide (sl < 144) = false := decide_eq_false (by omega)
  have b2 : (sl == 144) = true := by simpa using q
  clear q
  have b4 : (sd + 1 == 0) = false := by simp; omega
  clear I
  have n01 : w.heap.size ≠ (w.heap.size + 1) := by omega
  have n02 : w.heap.size ≠ (w.heap.size + 1 + 1) := by omega
  have n03 : w.heap.size ≠ (w.heap.size + 1 + 1 + 1) := by omega
  have n10 : (w.heap.size + 1) ≠ w.heap.size := by omega
  have n12 : (w.heap.size + 1) ≠ (w.heap.size + 1 + 1) := by omega
  have n13 : (w.heap.size + 1) ≠ (w.heap.size + 1 + 1 + 1) := by omega
  have n20 : (w.heap.size + 1 + 1) ≠ w.heap.size := by omega
  have n21 : (w.heap.size + 1 + 1) ≠ (w.heap.size + 1) := by omega
  have n23 : (w.heap.size + 1 + 1) ≠ (w.heap.size + 1 + 1 + 1) := by omega
  have n30 : (w.heap.size + 1 + 1 + 1) ≠ w.heap.size := by omega
  have n31 : (w.heap.size + 1 + 1 + 1) ≠ (w.heap.size + 1) := by omega
  have n32 : (w.heap.size + 1 + 1 + 1) ≠ (w.heap.size + 1 + 1) := by omega
  have le0 : w.heap.size ≤ w.heap.size := by omega
  have le1 : w.heap.size ≤ (w.heap.size + 1) := by omega
  have le2 : w.heap.size ≤ (w.heap.size + 1 + 1) := by omega
  have le3 : w.heap.size ≤ (w.heap.size + 1 + 1 + 1) := by omega
  have B0_x : Blk (((w.alloc (.cells ([.bool true, .int .u8 sl, .int .u16 sd, .int .u8 sy, .int .u8 ss, .bool sh, .int .u16 se] : List Value).toArray 24)).alloc (.cells ([.bool false, .int .u8 0, .int .u16 0, .int .u8 0, .int .u8 0, .bool false, .int .u16 0] : List Value).toArray 24)).alloc (.cells ([.bool false, .bool false, .bool false] : List Value).toArray 31)) w.heap.size 24 [.bool true, .int .u8 sl, .int .u16 sd, .int .u8 sy, .int .u8 ss, .bool sh, .int .u16 se] := blk_past (blk_past (blk_new w _ _) _) _
  have B1_x : Blk (((w.alloc (.cells ([.bool true, .int .u8 sl, .int .u16 sd, .int .u8 sy, .int .u8 ss, .bool sh, .int .u16 se] : List Value).toArray 24)).alloc (.cells ([.bool false, .int .u8 0, .int .u16 0, .int .u8 0, .int .u8 0, .bool false, .int .u16 0] : List Value).toArray 24)).alloc (.cells ([.bool false, .bool false, .bool false] : List Value).toArray 31)) (w.heap.size + 1) 24 [.bool false, .int .u8 0, .int .u16 0, .int .u8 0, .int .u8 0, .bool false, .int .u16 0] := by have q := blk_new (w.alloc (.cells ([.bool true, .int .u8 sl, .int .u16 sd, .int .u8 sy, .int .u8 ss, .bool sh, .int .u16 se] : List Value).toArray 24)) [.bool false, .int .u8 0, .int .u16 0, .int .u8 0, .int .u8 0, .bool false, .int .u16 0] 24; rw [World.size_alloc] at q; exact blk_past q _
  have B2_x : Blk (((w.alloc (.cells ([.bool true, .int .u8 sl, .int .u16 sd, .int .u8 sy, .int .u8 ss, .bool sh, .int .u16 se] : List Value).toArray 24)).alloc (.cells ([.bool false, .int .u8 0, .int .u16 0, .int .u8 0, .int .u8 0, .bool false, .int .u16 0] : List Value).toArray 24)).alloc (.cells ([.bool false, .bool false, .bool false] : List Value).toArray 31)) (w.heap.size + 1 + 1) 31 [.bool false, .bool false, .bool false] := by have q := blk_new ((w.alloc (.cells ([.bool true, .int .u8 sl, .int .u16 sd, .int .u8 sy, .int .u8 ss, .bool sh, .int .u16 se] : List Value).toArray 24)).alloc (.cells ([.bool false, .int .u8 0, .int .u16 0, .int .u8 0, .int .u8 0, .bool false, .int .u16 0] : List Value).toArray 24)) [.bool false, .bool false, .bool false] 31; rw [World.size_alloc, World.size_alloc] at q; exact q
  have y_x : (((w.alloc (.cells ([.bool true, .int .u8 sl, .int .u16 sd, .int .u8 sy, .int .u8 ss, .bool sh, .int .u16 se] : List Value).toArray 24)).alloc (.cells ([.bool false, .int .u8 0, .int .u16 0, .int .u8 0, .int .u8 0, .bool false, .int .u16 0] : List Value).toArray 24)).alloc (.cells ([.bool false, .bool false, .bool false] : List Value).toArray 31)).heap.size = (w.heap.size + 1 + 1 + 1) := by rw [World.size_alloc, World.size_alloc, World.size_alloc]
  have K_x := hid ((((Kept.refl w).alloc (.cells ([.bool true, .int .u8 sl, .int .u16 sd, .int .u8 sy, .int .u8 ss, .bool sh, .int .u16 se] : List Value).toArray 24)).alloc (.cells ([.bool false, .int .u8 0, .int .u16 0, .int .u8 0, .int .u8 0, .bool false, .int .u16 0] : List Value).toArray 24)).alloc (.cells ([.bool false, .bool false, .bool false] : List Value).toArray 31))
  have c0_x := True.intro
  have c1_x := True.intro
  go_enter Try.func17, Try.ntmps17
  go_wp2_with (first
    | ((with_reducible refine at_st 22 ?_); refine wl_store rfl rfl rfl rfl B0_x (by kernel_rfl) rfl (Nat.le_of_ble_eq_true rfl) (fun va pa => ?_); have B0_a : Blk va w.heap.size 24 [.bool true, .int .u8 sl, .int .u16 (sd + 1), .int .u8 sy, .int .u8 ss, .bool sh, .int .u16 se] := pa.blk; have B1_a := pa.other _ _ _ n10 B1_x; have B2_a := pa.other _ _ _ n20 B2_x; have y_a := pa.size.trans y_x; have K_a := hid (pa.kept _ K_x.out le0); clear pa K_x B0_x B1_x B2_x c0_x c1_x y_x; have c0_a := blk_cell B0_a; have c1_a := blk_lt B1_a)
    | ((with_reducible refine at_st 5 ?_); refine wl_store rfl rfl rfl rfl B0_a (by kernel_rfl) rfl (Nat.le_of_ble_eq_true rfl) (fun vb pb => ?_); have B0_b : Blk vb w.heap.size 24 [.bool true, .int .u8 sl, .int .u16 (sd + 1), .int .u8 sy, .int .u8 ss, .bool sh, .int .u16 se] := pb.blk; have B1_b := pb.other _ _ _ n10 B1_a; have B2_b := pb.other _ _ _ n20 B2_a; have y_b := pb.size.trans y_a; have K_b := hid (pb.kept _ K_a.out le0); clear pb K_a B0_a B1_a B2_a c0_a c1_a y_a; have c0_b := blk_cell B0_b; have c1_b := blk_lt B1_b; have B3_n : Blk (vb.alloc (.cells ([.bool false, .bool false, .bool false] : List Value).toArray 31)) (w.heap.size + 1 + 1 + 1) 31 [.bool false, .bool false, .bool false] := (by have q := blk_new vb [.bool false, .bool false, .bool false] 31; rw [y_b] at q; exact q); have B0_n := blk_past B0_b (.cells ([.bool false, .bool false, .bool false] : List Value).toArray 31); have B1_n := blk_past B1_b (.cells ([.bool false, .bool false, .bool false] : List Value).toArray 31); have B2_n := blk_past B2_b (.cells ([.bool false, .bool false, .bool false] : List Value).toArray 31); have K_n := hid (K_b.out.alloc (.cells ([.bool false, .bool false, .bool false] : List Value).toArray 31)); clear B0_b B1_b B2_b K_b c0_b c1_b; have c0_n := blk_cell B0_n; have c1_n := blk_lt B1_n; have c3_n := blk_cell B3_n)
    | ((with_reducible refine at_st 31 ?_); refine wl_store rfl rfl rfl rfl B3_n (by kernel_rfl) rfl (Nat.le_of_ble_eq_true rfl) (fun vc pc => ?_); have B3_c : Blk vc (w.heap.size + 1 + 1 + 1) 31 [.bool false, .bool false, .bool false] := pc.blk; have B0_c := pc.other _ _ _ n03 B0_n; have B1_c := pc.other _ _ _ n13 B1_n; have B2_c := pc.other _ _ _ n23 B2_n; have K_c := hid (pc.kept _ K_n.out le3); clear pc K_n B0_n B1_n B2_n B3_n c0_n c1_n c3_n; have c0_c := blk_cell B0_c; have c1_c := blk_lt B1_c; have c3_c := blk_cell B3_c)
    | ((with_reducible refine at_st 4 ?_); refine wl_store rfl rfl rfl rfl B3_c (by kernel_rfl) rfl (Nat.le_of_ble_eq_true rfl) (fun vg pg => ?_); have B3_g : Blk vg (w.heap.size + 1 + 1 + 1) 31 [.bool false, .bool false, .bool false] := pg.blk; have B0_g := pg.other _ _ _ n03 B0_c; have B1_g := pg.other _ _ _ n13 B1_c; have B2_g := pg.other _ _ _ n23 B2_c; have K_g := hid (pg.kept _ K_c.out le3); clear pg K_c B0_c B1_c B2_c B3_c c0_c c1_c c3_c; have c0_g := blk_cell B0_g; have c1_g := blk_lt B1_g; have c3_g := blk_cell B3_g))
  refine (HA.out _).mono ?_
  rintro e u1 ⟨rfl, k1⟩
  have B0_h := blk_kept k1 B0_g
  have B1_h := blk_kept k1 B1_g
  have B2_h := blk_kept k1 B2_g
  have B3_h := blk_kept k1 B3_g
  have K_h := hid (K_g.out.trans k1)
  clear k1 B0_g B1_g B2_g B3_g K_g c0_g c1_g c3_g
  have c0_h := blk_cell B0_h
  have c1_h := blk_lt B1_h
  have c3_h := blk_cell B3_h
  go_wp2_with (first
    | ((with_reducible refine at_st 24 ?_); refine wl_store rfl rfl rfl rfl B0_h (by kernel_rfl) rfl (Nat.le_of_ble_eq_true rfl) (fun vi pi => ?_); have B0_i : Blk vi w.heap.size 24 [.bool V2.on, .int .u8 V2.line, .int .u16 V2.dot, .int .u8 V2.lyc, .int .u8 V2.sel, .bool V2.high, .int .u16 V2.extra] := pi.blk; have B1_i := pi.other _ _ _ n10 B1_h; have B2_i := pi.other _ _ _ n20 B2_h; have B3_i := pi.other _ _ _ n30 B3_h; have K_i := hid (pi.kept _ K_h.out le0); clear pi K_h B0_h B1_h B2_h B3_h c0_h c1_h c3_h; have c0_i := blk_cell B0_i; have c1_i := blk_lt B1_i; have c3_i := blk_cell B3_i)
    | ((with_reducible refine at_st 4 ?_); refine wl_store rfl rfl rfl rfl B3_i (by kernel_rfl) rfl (Nat.le_of_ble_eq_true rfl) (fun vz pz => ?_); have B3_z : Blk vz (w.heap.size + 1 + 1 + 1) 31 [.bool false, .bool r, .bool false] := pz.blk; have B0_z := pz.other _ _ _ n03 B0_i; have B1_z := pz.other _ _ _ n13 B1_i; have B2_z := pz.other _ _ _ n23 B2_i; have K_z := hid (pz.kept _ K_i.out le3); clear pz K_i B0_i B1_i B2_i B3_i c0_i c1_i c3_i; have c0_z := blk_cell B0_z; have c1_z := blk_lt B1_z; have c3_z := blk_cell B3_z))
  have f1 := blk_froz B1_z
  have f2 := blk_froz B2_z
  have d1_z := blk_cell B1_z
  have d2_z := blk_cell B2_z
  have z2_z := blk_lt B2_z
  have Q1 : Put vz (w.heap.size + 1) 24 [.bool V2.on, .int .u8 V2.line, .int .u16 V2.dot, .int .u8 V2.lyc, .int .u8 V2.sel, .bool V2.high, .int .u16 V2.extra] (vz.setCells (w.heap.size + 1) 0 [.bool V2.on, .int .u8 V2.line, .int .u16 V2.dot, .int .u8 V2.lyc, .int .u8 V2.sel, .bool V2.high, .int .u16 V2.extra]) := put_of B1_z 0 [.bool V2.on, .int .u8 V2.line, .int .u16 V2.dot, .int .u8 V2.lyc, .int .u8 V2.sel, .bool V2.high, .int .u16 V2.extra] (Nat.le_of_ble_eq_true rfl)
  have Q2 : Put vz (w.heap.size + 1 + 1) 31 [.bool false, .bool r, .bool false] (vz.setCells (w.heap.size + 1 + 1) 0 [.bool false, .bool r, .bool false]) := put_of B2_z 0 [.bool false, .bool r, .bool false] (Nat.le_of_ble_eq_true rfl)
  have Q12 : Put (vz.setCells (w.heap.size + 1) 0 [.bool V2.on, .int .u8 V2.line, .int .u16 V2.dot, .int .u8 V2.lyc, .int .u8 V2.sel, .bool V2.high, .int .u16 V2.extra]) (w.heap.size + 1 + 1) 31 [.bool false, .bool r, .bool false] ((vz.setCells (w.heap.size + 1) 0 [.bool V2.on, .int .u8 V2.line, .int .u16 V2.dot, .int .u8 V2.lyc, .int .u8 V2.sel, .bool V2.high, .int .u16 V2.extra]).setCells (w.heap.size + 1 + 1) 0 [.bool false, .bool r, .bool false]) := put_of (Q1.other _ _ _ n21 B2_z) 0 [.bool false, .bool r, .bool false] (Nat.le_of_ble_eq_true rfl)
  have Q21 : Put (vz.setCells (w.heap.size + 1 + 1) 0 [.bool false, .bool r, .bool false]) (w.heap.size + 1) 24 [.bool V2.on, .int .u8 V2.line, .int .u16 V2.dot, .int .u8 V2.lyc, .int .u8 V2.sel, .bool V2.high, .int .u16 V2.extra] ((vz.setCells (w.heap.size + 1 + 1) 0 [.bool false, .bool r, .bool false]).setCells (w.heap.size + 1) 0 [.bool V2.on, .int .u8 V2.line, .int .u16 V2.dot, .int .u8 V2.lyc, .int .u8 V2.sel, .bool V2.high, .int .u16 V2.extra]) := put_of (Q2.other _ _ _ n12 B1_z) 0 [.bool V2.on, .int .u8 V2.line, .int .u16 V2.dot, .int .u8 V2.lyc, .int .u8 V2.sel, .bool V2.high, .int .u16 V2.extra] (Nat.le_of_ble_eq_true rfl)
  have R12 := hid (And.intro (Q12.other _ _ _ n12 Q1.blk) (And.intro Q12.blk (Q12.kept _ (Q1.kept _ K_z.out le1) le2)))
  have R21 := hid (And.intro Q21.blk (And.intro (Q21.other _ _ _ n21 Q2.blk) (Q21.kept _ (Q2.kept _ K_z.out le2) le1)))
  clear Q1 Q2 Q12 Q21
  go_region
  all_goals
    go_wp2_with fail
    first
    | (rw [← cells3, ← cells7]
       exact bodyPost_ret (res_two Try.results17 rfl rfl (blk_drew R12.out.1) (blk_drew R12.out.2.1) Try.underlying24 rfl (by kernel_rfl) Try.underlying31 rfl (by kernel_rfl)) rfl ⟨rfl, R12.out.2.2.drew⟩)
    | (rw [← cells7, ← cells3]
       exact bodyPost_ret (res_two Try.results17 rfl rfl (blk_drew R21.out.1) (blk_drew R21.out.2.1) Try.underlying24 rfl (by kernel_rfl) Try.underlying31 rfl (by kernel_rfl)) rfl ⟨rfl, R21.out.2.2.drew⟩)
set_option maxRecDepth 100000 in
set_option maxHeartbeats 4000000 in
theorem rstep15_Ak (l V2 : Lc) (x : Int) (r : Bool) (w : World) (I : LcIn l) (x0 : 0 ≤ x) (x1 : x ≤ 65535) (h : l.on = true) (a : l.dot < 455) (q : 144 < l.line) (HA : ∀ u, Calls Try.prog 30 #[lcV ⟨true, l.line, l.dot + 1, l.lyc, l.sel, l.high, l.extra⟩] u fun e w' => e = .returned (.tuple #[lcV V2, .bool r]) ∧ Kept u w') : Calls Try.prog 17 #[lcV l, .int .u16 x] w fun e w' => e = .returned (.tuple #[lcV V2, evV false r false]) ∧ Kept w w' := by
  have HA := hid HA
  obtain ⟨so, sl, sd, sy, ss, sh, se⟩ := l
  have l0 := I.l0
  have l1 := I.l1
  have d0 := I.d0
  have d1 := I.d1
  have y0 := I.y0
  have y1 := I.y1
  have s0 := I.s0
  have s1 := I.s1
  have e0 := I.e0
  have e1 := I.e1
  simp only at l0 l1 d0 d1 y0 y1 s0 s1 e0 e1
  try simp only at *
  subst h
  have a1 : decide (456 ≤ sd + 1) = false := decide_eq_false (by omega)
  have a2 : IntKind.u16.wrap (sd + 1) = sd + 1 := by rw [IntKind.wrap_u16]; omega
  have a3 : IntKind.u8.wrap sl = sl := by rw [IntKind.wrap_u8]; omega
  have a4 : IntKind.i64.wrap (sd + 1) = sd + 1 := by rw [IntKind.wrap_i64]; omega
  have a5 : decide (455 < sd + 1) = false := decide_eq_false (by omega)
  have a6 : decide (455 ≤ sd) = false := decide_eq_false (by omega)
  have b1 : decide (sl < 144) = false := decide_eq_false (by omega)
  have b2 : (sl == 144) = false := by simp; omega
  have b4 : (sd + 1 == 0) = false := by simp; omega
  clear I
  have n01 : w.heap.size ≠ (w.heap.size + 1) := by omega
  have n02 : w.heap.size ≠ (w.heap.size + 1 + 1) := by omega
  have n03 : w.heap.size ≠ (w.heap.size + 1 + 1 + 1) := by omega
  have n10 : (w.heap.size + 1) ≠ w.heap.size := by omega
  have n12 : (w.heap.size + 1) ≠ (w.heap.size + 1 + 1) := by omega
  have n13 : (w.heap.size + 1) ≠ (w.heap.size + 1 + 1 + 1) := by omega
  have n20 : (w.heap.size + 1 + 1) ≠ w.heap.size := by omega
  have n21 : (w.heap.size + 1 + 1) ≠ (w.heap.size + 1) := by omega
  have n23 : (w.heap.size + 1 + 1) ≠ (w.heap.size + 1 + 1 + 1) := by omega
  have n30 : (w.heap.size + 1 + 1 + 1) ≠ w.heap.size := by omega
  have n31 : (w.heap.size + 1 + 1 + 1) ≠ (w.heap.size + 1) := by omega
  have n32 : (w.heap.size + 1 + 1 + 1) ≠ (w.heap.size + 1 + 1) := by omega
  have le0 : w.heap.size ≤ w.heap.size := by omega
  have le1 : w.heap.size ≤ (w.heap.size + 1) := by omega
  have le2 : w.heap.size ≤ (w.heap.size + 1 + 1) := by omega
  have le3 : w.heap.size ≤ (w.heap.size + 1 + 1 + 1) := by omega
  have B0_x : Blk (((w.alloc (.cells ([.bool true, .int .u8 sl, .int .u16 sd, .int .u8 sy, .int .u8 ss, .bool sh, .int .u16 se] : List Value).toArray 24)).alloc (.cells ([.bool false, .int .u8 0, .int .u16 0, .int .u8 0, .int .u8 0, .bool false, .int .u16 0] : List Value).toArray 24)).alloc (.cells ([.bool false, .bool false, .bool false] : List Value).toArray 31)) w.heap.size 24 [.bool true, .int .u8 sl, .int .u16 sd, .int .u8 sy, .int .u8 ss, .bool sh, .int .u16 se] := blk_past (blk_past (blk_new w _ _) _) _
  have B1_x : Blk (((w.alloc (.cells ([.bool true, .int .u8 sl, .int .u16 sd, .int .u8 sy, .int .u8 ss, .bool sh, .int .u16 se] : List Value).toArray 24)).alloc (.cells ([.bool false, .int .u8 0, .int .u16 0, .int .u8 0, .int .u8 0, .bool false, .int .u16 0] : List Value).toArray 24)).alloc (.cells ([.bool false, .bool false, .bool false] : List Value).toArray 31)) (w.heap.size + 1) 24 [.bool false, .int .u8 0, .int .u16 0, .int .u8 0, .int .u8 0, .bool false, .int .u16 0] := by have q := blk_new (w.alloc (.cells ([.bool true, .int .u8 sl, .int .u16 sd, .int .u8 sy, .int .u8 ss, .bool sh, .int .u16 se] : List Value).toArray 24)) [.bool false, .int .u8 0, .int .u16 0, .int .u8 0, .int .u8 0, .bool false, .int .u16 0] 24; rw [World.size_alloc] at q; exact blk_past q _
  have B2_x : Blk (((w.alloc (.cells ([.bool true, .int .u8 sl, .int .u16 sd, .int .u8 sy, .int .u8 ss, .bool sh, .int .u16 se] : List Value).toArray 24)).alloc (.cells ([.bool false, .int .u8 0, .int .u16 0, .int .u8 0, .int .u8 0, .bool false, .int .u16 0] : List Value).toArray 24)).alloc (.cells ([.bool false, .bool false, .bool false] : List Value).toArray 31)) (w.heap.size + 1 + 1) 31 [.bool false, .bool false, .bool false] := by have q := blk_new ((w.alloc (.cells ([.bool true, .int .u8 sl, .int .u16 sd, .int .u8 sy, .int .u8 ss, .bool sh, .int .u16 se] : List Value).toArray 24)).alloc (.cells ([.bool false, .int .u8 0, .int .u16 0, .int .u8 0, .int .u8 0, .bool false, .int .u16 0] : List Value).toArray 24)) [.bool false, .bool false, .bool false] 31; rw [World.size_alloc, World.size_alloc] at q; exact q
  have y_x : (((w.alloc (.cells ([.bool true, .int .u8 sl, .int .u16 sd, .int .u8 sy, .int .u8 ss, .bool sh, .int .u16 se] : List Value).toArray 24)).alloc (.cells ([.bool false, .int .u8 0, .int .u16 0, .int .u8 0, .int .u8 0, .bool false, .int .u16 0] : List Value).toArray 24)).alloc (.cells ([.bool false, .bool false, .bool false] : List Value).toArray 31)).heap.size = (w.heap.size + 1 + 1 + 1) := by rw [World.size_alloc, World.size_alloc, World.size_alloc]
  have K_x := hid ((((Kept.refl w).alloc (.cells ([.bool true, .int .u8 sl, .int .u16 sd, .int .u8 sy, .int .u8 ss, .bool sh, .int .u16 se] : List Value).toArray 24)).alloc (.cells ([.bool false, .int .u8 0, .int .u16 0, .int .u8 0, .int .u8 0, .bool false, .int .u16 0] : List Value).toArray 24)).alloc (.cells ([.bool false, .bool false, .bool false] : List Value).toArray 31))
  have c0_x := True.intro
  have c1_x := True.intro
  go_enter Try.func17, Try.ntmps17
  go_wp2_with (first
    | ((with_reducible refine at_st 22 ?_); refine wl_store rfl rfl rfl rfl B0_x (by kernel_rfl) rfl (Nat.le_of_ble_eq_true rfl) (fun va pa => ?_); have B0_a : Blk va w.heap.size 24 [.bool true, .int .u8 sl, .int .u16 (sd + 1), .int .u8 sy, .int .u8 ss, .bool sh, .int .u16 se] := pa.blk; have B1_a := pa.other _ _ _ n10 B1_x; have B2_a := pa.other _ _ _ n20 B2_x; have y_a := pa.size.trans y_x; have K_a := hid (pa.kept _ K_x.out le0); clear pa K_x B0_x B1_x B2_x c0_x c1_x y_x; have c0_a := blk_cell B0_a; have c1_a := blk_lt B1_a)
    | ((with_reducible refine at_st 5 ?_); refine wl_store rfl rfl rfl rfl B0_a (by kernel_rfl) rfl (Nat.le_of_ble_eq_true rfl) (fun vb pb => ?_); have B0_b : Blk vb w.heap.size 24 [.bool true, .int .u8 sl, .int .u16 (sd + 1), .int .u8 sy, .int .u8 ss, .bool sh, .int .u16 se] := pb.blk; have B1_b := pb.other _ _ _ n10 B1_a; have B2_b := pb.other _ _ _ n20 B2_a; have y_b := pb.size.trans y_a; have K_b := hid (pb.kept _ K_a.out le0); clear pb K_a B0_a B1_a B2_a c0_a c1_a y_a; have c0_b := blk_cell B0_b; have c1_b := blk_lt B1_b; have B3_n : Blk (vb.alloc (.cells ([.bool false, .bool false, .bool false] : List Value).toArray 31)) (w.heap.size + 1 + 1 + 1) 31 [.bool false, .bool false, .bool false] := (by have q := blk_new vb [.bool false, .bool false, .bool false] 31; rw [y_b] at q; exact q); have B0_n := blk_past B0_b (.cells ([.bool false, .bool false, .bool false] : List Value).toArray 31); have B1_n := blk_past B1_b (.cells ([.bool false, .bool false, .bool false] : List Value).toArray 31); have B2_n := blk_past B2_b (.cells ([.bool false, .bool false, .bool false] : List Value).toArray 31); have K_n := hid (K_b.out.alloc (.cells ([.bool false, .bool false, .bool false] : List Value).toArray 31)); clear B0_b B1_b B2_b K_b c0_b c1_b; have c0_n := blk_cell B0_n; have c1_n := blk_lt B1_n; have c3_n := blk_cell B3_n)
    | ((with_reducible refine at_st 31 ?_); refine wl_store rfl rfl rfl rfl B3_n (by kernel_rfl) rfl (Nat.le_of_ble_eq_true rfl) (fun vc pc => ?_); have B3_c : Blk vc (w.heap.size + 1 + 1 + 1) 31 [.bool false, .bool false, .bool false] := pc.blk; have B0_c := pc.other _ _ _ n03 B0_n; have B1_c := pc.other _ _ _ n13 B1_n; have B2_c := pc.other _ _ _ n23 B2_n; have K_c := hid (pc.kept _ K_n.out le3); clear pc K_n B0_n B1_n B2_n B3_n c0_n c1_n c3_n; have c0_c := blk_cell B0_c; have c1_c := blk_lt B1_c; have c3_c := blk_cell B3_c)
    | ((with_reducible refine at_st 4 ?_); refine wl_store rfl rfl rfl rfl B3_c (by kernel_rfl) rfl (Nat.le_of_ble_eq_true rfl) (fun vg pg => ?_); have B3_g : Blk vg (w.heap.size + 1 + 1 + 1) 31 [.bool false, .bool false, .bool false] := pg.blk; have B0_g := pg.other _ _ _ n03 B0_c; have B1_g := pg.other _ _ _ n13 B1_c; have B2_g := pg.other _ _ _ n23 B2_c; have K_g := hid (pg.kept _ K_c.out le3); clear pg K_c B0_c B1_c B2_c B3_c c0_c c1_c c3_c; have c0_g := blk_cell B0_g; have c1_g := blk_lt B1_g; have c3_g := blk_cell B3_g))
  refine (HA.out _).mono ?_
  rintro e u1 ⟨rfl, k1⟩
  have B0_h := blk_kept k1 B0_g
  have B1_h := blk_kept k1 B1_g
  have B2_h := blk_kept k1 B2_g
  have B3_h := blk_kept k1 B3_g
  have K_h := hid (K_g.out.trans k1)
  clear k1 B0_g B1_g B2_g B3_g K_g c0_g c1_g c3_g
  have c0_h := blk_cell B0_h
  have c1_h := blk_lt B1_h
  have c3_h := blk_cell B3_h
  go_wp2_with (first
    | ((with_reducible refine at_st 24 ?_); refine wl_store rfl rfl rfl rfl B0_h (by kernel_rfl) rfl (Nat.le_of_ble_eq_true rfl) (fun vi pi => ?_); have B0_i : Blk vi w.heap.size 24 [.bool V2.on, .int .u8 V2.line, .int .u16 V2.dot, .int .u8 V2.lyc, .int .u8 V2.sel, .bool V2.high, .int .u16 V2.extra] := pi.blk; have B1_i := pi.other _ _ _ n10 B1_h; have B2_i := pi.other _ _ _ n20 B2_h; have B3_i := pi.other _ _ _ n30 B3_h; have K_i := hid (pi.kept _ K_h.out le0); clear pi K_h B0_h B1_h B2_h B3_h c0_h c1_h c3_h; have c0_i := blk_cell B0_i; have c1_i := blk_lt B1_i; have c3_i := blk_cell B3_i)
    | ((with_reducible refine at_st 4 ?_); refine wl_store rfl rfl rfl rfl B3_i (by kernel_rfl) rfl (Nat.le_of_ble_eq_true rfl) (fun vz pz => ?_); have B3_z : Blk vz (w.heap.size + 1 + 1 + 1) 31 [.bool false, .bool r, .bool false] := pz.blk; have B0_z := pz.other _ _ _ n03 B0_i; have B1_z := pz.other _ _ _ n13 B1_i; have B2_z := pz.other _ _ _ n23 B2_i; have K_z := hid (pz.kept _ K_i.out le3); clear pz K_i B0_i B1_i B2_i B3_i c0_i c1_i c3_i; have c0_z := blk_cell B0_z; have c1_z := blk_lt B1_z; have c3_z := blk_cell B3_z))
  have f1 := blk_froz B1_z
  have f2 := blk_froz B2_z
  have d1_z := blk_cell B1_z
  have d2_z := blk_cell B2_z
  have z2_z := blk_lt B2_z
  have Q1 : Put vz (w.heap.size + 1) 24 [.bool V2.on, .int .u8 V2.line, .int .u16 V2.dot, .int .u8 V2.lyc, .int .u8 V2.sel, .bool V2.high, .int .u16 V2.extra] (vz.setCells (w.heap.size + 1) 0 [.bool V2.on, .int .u8 V2.line, .int .u16 V2.dot, .int .u8 V2.lyc, .int .u8 V2.sel, .bool V2.high, .int .u16 V2.extra]) := put_of B1_z 0 [.bool V2.on, .int .u8 V2.line, .int .u16 V2.dot, .int .u8 V2.lyc, .int .u8 V2.sel, .bool V2.high, .int .u16 V2.extra] (Nat.le_of_ble_eq_true rfl)
  have Q2 : Put vz (w.heap.size + 1 + 1) 31 [.bool false, .bool r, .bool false] (vz.setCells (w.heap.size + 1 + 1) 0 [.bool false, .bool r, .bool false]) := put_of B2_z 0 [.bool false, .bool r, .bool false] (Nat.le_of_ble_eq_true rfl)
  have Q12 : Put (vz.setCells (w.heap.size + 1) 0 [.bool V2.on, .int .u8 V2.line, .int .u16 V2.dot, .int .u8 V2.lyc, .int .u8 V2.sel, .bool V2.high, .int .u16 V2.extra]) (w.heap.size + 1 + 1) 31 [.bool false, .bool r, .bool false] ((vz.setCells (w.heap.size + 1) 0 [.bool V2.on, .int .u8 V2.line, .int .u16 V2.dot, .int .u8 V2.lyc, .int .u8 V2.sel, .bool V2.high, .int .u16 V2.extra]).setCells (w.heap.size + 1 + 1) 0 [.bool false, .bool r, .bool false]) := put_of (Q1.other _ _ _ n21 B2_z) 0 [.bool false, .bool r, .bool false] (Nat.le_of_ble_eq_true rfl)
  have Q21 : Put (vz.setCells (w.heap.size + 1 + 1) 0 [.bool false, .bool r, .bool false]) (w.heap.size + 1) 24 [.bool V2.on, .int .u8 V2.line, .int .u16 V2.dot, .int .u8 V2.lyc, .int .u8 V2.sel, .bool V2.high, .int .u16 V2.extra] ((vz.setCells (w.heap.size + 1 + 1) 0 [.bool false, .bool r, .bool false]).setCells (w.heap.size + 1) 0 [.bool V2.on, .int .u8 V2.line, .int .u16 V2.dot, .int .u8 V2.lyc, .int .u8 V2.sel, .bool V2.high, .int .u16 V2.extra]) := put_of (Q2.other _ _ _ n12 B1_z) 0 [.bool V2.on, .int .u8 V2.line, .int .u16 V2.dot, .int .u8 V2.lyc, .int .u8 V2.sel, .bool V2.high, .int .u16 V2.extra] (Nat.le_of_ble_eq_true rfl)
  have R12 := hid (And.intro (Q12.other _ _ _ n12 Q1.blk) (And.intro Q12.blk (Q12.kept _ (Q1.kept _ K_z.out le1) le2)))
  have R21 := hid (And.intro Q21.blk (And.intro (Q21.other _ _ _ n21 Q2.blk) (Q21.kept _ (Q2.kept _ K_z.out le2) le1)))
  clear Q1 Q2 Q12 Q21
  go_region
  all_goals
    go_wp2_with fail
    first
    | (rw [← cells3, ← cells7]
       exact bodyPost_ret (res_two Try.results17 rfl rfl (blk_drew R12.out.1) (blk_drew R12.out.2.1) Try.underlying24 rfl (by kernel_rfl) Try.underlying31 rfl (by kernel_rfl)) rfl ⟨rfl, R12.out.2.2.drew⟩)
    | (rw [← cells7, ← cells3]
       exact bodyPost_ret (res_two Try.results17 rfl rfl (blk_drew R21.out.1) (blk_drew R21.out.2.1) Try.underlying24 rfl (by kernel_rfl) Try.underlying31 rfl (by kernel_rfl)) rfl ⟨rfl, R21.out.2.2.drew⟩)
set_option maxRecDepth 100000 in
set_option maxHeartbeats 4000000 in
theorem rstep15_Bn (l V2 : Lc) (x : Int) (r : Bool) (w : World) (I : LcIn l) (x0 : 0 ≤ x) (x1 : x ≤ 65535) (h : l.on = true) (a : ¬ l.dot < 455) (b : l.line < 153) (q : l.line + 1 < 144) (HA : ∀ u, Calls Try.prog 30 #[lcV ⟨true, l.line + 1, 0, l.lyc, l.sel, l.high, l.extra⟩] u fun e w' => e = .returned (.tuple #[lcV V2, .bool r]) ∧ Kept u w') : Calls Try.prog 17 #[lcV l, .int .u16 x] w fun e w' => e = .returned (.tuple #[lcV V2, evV false r false]) ∧ Kept w w' := by
  have HA := hid HA
  obtain ⟨so, sl, sd, sy, ss, sh, se⟩ := l
  have l0 := I.l0
  have l1 := I.l1
  have d0 := I.d0
  have d1 := I.d1
  have y0 := I.y0
  have y1 := I.y1
  have s0 := I.s0
  have s1 := I.s1
  have e0 := I.e0
  have e1 := I.e1
  simp only at l0 l1 d0 d1 y0 y1 s0 s1 e0 e1
  try simp only at *
  subst h
  have a1 : decide (456 ≤ sd + 1) = true := decide_eq_true (by omega)
  have a5 : decide (455 ≤ sd) = true := decide_eq_true (by omega)
  have a2 : decide (154 ≤ sl + 1) = false := decide_eq_false (by omega)
  have a6 : decide (153 ≤ sl) = false := decide_eq_false (by omega)
  have a3 : IntKind.u8.wrap (sl + 1) = sl + 1 := by rw [IntKind.wrap_u8]; omega
  have a4 : IntKind.i64.wrap (sl + 1) = sl + 1 := by rw [IntKind.wrap_i64]; omega
  have b1 : decide (sl + 1 < 144) = true := decide_eq_true q
  have b2 : (sl + 1 == 144) = false := by simp; omega
  clear I
  have n01 : w.heap.size ≠ (w.heap.size + 1) := by omega
  have n02 : w.heap.size ≠ (w.heap.size + 1 + 1) := by omega
  have n03 : w.heap.size ≠ (w.heap.size + 1 + 1 + 1) := by omega
  have n10 : (w.heap.size + 1) ≠ w.heap.size := by omega
  have n12 : (w.heap.size + 1) ≠ (w.heap.size + 1 + 1) := by omega
  have n13 : (w.heap.size + 1) ≠ (w.heap.size + 1 + 1 + 1) := by omega
  have n20 : (w.heap.size + 1 + 1) ≠ w.heap.size := by omega
  have n21 : (w.heap.size + 1 + 1) ≠ (w.heap.size + 1) := by omega
  have n23 : (w.heap.size + 1 + 1) ≠ (w.heap.size + 1 + 1 + 1) := by omega
  have n30 : (w.heap.size + 1 + 1 + 1) ≠ w.heap.size := by omega
  have n31 : (w.heap.size + 1 + 1 + 1) ≠ (w.heap.size + 1) := by omega
  have n32 : (w.heap.size + 1 + 1 + 1) ≠ (w.heap.size + 1 + 1) := by omega
  have le0 : w.heap.size ≤ w.heap.size := by omega
  have le1 : w.heap.size ≤ (w.heap.size + 1) := by omega
  have le2 : w.heap.size ≤ (w.heap.size + 1 + 1) := by omega
  have le3 : w.heap.size ≤ (w.heap.size + 1 + 1 + 1) := by omega
  have B0_x : Blk (((w.alloc (.cells ([.bool true, .int .u8 sl, .int .u16 sd, .int .u8 sy, .int .u8 ss, .bool sh, .int .u16 se] : List Value).toArray 24)).alloc (.cells ([.bool false, .int .u8 0, .int .u16 0, .int .u8 0, .int .u8 0, .bool false, .int .u16 0] : List Value).toArray 24)).alloc (.cells ([.bool false, .bool false, .bool false] : List Value).toArray 31)) w.heap.size 24 [.bool true, .int .u8 sl, .int .u16 sd, .int .u8 sy, .int .u8 ss, .bool sh, .int .u16 se] := blk_past (blk_past (blk_new w _ _) _) _
  have B1_x : Blk (((w.alloc (.cells ([.bool true, .int .u8 sl, .int .u16 sd, .int .u8 sy, .int .u8 ss, .bool sh, .int .u16 se] : List Value).toArray 24)).alloc (.cells ([.bool false, .int .u8 0, .int .u16 0, .int .u8 0, .int .u8 0, .bool false, .int .u16 0] : List Value).toArray 24)).alloc (.cells ([.bool false, .bool false, .bool false] : List Value).toArray 31)) (w.heap.size + 1) 24 [.bool false, .int .u8 0, .int .u16 0, .int .u8 0, .int .u8 0, .bool false, .int .u16 0] := by have q := blk_new (w.alloc (.cells ([.bool true, .int .u8 sl, .int .u16 sd, .int .u8 sy, .int .u8 ss, .bool sh, .int .u16 se] : List Value).toArray 24)) [.bool false, .int .u8 0, .int .u16 0, .int .u8 0, .int .u8 0, .bool false, .int .u16 0] 24; rw [World.size_alloc] at q; exact blk_past q _
  have B2_x : Blk (((w.alloc (.cells ([.bool true, .int .u8 sl, .int .u16 sd, .int .u8 sy, .int .u8 ss, .bool sh, .int .u16 se] : List Value).toArray 24)).alloc (.cells ([.bool false, .int .u8 0, .int .u16 0, .int .u8 0, .int .u8 0, .bool false, .int .u16 0] : List Value).toArray 24)).alloc (.cells ([.bool false, .bool false, .bool false] : List Value).toArray 31)) (w.heap.size + 1 + 1) 31 [.bool false, .bool false, .bool false] := by have q := blk_new ((w.alloc (.cells ([.bool true, .int .u8 sl, .int .u16 sd, .int .u8 sy, .int .u8 ss, .bool sh, .int .u16 se] : List Value).toArray 24)).alloc (.cells ([.bool false, .int .u8 0, .int .u16 0, .int .u8 0, .int .u8 0, .bool false, .int .u16 0] : List Value).toArray 24)) [.bool false, .bool false, .bool false] 31; rw [World.size_alloc, World.size_alloc] at q; exact q
  have y_x : (((w.alloc (.cells ([.bool true, .int .u8 sl, .int .u16 sd, .int .u8 sy, .int .u8 ss, .bool sh, .int .u16 se] : List Value).toArray 24)).alloc (.cells ([.bool false, .int .u8 0, .int .u16 0, .int .u8 0, .int .u8 0, .bool false, .int .u16 0] : List Value).toArray 24)).alloc (.cells ([.bool false, .bool false, .bool false] : List Value).toArray 31)).heap.size = (w.heap.size + 1 + 1 + 1) := by rw [World.size_alloc, World.size_alloc, World.size_alloc]
  have K_x := hid ((((Kept.refl w).alloc (.cells ([.bool true, .int .u8 sl, .int .u16 sd, .int .u8 sy, .int .u8 ss, .bool sh, .int .u16 se] : List Value).toArray 24)).alloc (.cells ([.bool false, .int .u8 0, .int .u16 0, .int .u8 0, .int .u8 0, .bool false, .int .u16 0] : List Value).toArray 24)).alloc (.cells ([.bool false, .bool false, .bool false] : List Value).toArray 31))
  have c0_x := True.intro
  have c1_x := True.intro
  go_enter Try.func17, Try.ntmps17
  go_wp2_with (first
    | ((with_reducible refine at_st 22 ?_); refine wl_store rfl rfl rfl rfl B0_x (by kernel_rfl) rfl (Nat.le_of_ble_eq_true rfl) (fun va pa => ?_); have B0_a : Blk va w.heap.size 24 [.bool true, .int .u8 sl, .int .u16 0, .int .u8 sy, .int .u8 ss, .bool sh, .int .u16 se] := pa.blk; have B1_a := pa.other _ _ _ n10 B1_x; have B2_a := pa.other _ _ _ n20 B2_x; have y_a := pa.size.trans y_x; have K_a := hid (pa.kept _ K_x.out le0); clear pa K_x B0_x B1_x B2_x c0_x c1_x y_x; have c0_a := blk_cell B0_a; have c1_a := blk_lt B1_a)
    | ((with_reducible refine at_st 5 ?_); refine wl_store rfl rfl rfl rfl B0_a (by kernel_rfl) rfl (Nat.le_of_ble_eq_true rfl) (fun vb pb => ?_); have B0_b : Blk vb w.heap.size 24 [.bool true, .int .u8 (sl + 1), .int .u16 0, .int .u8 sy, .int .u8 ss, .bool sh, .int .u16 se] := pb.blk; have B1_b := pb.other _ _ _ n10 B1_a; have B2_b := pb.other _ _ _ n20 B2_a; have y_b := pb.size.trans y_a; have K_b := hid (pb.kept _ K_a.out le0); clear pb K_a B0_a B1_a B2_a c0_a c1_a y_a; have c0_b := blk_cell B0_b; have c1_b := blk_lt B1_b; have B3_n : Blk (vb.alloc (.cells ([.bool false, .bool false, .bool false] : List Value).toArray 31)) (w.heap.size + 1 + 1 + 1) 31 [.bool false, .bool false, .bool false] := (by have q := blk_new vb [.bool false, .bool false, .bool false] 31; rw [y_b] at q; exact q); have B0_n := blk_past B0_b (.cells ([.bool false, .bool false, .bool false] : List Value).toArray 31); have B1_n := blk_past B1_b (.cells ([.bool false, .bool false, .bool false] : List Value).toArray 31); have B2_n := blk_past B2_b (.cells ([.bool false, .bool false, .bool false] : List Value).toArray 31); have K_n := hid (K_b.out.alloc (.cells ([.bool false, .bool false, .bool false] : List Value).toArray 31)); clear B0_b B1_b B2_b K_b c0_b c1_b; have c0_n := blk_cell B0_n; have c1_n := blk_lt B1_n; have c3_n := blk_cell B3_n)
    | ((with_reducible refine at_st 31 ?_); refine wl_store rfl rfl rfl rfl B3_n (by kernel_rfl) rfl (Nat.le_of_ble_eq_true rfl) (fun vc pc => ?_); have B3_c : Blk vc (w.heap.size + 1 + 1 + 1) 31 [.bool false, .bool false, .bool false] := pc.blk; have B0_c := pc.other _ _ _ n03 B0_n; have B1_c := pc.other _ _ _ n13 B1_n; have B2_c := pc.other _ _ _ n23 B2_n; have K_c := hid (pc.kept _ K_n.out le3); clear pc K_n B0_n B1_n B2_n B3_n c0_n c1_n c3_n; have c0_c := blk_cell B0_c; have c1_c := blk_lt B1_c; have c3_c := blk_cell B3_c)
    | ((with_reducible refine at_st 4 ?_); refine wl_store rfl rfl rfl rfl B3_c (by kernel_rfl) rfl (Nat.le_of_ble_eq_true rfl) (fun vg pg => ?_); have B3_g : Blk vg (w.heap.size + 1 + 1 + 1) 31 [.bool false, .bool false, .bool false] := pg.blk; have B0_g := pg.other _ _ _ n03 B0_c; have B1_g := pg.other _ _ _ n13 B1_c; have B2_g := pg.other _ _ _ n23 B2_c; have K_g := hid (pg.kept _ K_c.out le3); clear pg K_c B0_c B1_c B2_c B3_c c0_c c1_c c3_c; have c0_g := blk_cell B0_g; have c1_g := blk_lt B1_g; have c3_g := blk_cell B3_g))
  refine (HA.out _).mono ?_
  rintro e u1 ⟨rfl, k1⟩
  have B0_h := blk_kept k1 B0_g
  have B1_h := blk_kept k1 B1_g
  have B2_h := blk_kept k1 B2_g
  have B3_h := blk_kept k1 B3_g
  have K_h := hid (K_g.out.trans k1)
  clear k1 B0_g B1_g B2_g B3_g K_g c0_g c1_g c3_g
  have c0_h := blk_cell B0_h
  have c1_h := blk_lt B1_h
  have c3_h := blk_cell B3_h
  go_wp2_with (first
    | ((with_reducible refine at_st 24 ?_); refine wl_store rfl rfl rfl rfl B0_h (by kernel_rfl) rfl (Nat.le_of_ble_eq_true rfl) (fun vi pi => ?_); have B0_i : Blk vi w.heap.size 24 [.bool V2.on, .int .u8 V2.line, .int .u16 V2.dot, .int .u8 V2.lyc, .int .u8 V2.sel, .bool V2.high, .int .u16 V2.extra] := pi.blk; have B1_i := pi.other _ _ _ n10 B1_h; have B2_i := pi.other _ _ _ n20 B2_h; have B3_i := pi.other _ _ _ n30 B3_h; have K_i := hid (pi.kept _ K_h.out le0); clear pi K_h B0_h B1_h B2_h B3_h c0_h c1_h c3_h; have c0_i := blk_cell B0_i; have c1_i := blk_lt B1_i; have c3_i := blk_cell B3_i)
    | ((with_reducible refine at_st 4 ?_); refine wl_store rfl rfl rfl rfl B3_i (by kernel_rfl) rfl (Nat.le_of_ble_eq_true rfl) (fun vz pz => ?_); have B3_z : Blk vz (w.heap.size + 1 + 1 + 1) 31 [.bool false, .bool r, .bool false] := pz.blk; have B0_z := pz.other _ _ _ n03 B0_i; have B1_z := pz.other _ _ _ n13 B1_i; have B2_z := pz.other _ _ _ n23 B2_i; have K_z := hid (pz.kept _ K_i.out le3); clear pz K_i B0_i B1_i B2_i B3_i c0_i c1_i c3_i; have c0_z := blk_cell B0_z; have c1_z := blk_lt B1_z; have c3_z := blk_cell B3_z))
  have f1 := blk_froz B1_z
  have f2 := blk_froz B2_z
  have d1_z := blk_cell B1_z
  have d2_z := blk_cell B2_z
  have z2_z := blk_lt B2_z
  have Q1 : Put vz (w.heap.size + 1) 24 [.bool V2.on, .int .u8 V2.line, .int .u16 V2.dot, .int .u8 V2.lyc, .int .u8 V2.sel, .bool V2.high, .int .u16 V2.extra] (vz.setCells (w.heap.size + 1) 0 [.bool V2.on, .int .u8 V2.line, .int .u16 V2.dot, .int .u8 V2.lyc, .int .u8 V2.sel, .bool V2.high, .int .u16 V2.extra]) := put_of B1_z 0 [.bool V2.on, .int .u8 V2.line, .int .u16 V2.dot, .int .u8 V2.lyc, .int .u8 V2.sel, .bool V2.high, .int .u16 V2.extra] (Nat.le_of_ble_eq_true rfl)
  have Q2 : Put vz (w.heap.size + 1 + 1) 31 [.bool false, .bool r, .bool false] (vz.setCells (w.heap.size + 1 + 1) 0 [.bool false, .bool r, .bool false]) := put_of B2_z 0 [.bool false, .bool r, .bool false] (Nat.le_of_ble_eq_true rfl)
  have Q12 : Put (vz.setCells (w.heap.size + 1) 0 [.bool V2.on, .int .u8 V2.line, .int .u16 V2.dot, .int .u8 V2.lyc, .int .u8 V2.sel, .bool V2.high, .int .u16 V2.extra]) (w.heap.size + 1 + 1) 31 [.bool false, .bool r, .bool false] ((vz.setCells (w.heap.size + 1) 0 [.bool V2.on, .int .u8 V2.line, .int .u16 V2.dot, .int .u8 V2.lyc, .int .u8 V2.sel, .bool V2.high, .int .u16 V2.extra]).setCells (w.heap.size + 1 + 1) 0 [.bool false, .bool r, .bool false]) := put_of (Q1.other _ _ _ n21 B2_z) 0 [.bool false, .bool r, .bool false] (Nat.le_of_ble_eq_true rfl)
  have Q21 : Put (vz.setCells (w.heap.size + 1 + 1) 0 [.bool false, .bool r, .bool false]) (w.heap.size + 1) 24 [.bool V2.on, .int .u8 V2.line, .int .u16 V2.dot, .int .u8 V2.lyc, .int .u8 V2.sel, .bool V2.high, .int .u16 V2.extra] ((vz.setCells (w.heap.size + 1 + 1) 0 [.bool false, .bool r, .bool false]).setCells (w.heap.size + 1) 0 [.bool V2.on, .int .u8 V2.line, .int .u16 V2.dot, .int .u8 V2.lyc, .int .u8 V2.sel, .bool V2.high, .int .u16 V2.extra]) := put_of (Q2.other _ _ _ n12 B1_z) 0 [.bool V2.on, .int .u8 V2.line, .int .u16 V2.dot, .int .u8 V2.lyc, .int .u8 V2.sel, .bool V2.high, .int .u16 V2.extra] (Nat.le_of_ble_eq_true rfl)
  have R12 := hid (And.intro (Q12.other _ _ _ n12 Q1.blk) (And.intro Q12.blk (Q12.kept _ (Q1.kept _ K_z.out le1) le2)))
  have R21 := hid (And.intro Q21.blk (And.intro (Q21.other _ _ _ n21 Q2.blk) (Q21.kept _ (Q2.kept _ K_z.out le2) le1)))
  clear Q1 Q2 Q12 Q21
  go_region
  all_goals
    go_wp2_with fail
    first
    | (rw [← cells3, ← cells7]
       exact bodyPost_ret (res_two Try.results17 rfl rfl (blk_drew R12.out.1) (blk_drew R12.out.2.1) Try.underlying24 rfl (by kernel_rfl) Try.underlying31 rfl (by kernel_rfl)) rfl ⟨rfl, R12.out.2.2.drew⟩)
    | (rw [← cells7, ← cells3]
       exact bodyPost_ret (res_two Try.results17 rfl rfl (blk_drew R21.out.1) (blk_drew R21.out.2.1) Try.underlying24 rfl (by kernel_rfl) Try.underlying31 rfl (by kernel_rfl)) rfl ⟨rfl, R21.out.2.2.drew⟩)
set_option maxRecDepth 100000 in
set_option maxHeartbeats 4000000 in
theorem rstep15_Bf (l V2 : Lc) (x : Int) (r : Bool) (w : World) (I : LcIn l) (x0 : 0 ≤ x) (x1 : x ≤ 65535) (h : l.on = true) (a : ¬ l.dot < 455) (b : l.line < 153) (q : l.line + 1 = 144) (HA : ∀ u, Calls Try.prog 30 #[lcV ⟨true, l.line + 1, 0, l.lyc, l.sel, l.high, l.extra⟩] u fun e w' => e = .returned (.tuple #[lcV V2, .bool r]) ∧ Kept u w') : Calls Try.prog 17 #[lcV l, .int .u16 x] w fun e w' => e = .returned (.tuple #[lcV V2, evV true r false]) ∧ Kept w w' := by
  have HA := hid HA
  obtain ⟨so, sl, sd, sy, ss, sh, se⟩ := l
  have l0 := I.l0
  have l1 := I.l1
  have d0 := I.d0
  have d1 := I.d1
  have y0 := I.y0
  have y1 := I.y1
  have s0 := I.s0
  have s1 := I.s1
  have e0 := I.e0
  have e1 := I.e1
  simp only at l0 l1 d0 d1 y0 y1 s0 s1 e0 e1
  try simp only at *
  subst h
  have a1 : decide (456 ≤ sd + 1) = true := decide_eq_true (by omega)
  have a5 : decide (455 ≤ sd) = true := decide_eq_true (by omega)
  have a2 : decide (154 ≤ sl + 1) = false := decide_eq_false (by omega)
  have a6 : decide (153 ≤ sl) = false := decide_eq_false (by omega)
  have a3 : IntKind.u8.wrap (sl + 1) = sl + 1 := by rw [IntKind.wrap_u8]; omega
  have a4 : IntKind.i64.wrap (sl + 1) = sl + 1 := by rw [IntKind.wrap_i64]; omega
  have b1 : decide (sl + 1 < 144) = false := decide_eq_false (by omega)
  have b2 : (sl + 1 == 144) = true := by simpa using q
  clear q
  clear I
  have n01 : w.heap.size ≠ (w.heap.size + 1) := by omega
  have n02 : w.heap.size ≠ (w.heap.size + 1 + 1) := by omega
  have n03 : w.heap.size ≠ (w.heap.size + 1 + 1 + 1) := by omega
  have n10 : (w.heap.size + 1) ≠ w.heap.size := by omega
  have n12 : (w.heap.size + 1) ≠ (w.heap.size + 1 + 1) := by omega
  have n13 : (w.heap.size + 1) ≠ (w.heap.size + 1 + 1 + 1) := by omega
  have n20 : (w.heap.size + 1 + 1) ≠ w.heap.size := by omega
  have n21 : (w.heap.size + 1 + 1) ≠ (w.heap.size + 1) := by omega
  have n23 : (w.heap.size + 1 + 1) ≠ (w.heap.size + 1 + 1 + 1) := by omega
  have n30 : (w.heap.size + 1 + 1 + 1) ≠ w.heap.size := by omega
  have n31 : (w.heap.size + 1 + 1 + 1) ≠ (w.heap.size + 1) := by omega
  have n32 : (w.heap.size + 1 + 1 + 1) ≠ (w.heap.size + 1 + 1) := by omega
  have le0 : w.heap.size ≤ w.heap.size := by omega
  have le1 : w.heap.size ≤ (w.heap.size + 1) := by omega
  have le2 : w.heap.size ≤ (w.heap.size + 1 + 1) := by omega
  have le3 : w.heap.size ≤ (w.heap.size + 1 + 1 + 1) := by omega
  have B0_x : Blk (((w.alloc (.cells ([.bool true, .int .u8 sl, .int .u16 sd, .int .u8 sy, .int .u8 ss, .bool sh, .int .u16 se] : List Value).toArray 24)).alloc (.cells ([.bool false, .int .u8 0, .int .u16 0, .int .u8 0, .int .u8 0, .bool false, .int .u16 0] : List Value).toArray 24)).alloc (.cells ([.bool false, .bool false, .bool false] : List Value).toArray 31)) w.heap.size 24 [.bool true, .int .u8 sl, .int .u16 sd, .int .u8 sy, .int .u8 ss, .bool sh, .int .u16 se] := blk_past (blk_past (blk_new w _ _) _) _
  have B1_x : Blk (((w.alloc (.cells ([.bool true, .int .u8 sl, .int .u16 sd, .int .u8 sy, .int .u8 ss, .bool sh, .int .u16 se] : List Value).toArray 24)).alloc (.cells ([.bool false, .int .u8 0, .int .u16 0, .int .u8 0, .int .u8 0, .bool false, .int .u16 0] : List Value).toArray 24)).alloc (.cells ([.bool false, .bool false, .bool false] : List Value).toArray 31)) (w.heap.size + 1) 24 [.bool false, .int .u8 0, .int .u16 0, .int .u8 0, .int .u8 0, .bool false, .int .u16 0] := by have q := blk_new (w.alloc (.cells ([.bool true, .int .u8 sl, .int .u16 sd, .int .u8 sy, .int .u8 ss, .bool sh, .int .u16 se] : List Value).toArray 24)) [.bool false, .int .u8 0, .int .u16 0, .int .u8 0, .int .u8 0, .bool false, .int .u16 0] 24; rw [World.size_alloc] at q; exact blk_past q _
  have B2_x : Blk (((w.alloc (.cells ([.bool true, .int .u8 sl, .int .u16 sd, .int .u8 sy, .int .u8 ss, .bool sh, .int .u16 se] : List Value).toArray 24)).alloc (.cells ([.bool false, .int .u8 0, .int .u16 0, .int .u8 0, .int .u8 0, .bool false, .int .u16 0] : List Value).toArray 24)).alloc (.cells ([.bool false, .bool false, .bool false] : List Value).toArray 31)) (w.heap.size + 1 + 1) 31 [.bool false, .bool false, .bool false] := by have q := blk_new ((w.alloc (.cells ([.bool true, .int .u8 sl, .int .u16 sd, .int .u8 sy, .int .u8 ss, .bool sh, .int .u16 se] : List Value).toArray 24)).alloc (.cells ([.bool false, .int .u8 0, .int .u16 0, .int .u8 0, .int .u8 0, .bool false, .int .u16 0] : List Value).toArray 24)) [.bool false, .bool false, .bool false] 31; rw [World.size_alloc, World.size_alloc] at q; exact q
  have y_x : (((w.alloc (.cells ([.bool true, .int .u8 sl, .int .u16 sd, .int .u8 sy, .int .u8 ss, .bool sh, .int .u16 se] : List Value).toArray 24)).alloc (.cells ([.bool false, .int .u8 0, .int .u16 0, .int .u8 0, .int .u8 0, .bool false, .int .u16 0] : List Value).toArray 24)).alloc (.cells ([.bool false, .bool false, .bool false] : List Value).toArray 31)).heap.size = (w.heap.size + 1 + 1 + 1) := by rw [World.size_alloc, World.size_alloc, World.size_alloc]
  have K_x := hid ((((Kept.refl w).alloc (.cells ([.bool true, .int .u8 sl, .int .u16 sd, .int .u8 sy, .int .u8 ss, .bool sh, .int .u16 se] : List Value).toArray 24)).alloc (.cells ([.bool false, .int .u8 0, .int .u16 0, .int .u8 0, .int .u8 0, .bool false, .int .u16 0] : List Value).toArray 24)).alloc (.cells ([.bool false, .bool false, .bool false] : List Value).toArray 31))
  have c0_x := True.intro
  have c1_x := True.intro
  go_enter Try.func17, Try.ntmps17
  go_wp2_with (first
    | ((with_reducible refine at_st 22 ?_); refine wl_store rfl rfl rfl rfl B0_x (by kernel_rfl) rfl (Nat.le_of_ble_eq_true rfl) (fun va pa => ?_); have B0_a : Blk va w.heap.size 24 [.bool true, .int .u8 sl, .int .u16 0, .int .u8 sy, .int .u8 ss, .bool sh, .int .u16 se] := pa.blk; have B1_a := pa.other _ _ _ n10 B1_x; have B2_a := pa.other _ _ _ n20 B2_x; have y_a := pa.size.trans y_x; have K_a := hid (pa.kept _ K_x.out le0); clear pa K_x B0_x B1_x B2_x c0_x c1_x y_x; have c0_a := blk_cell B0_a; have c1_a := blk_lt B1_a)
    | ((with_reducible refine at_st 5 ?_); refine wl_store rfl rfl rfl rfl B0_a (by kernel_rfl) rfl (Nat.le_of_ble_eq_true rfl) (fun vb pb => ?_); have B0_b : Blk vb w.heap.size 24 [.bool true, .int .u8 (sl + 1), .int .u16 0, .int .u8 sy, .int .u8 ss, .bool sh, .int .u16 se] := pb.blk; have B1_b := pb.other _ _ _ n10 B1_a; have B2_b := pb.other _ _ _ n20 B2_a; have y_b := pb.size.trans y_a; have K_b := hid (pb.kept _ K_a.out le0); clear pb K_a B0_a B1_a B2_a c0_a c1_a y_a; have c0_b := blk_cell B0_b; have c1_b := blk_lt B1_b; have B3_n : Blk (vb.alloc (.cells ([.bool false, .bool false, .bool false] : List Value).toArray 31)) (w.heap.size + 1 + 1 + 1) 31 [.bool false, .bool false, .bool false] := (by have q := blk_new vb [.bool false, .bool false, .bool false] 31; rw [y_b] at q; exact q); have B0_n := blk_past B0_b (.cells ([.bool false, .bool false, .bool false] : List Value).toArray 31); have B1_n := blk_past B1_b (.cells ([.bool false, .bool false, .bool false] : List Value).toArray 31); have B2_n := blk_past B2_b (.cells ([.bool false, .bool false, .bool false] : List Value).toArray 31); have K_n := hid (K_b.out.alloc (.cells ([.bool false, .bool false, .bool false] : List Value).toArray 31)); clear B0_b B1_b B2_b K_b c0_b c1_b; have c0_n := blk_cell B0_n; have c1_n := blk_lt B1_n; have c3_n := blk_cell B3_n)
    | ((with_reducible refine at_st 31 ?_); refine wl_store rfl rfl rfl rfl B3_n (by kernel_rfl) rfl (Nat.le_of_ble_eq_true rfl) (fun vc pc => ?_); have B3_c : Blk vc (w.heap.size + 1 + 1 + 1) 31 [.bool false, .bool false, .bool false] := pc.blk; have B0_c := pc.other _ _ _ n03 B0_n; have B1_c := pc.other _ _ _ n13 B1_n; have B2_c := pc.other _ _ _ n23 B2_n; have K_c := hid (pc.kept _ K_n.out le3); clear pc K_n B0_n B1_n B2_n B3_n c0_n c1_n c3_n; have c0_c := blk_cell B0_c; have c1_c := blk_lt B1_c; have c3_c := blk_cell B3_c)
    | ((with_reducible refine at_st 4 ?_); refine wl_store rfl rfl rfl rfl B3_c (by kernel_rfl) rfl (Nat.le_of_ble_eq_true rfl) (fun vg pg => ?_); have B3_g : Blk vg (w.heap.size + 1 + 1 + 1) 31 [.bool true, .bool false, .bool false] := pg.blk; have B0_g := pg.other _ _ _ n03 B0_c; have B1_g := pg.other _ _ _ n13 B1_c; have B2_g := pg.other _ _ _ n23 B2_c; have K_g := hid (pg.kept _ K_c.out le3); clear pg K_c B0_c B1_c B2_c B3_c c0_c c1_c c3_c; have c0_g := blk_cell B0_g; have c1_g := blk_lt B1_g; have c3_g := blk_cell B3_g))
  refine (HA.out _).mono ?_
  rintro e u1 ⟨rfl, k1⟩
  have B0_h := blk_kept k1 B0_g
  have B1_h := blk_kept k1 B1_g
  have B2_h := blk_kept k1 B2_g
  have B3_h := blk_kept k1 B3_g
  have K_h := hid (K_g.out.trans k1)
  clear k1 B0_g B1_g B2_g B3_g K_g c0_g c1_g c3_g
  have c0_h := blk_cell B0_h
  have c1_h := blk_lt B1_h
  have c3_h := blk_cell B3_h
  go_wp2_with (first
    | ((with_reducible refine at_st 24 ?_); refine wl_store rfl rfl rfl rfl B0_h (by kernel_rfl) rfl (Nat.le_of_ble_eq_true rfl) (fun vi pi => ?_); have B0_i : Blk vi w.heap.size 24 [.bool V2.on, .int .u8 V2.line, .int .u16 V2.dot, .int .u8 V2.lyc, .int .u8 V2.sel, .bool V2.high, .int .u16 V2.extra] := pi.blk; have B1_i := pi.other _ _ _ n10 B1_h; have B2_i := pi.other _ _ _ n20 B2_h; have B3_i := pi.other _ _ _ n30 B3_h; have K_i := hid (pi.kept _ K_h.out le0); clear pi K_h B0_h B1_h B2_h B3_h c0_h c1_h c3_h; have c0_i := blk_cell B0_i; have c1_i := blk_lt B1_i; have c3_i := blk_cell B3_i)
    | ((with_reducible refine at_st 4 ?_); refine wl_store rfl rfl rfl rfl B3_i (by kernel_rfl) rfl (Nat.le_of_ble_eq_true rfl) (fun vz pz => ?_); have B3_z : Blk vz (w.heap.size + 1 + 1 + 1) 31 [.bool true, .bool r, .bool false] := pz.blk; have B0_z := pz.other _ _ _ n03 B0_i; have B1_z := pz.other _ _ _ n13 B1_i; have B2_z := pz.other _ _ _ n23 B2_i; have K_z := hid (pz.kept _ K_i.out le3); clear pz K_i B0_i B1_i B2_i B3_i c0_i c1_i c3_i; have c0_z := blk_cell B0_z; have c1_z := blk_lt B1_z; have c3_z := blk_cell B3_z))
  have f1 := blk_froz B1_z
  have f2 := blk_froz B2_z
  have d1_z := blk_cell B1_z
  have d2_z := blk_cell B2_z
  have z2_z := blk_lt B2_z
  have Q1 : Put vz (w.heap.size + 1) 24 [.bool V2.on, .int .u8 V2.line, .int .u16 V2.dot, .int .u8 V2.lyc, .int .u8 V2.sel, .bool V2.high, .int .u16 V2.extra] (vz.setCells (w.heap.size + 1) 0 [.bool V2.on, .int .u8 V2.line, .int .u16 V2.dot, .int .u8 V2.lyc, .int .u8 V2.sel, .bool V2.high, .int .u16 V2.extra]) := put_of B1_z 0 [.bool V2.on, .int .u8 V2.line, .int .u16 V2.dot, .int .u8 V2.lyc, .int .u8 V2.sel, .bool V2.high, .int .u16 V2.extra] (Nat.le_of_ble_eq_true rfl)
  have Q2 : Put vz (w.heap.size + 1 + 1) 31 [.bool true, .bool r, .bool false] (vz.setCells (w.heap.size + 1 + 1) 0 [.bool true, .bool r, .bool false]) := put_of B2_z 0 [.bool true, .bool r, .bool false] (Nat.le_of_ble_eq_true rfl)
  have Q12 : Put (vz.setCells (w.heap.size + 1) 0 [.bool V2.on, .int .u8 V2.line, .int .u16 V2.dot, .int .u8 V2.lyc, .int .u8 V2.sel, .bool V2.high, .int .u16 V2.extra]) (w.heap.size + 1 + 1) 31 [.bool true, .bool r, .bool false] ((vz.setCells (w.heap.size + 1) 0 [.bool V2.on, .int .u8 V2.line, .int .u16 V2.dot, .int .u8 V2.lyc, .int .u8 V2.sel, .bool V2.high, .int .u16 V2.extra]).setCells (w.heap.size + 1 + 1) 0 [.bool true, .bool r, .bool false]) := put_of (Q1.other _ _ _ n21 B2_z) 0 [.bool true, .bool r, .bool false] (Nat.le_of_ble_eq_true rfl)
  have Q21 : Put (vz.setCells (w.heap.size + 1 + 1) 0 [.bool true, .bool r, .bool false]) (w.heap.size + 1) 24 [.bool V2.on, .int .u8 V2.line, .int .u16 V2.dot, .int .u8 V2.lyc, .int .u8 V2.sel, .bool V2.high, .int .u16 V2.extra] ((vz.setCells (w.heap.size + 1 + 1) 0 [.bool true, .bool r, .bool false]).setCells (w.heap.size + 1) 0 [.bool V2.on, .int .u8 V2.line, .int .u16 V2.dot, .int .u8 V2.lyc, .int .u8 V2.sel, .bool V2.high, .int .u16 V2.extra]) := put_of (Q2.other _ _ _ n12 B1_z) 0 [.bool V2.on, .int .u8 V2.line, .int .u16 V2.dot, .int .u8 V2.lyc, .int .u8 V2.sel, .bool V2.high, .int .u16 V2.extra] (Nat.le_of_ble_eq_true rfl)
  have R12 := hid (And.intro (Q12.other _ _ _ n12 Q1.blk) (And.intro Q12.blk (Q12.kept _ (Q1.kept _ K_z.out le1) le2)))
  have R21 := hid (And.intro Q21.blk (And.intro (Q21.other _ _ _ n21 Q2.blk) (Q21.kept _ (Q2.kept _ K_z.out le2) le1)))
  clear Q1 Q2 Q12 Q21
  go_region
  all_goals
    go_wp2_with fail
    first
    | (rw [← cells3, ← cells7]
       exact bodyPost_ret (res_two Try.results17 rfl rfl (blk_drew R12.out.1) (blk_drew R12.out.2.1) Try.underlying24 rfl (by kernel_rfl) Try.underlying31 rfl (by kernel_rfl)) rfl ⟨rfl, R12.out.2.2.drew⟩)
    | (rw [← cells7, ← cells3]
       exact bodyPost_ret (res_two Try.results17 rfl rfl (blk_drew R21.out.1) (blk_drew R21.out.2.1) Try.underlying24 rfl (by kernel_rfl) Try.underlying31 rfl (by kernel_rfl)) rfl ⟨rfl, R21.out.2.2.drew⟩)
set_option maxRecDepth 100000 in
set_option maxHeartbeats 4000000 in
theorem rstep15_Bk (l V2 : Lc) (x : Int) (r : Bool) (w : World) (I : LcIn l) (x0 : 0 ≤ x) (x1 : x ≤ 65535) (h : l.on = true) (a : ¬ l.dot < 455) (b : l.line < 153) (q : 144 < l.line + 1) (HA : ∀ u, Calls Try.prog 30 #[lcV ⟨true, l.line + 1, 0, l.lyc, l.sel, l.high, l.extra⟩] u fun e w' => e = .returned (.tuple #[lcV V2, .bool r]) ∧ Kept u w') : Calls Try.prog 17 #[lcV l, .int .u16 x] w fun e w' => e = .returned (.tuple #[lcV V2, evV false r false]) ∧ Kept w w' := by
  have HA := hid HA
  obtain ⟨so, sl, sd, sy, ss, sh, se⟩ := l
  have l0 := I.l0
  have l1 := I.l1
  have d0 := I.d0
  have d1 := I.d1
  have y0 := I.y0
  have y1 := I.y1
  have s0 := I.s0
  have s1 := I.s1
  have e0 := I.e0
  have e1 := I.e1
  simp only at l0 l1 d0 d1 y0 y1 s0 s1 e0 e1
  try simp only at *
  subst h
  have a1 : decide (456 ≤ sd + 1) = true := decide_eq_true (by omega)
  have a5 : decide (455 ≤ sd) = true := decide_eq_true (by omega)
  have a2 : decide (154 ≤ sl + 1) = false := decide_eq_false (by omega)
  have a6 : decide (153 ≤ sl) = false := decide_eq_false (by omega)
  have a3 : IntKind.u8.wrap (sl + 1) = sl + 1 := by rw [IntKind.wrap_u8]; omega
  have a4 : IntKind.i64.wrap (sl + 1) = sl + 1 := by rw [IntKind.wrap_i64]; omega
  have b1 : decide (sl + 1 < 144) = false := decide_eq_false (by omega)
  have b2 : (sl + 1 == 144) = false := by simp; omega
  clear I
  have n01 : w.heap.size ≠ (w.heap.size + 1) := by omega
  have n02 : w.heap.size ≠ (w.heap.size + 1 + 1) := by omega
  have n03 : w.heap.size ≠ (w.heap.size + 1 + 1 + 1) := by omega
  have n10 : (w.heap.size + 1) ≠ w.heap.size := by omega
  have n12 : (w.heap.size + 1) ≠ (w.heap.size + 1 + 1) := by omega
  have n13 : (w.heap.size + 1) ≠ (w.heap.size + 1 + 1 + 1) := by omega
  have n20 : (w.heap.size + 1 + 1) ≠ w.heap.size := by omega
  have n21 : (w.heap.size + 1 + 1) ≠ (w.heap.size + 1) := by omega
  have n23 : (w.heap.size + 1 + 1) ≠ (w.heap.size + 1 + 1 + 1) := by omega
  have n30 : (w.heap.size + 1 + 1 + 1) ≠ w.heap.size := by omega
  have n31 : (w.heap.size + 1 + 1 + 1) ≠ (w.heap.size + 1) := by omega
  have n32 : (w.heap.size + 1 + 1 + 1) ≠ (w.heap.size + 1 + 1) := by omega
  have le0 : w.heap.size ≤ w.heap.size := by omega
  have le1 : w.heap.size ≤ (w.heap.size + 1) := by omega
  have le2 : w.heap.size ≤ (w.heap.size + 1 + 1) := by omega
  have le3 : w.heap.size ≤ (w.heap.size + 1 + 1 + 1) := by omega
  have B0_x : Blk (((w.alloc (.cells ([.bool true, .int .u8 sl, .int .u16 sd, .int .u8 sy, .int .u8 ss, .bool sh, .int .u16 se] : List Value).toArray 24)).alloc (.cells ([.bool false, .int .u8 0, .int .u16 0, .int .u8 0, .int .u8 0, .bool false, .int .u16 0] : List Value).toArray 24)).alloc (.cells ([.bool false, .bool false, .bool false] : List Value).toArray 31)) w.heap.size 24 [.bool true, .int .u8 sl, .int .u16 sd, .int .u8 sy, .int .u8 ss, .bool sh, .int .u16 se] := blk_past (blk_past (blk_new w _ _) _) _
  have B1_x : Blk (((w.alloc (.cells ([.bool true, .int .u8 sl, .int .u16 sd, .int .u8 sy, .int .u8 ss, .bool sh, .int .u16 se] : List Value).toArray 24)).alloc (.cells ([.bool false, .int .u8 0, .int .u16 0, .int .u8 0, .int .u8 0, .bool false, .int .u16 0] : List Value).toArray 24)).alloc (.cells ([.bool false, .bool false, .bool false] : List Value).toArray 31)) (w.heap.size + 1) 24 [.bool false, .int .u8 0, .int .u16 0, .int .u8 0, .int .u8 0, .bool false, .int .u16 0] := by have q := blk_new (w.alloc (.cells ([.bool true, .int .u8 sl, .int .u16 sd, .int .u8 sy, .int .u8 ss, .bool sh, .int .u16 se] : List Value).toArray 24)) [.bool false, .int .u8 0, .int .u16 0, .int .u8 0, .int .u8 0, .bool false, .int .u16 0] 24; rw [World.size_alloc] at q; exact blk_past q _
  have B2_x : Blk (((w.alloc (.cells ([.bool true, .int .u8 sl, .int .u16 sd, .int .u8 sy, .int .u8 ss, .bool sh, .int .u16 se] : List Value).toArray 24)).alloc (.cells ([.bool false, .int .u8 0, .int .u16 0, .int .u8 0, .int .u8 0, .bool false, .int .u16 0] : List Value).toArray 24)).alloc (.cells ([.bool false, .bool false, .bool false] : List Value).toArray 31)) (w.heap.size + 1 + 1) 31 [.bool false, .bool false, .bool false] := by have q := blk_new ((w.alloc (.cells ([.bool true, .int .u8 sl, .int .u16 sd, .int .u8 sy, .int .u8 ss, .bool sh, .int .u16 se] : List Value).toArray 24)).alloc (.cells ([.bool false, .int .u8 0, .int .u16 0, .int .u8 0, .int .u8 0, .bool false, .int .u16 0] : List Value).toArray 24)) [.bool false, .bool false, .bool false] 31; rw [World.size_alloc, World.size_alloc] at q; exact q
  have y_x : (((w.alloc (.cells ([.bool true, .int .u8 sl, .int .u16 sd, .int .u8 sy, .int .u8 ss, .bool sh, .int .u16 se] : List Value).toArray 24)).alloc (.cells ([.bool false, .int .u8 0, .int .u16 0, .int .u8 0, .int .u8 0, .bool false, .int .u16 0] : List Value).toArray 24)).alloc (.cells ([.bool false, .bool false, .bool false] : List Value).toArray 31)).heap.size = (w.heap.size + 1 + 1 + 1) := by rw [World.size_alloc, World.size_alloc, World.size_alloc]
  have K_x := hid ((((Kept.refl w).alloc (.cells ([.bool true, .int .u8 sl, .int .u16 sd, .int .u8 sy, .int .u8 ss, .bool sh, .int .u16 se] : List Value).toArray 24)).alloc (.cells ([.bool false, .int .u8 0, .int .u16 0, .int .u8 0, .int .u8 0, .bool false, .int .u16 0] : List Value).toArray 24)).alloc (.cells ([.bool false, .bool false, .bool false] : List Value).toArray 31))
  have c0_x := True.intro
  have c1_x := True.intro
  go_enter Try.func17, Try.ntmps17
  go_wp2_with (first
    | ((with_reducible refine at_st 22 ?_); refine wl_store rfl rfl rfl rfl B0_x (by kernel_rfl) rfl (Nat.le_of_ble_eq_true rfl) (fun va pa => ?_); have B0_a : Blk va w.heap.size 24 [.bool true, .int .u8 sl, .int .u16 0, .int .u8 sy, .int .u8 ss, .bool sh, .int .u16 se] := pa.blk; have B1_a := pa.other _ _ _ n10 B1_x; have B2_a := pa.other _ _ _ n20 B2_x; have y_a := pa.size.trans y_x; have K_a := hid (pa.kept _ K_x.out le0); clear pa K_x B0_x B1_x B2_x c0_x c1_x y_x; have c0_a := blk_cell B0_a; have c1_a := blk_lt B1_a)
    | ((with_reducible refine at_st 5 ?_); refine wl_store rfl rfl rfl rfl B0_a (by kernel_rfl) rfl (Nat.le_of_ble_eq_true rfl) (fun vb pb => ?_); have B0_b : Blk vb w.heap.size 24 [.bool true, .int .u8 (sl + 1), .int .u16 0, .int .u8 sy, .int .u8 ss, .bool sh, .int .u16 se] := pb.blk; have B1_b := pb.other _ _ _ n10 B1_a; have B2_b := pb.other _ _ _ n20 B2_a; have y_b := pb.size.trans y_a; have K_b := hid (pb.kept _ K_a.out le0); clear pb K_a B0_a B1_a B2_a c0_a c1_a y_a; have c0_b := blk_cell B0_b; have c1_b := blk_lt B1_b; have B3_n : Blk (vb.alloc (.cells ([.bool false, .bool false, .bool false] : List Value).toArray 31)) (w.heap.size + 1 + 1 + 1) 31 [.bool false, .bool false, .bool false] := (by have q := blk_new vb [.bool false, .bool false, .bool false] 31; rw [y_b] at q; exact q); have B0_n := blk_past B0_b (.cells ([.bool false, .bool false, .bool false] : List Value).toArray 31); have B1_n := blk_past B1_b (.cells ([.bool false, .bool false, .bool false] : List Value).toArray 31); have B2_n := blk_past B2_b (.cells ([.bool false, .bool false, .bool false] : List Value).toArray 31); have K_n := hid (K_b.out.alloc (.cells ([.bool false, .bool false, .bool false] : List Value).toArray 31)); clear B0_b B1_b B2_b K_b c0_b c1_b; have c0_n := blk_cell B0_n; have c1_n := blk_lt B1_n; have c3_n := blk_cell B3_n)
    | ((with_reducible refine at_st 31 ?_); refine wl_store rfl rfl rfl rfl B3_n (by kernel_rfl) rfl (Nat.le_of_ble_eq_true rfl) (fun vc pc => ?_); have B3_c : Blk vc (w.heap.size + 1 + 1 + 1) 31 [.bool false, .bool false, .bool false] := pc.blk; have B0_c := pc.other _ _ _ n03 B0_n; have B1_c := pc.other _ _ _ n13 B1_n; have B2_c := pc.other _ _ _ n23 B2_n; have K_c := hid (pc.kept _ K_n.out le3); clear pc K_n B0_n B1_n B2_n B3_n c0_n c1_n c3_n; have c0_c := blk_cell B0_c; have c1_c := blk_lt B1_c; have c3_c := blk_cell B3_c)
    | ((with_reducible refine at_st 4 ?_); refine wl_store rfl rfl rfl rfl B3_c (by kernel_rfl) rfl (Nat.le_of_ble_eq_true rfl) (fun vg pg => ?_); have B3_g : Blk vg (w.heap.size + 1 + 1 + 1) 31 [.bool false, .bool false, .bool false] := pg.blk; have B0_g := pg.other _ _ _ n03 B0_c; have B1_g := pg.other _ _ _ n13 B1_c; have B2_g := pg.other _ _ _ n23 B2_c; have K_g := hid (pg.kept _ K_c.out le3); clear pg K_c B0_c B1_c B2_c B3_c c0_c c1_c c3_c; have c0_g := blk_cell B0_g; have c1_g := blk_lt B1_g; have c3_g := blk_cell B3_g))
  refine (HA.out _).mono ?_
  rintro e u1 ⟨rfl, k1⟩
  have B0_h := blk_kept k1 B0_g
  have B1_h := blk_kept k1 B1_g
  have B2_h := blk_kept k1 B2_g
  have B3_h := blk_kept k1 B3_g
  have K_h := hid (K_g.out.trans k1)
  clear k1 B0_g B1_g B2_g B3_g K_g c0_g c1_g c3_g
  have c0_h := blk_cell B0_h
  have c1_h := blk_lt B1_h
  have c3_h := blk_cell B3_h
  go_wp2_with (first
    | ((with_reducible refine at_st 24 ?_); refine wl_store rfl rfl rfl rfl B0_h (by kernel_rfl) rfl (Nat.le_of_ble_eq_true rfl) (fun vi pi => ?_); have B0_i : Blk vi w.heap.size 24 [.bool V2.on, .int .u8 V2.line, .int .u16 V2.dot, .int .u8 V2.lyc, .int .u8 V2.sel, .bool V2.high, .int .u16 V2.extra] := pi.blk; have B1_i := pi.other _ _ _ n10 B1_h; have B2_i := pi.other _ _ _ n20 B2_h; have B3_i := pi.other _ _ _ n30 B3_h; have K_i := hid (pi.kept _ K_h.out le0); clear pi K_h B0_h B1_h B2_h B3_h c0_h c1_h c3_h; have c0_i := blk_cell B0_i; have c1_i := blk_lt B1_i; have c3_i := blk_cell B3_i)
    | ((with_reducible refine at_st 4 ?_); refine wl_store rfl rfl rfl rfl B3_i (by kernel_rfl) rfl (Nat.le_of_ble_eq_true rfl) (fun vz pz => ?_); have B3_z : Blk vz (w.heap.size + 1 + 1 + 1) 31 [.bool false, .bool r, .bool false] := pz.blk; have B0_z := pz.other _ _ _ n03 B0_i; have B1_z := pz.other _ _ _ n13 B1_i; have B2_z := pz.other _ _ _ n23 B2_i; have K_z := hid (pz.kept _ K_i.out le3); clear pz K_i B0_i B1_i B2_i B3_i c0_i c1_i c3_i; have c0_z := blk_cell B0_z; have c1_z := blk_lt B1_z; have c3_z := blk_cell B3_z))
  have f1 := blk_froz B1_z
  have f2 := blk_froz B2_z
  have d1_z := blk_cell B1_z
  have d2_z := blk_cell B2_z
  have z2_z := blk_lt B2_z
  have Q1 : Put vz (w.heap.size + 1) 24 [.bool V2.on, .int .u8 V2.line, .int .u16 V2.dot, .int .u8 V2.lyc, .int .u8 V2.sel, .bool V2.high, .int .u16 V2.extra] (vz.setCells (w.heap.size + 1) 0 [.bool V2.on, .int .u8 V2.line, .int .u16 V2.dot, .int .u8 V2.lyc, .int .u8 V2.sel, .bool V2.high, .int .u16 V2.extra]) := put_of B1_z 0 [.bool V2.on, .int .u8 V2.line, .int .u16 V2.dot, .int .u8 V2.lyc, .int .u8 V2.sel, .bool V2.high, .int .u16 V2.extra] (Nat.le_of_ble_eq_true rfl)
  have Q2 : Put vz (w.heap.size + 1 + 1) 31 [.bool false, .bool r, .bool false] (vz.setCells (w.heap.size + 1 + 1) 0 [.bool false, .bool r, .bool false]) := put_of B2_z 0 [.bool false, .bool r, .bool false] (Nat.le_of_ble_eq_true rfl)
  have Q12 : Put (vz.setCells (w.heap.size + 1) 0 [.bool V2.on, .int .u8 V2.line, .int .u16 V2.dot, .int .u8 V2.lyc, .int .u8 V2.sel, .bool V2.high, .int .u16 V2.extra]) (w.heap.size + 1 + 1) 31 [.bool false, .bool r, .bool false] ((vz.setCells (w.heap.size + 1) 0 [.bool V2.on, .int .u8 V2.line, .int .u16 V2.dot, .int .u8 V2.lyc, .int .u8 V2.sel, .bool V2.high, .int .u16 V2.extra]).setCells (w.heap.size + 1 + 1) 0 [.bool false, .bool r, .bool false]) := put_of (Q1.other _ _ _ n21 B2_z) 0 [.bool false, .bool r, .bool false] (Nat.le_of_ble_eq_true rfl)
  have Q21 : Put (vz.setCells (w.heap.size + 1 + 1) 0 [.bool false, .bool r, .bool false]) (w.heap.size + 1) 24 [.bool V2.on, .int .u8 V2.line, .int .u16 V2.dot, .int .u8 V2.lyc, .int .u8 V2.sel, .bool V2.high, .int .u16 V2.extra] ((vz.setCells (w.heap.size + 1 + 1) 0 [.bool false, .bool r, .bool false]).setCells (w.heap.size + 1) 0 [.bool V2.on, .int .u8 V2.line, .int .u16 V2.dot, .int .u8 V2.lyc, .int .u8 V2.sel, .bool V2.high, .int .u16 V2.extra]) := put_of (Q2.other _ _ _ n12 B1_z) 0 [.bool V2.on, .int .u8 V2.line, .int .u16 V2.dot, .int .u8 V2.lyc, .int .u8 V2.sel, .bool V2.high, .int .u16 V2.extra] (Nat.le_of_ble_eq_true rfl)
  have R12 := hid (And.intro (Q12.other _ _ _ n12 Q1.blk) (And.intro Q12.blk (Q12.kept _ (Q1.kept _ K_z.out le1) le2)))
  have R21 := hid (And.intro Q21.blk (And.intro (Q21.other _ _ _ n21 Q2.blk) (Q21.kept _ (Q2.kept _ K_z.out le2) le1)))
  clear Q1 Q2 Q12 Q21
  go_region
  all_goals
    go_wp2_with fail
    first
    | (rw [← cells3, ← cells7]
       exact bodyPost_ret (res_two Try.results17 rfl rfl (blk_drew R12.out.1) (blk_drew R12.out.2.1) Try.underlying24 rfl (by kernel_rfl) Try.underlying31 rfl (by kernel_rfl)) rfl ⟨rfl, R12.out.2.2.drew⟩)
    | (rw [← cells7, ← cells3]
       exact bodyPost_ret (res_two Try.results17 rfl rfl (blk_drew R21.out.1) (blk_drew R21.out.2.1) Try.underlying24 rfl (by kernel_rfl) Try.underlying31 rfl (by kernel_rfl)) rfl ⟨rfl, R21.out.2.2.drew⟩)
set_option maxRecDepth 100000 in
set_option maxHeartbeats 4000000 in
theorem rstep15_Cn (l V2 : Lc) (x : Int) (r : Bool) (w : World) (I : LcIn l) (x0 : 0 ≤ x) (x1 : x ≤ 65535) (h : l.on = true) (a : ¬ l.dot < 455) (b : ¬ l.line < 153) (HA : ∀ u, Calls Try.prog 30 #[lcV ⟨true, (0 : Int), 0, l.lyc, l.sel, l.high, l.extra⟩] u fun e w' => e = .returned (.tuple #[lcV V2, .bool r]) ∧ Kept u w') : Calls Try.prog 17 #[lcV l, .int .u16 x] w fun e w' => e = .returned (.tuple #[lcV V2, evV false r false]) ∧ Kept w w' := by
  have HA := hid HA
  obtain ⟨so, sl, sd, sy, ss, sh, se⟩ := l
  have l0 := I.l0
  have l1 := I.l1
  have d0 := I.d0
  have d1 := I.d1
  have y0 := I.y0
  have y1 := I.y1
  have s0 := I.s0
  have s1 := I.s1
  have e0 := I.e0
  have e1 := I.e1
  simp only at l0 l1 d0 d1 y0 y1 s0 s1 e0 e1
  try simp only at *
  subst h
  have a1 : decide (456 ≤ sd + 1) = true := decide_eq_true (by omega)
  have a5 : decide (455 ≤ sd) = true := decide_eq_true (by omega)
  have a2 : decide (154 ≤ sl + 1) = true := decide_eq_true (by omega)
  have a6 : decide (153 ≤ sl) = true := decide_eq_true (by omega)
  clear I
  have n01 : w.heap.size ≠ (w.heap.size + 1) := by omega
  have n02 : w.heap.size ≠ (w.heap.size + 1 + 1) := by omega
  have n03 : w.heap.size ≠ (w.heap.size + 1 + 1 + 1) := by omega
  have n10 : (w.heap.size + 1) ≠ w.heap.size := by omega
  have n12 : (w.heap.size + 1) ≠ (w.heap.size + 1 + 1) := by omega
  have n13 : (w.heap.size + 1) ≠ (w.heap.size + 1 + 1 + 1) := by omega
  have n20 : (w.heap.size + 1 + 1) ≠ w.heap.size := by omega
  have n21 : (w.heap.size + 1 + 1) ≠ (w.heap.size + 1) := by omega
  have n23 : (w.heap.size + 1 + 1) ≠ (w.heap.size + 1 + 1 + 1) := by omega
  have n30 : (w.heap.size + 1 + 1 + 1) ≠ w.heap.size := by omega
  have n31 : (w.heap.size + 1 + 1 + 1) ≠ (w.heap.size + 1) := by omega
  have n32 : (w.heap.size + 1 + 1 + 1) ≠ (w.heap.size + 1 + 1) := by omega
  have le0 : w.heap.size ≤ w.heap.size := by omega
  have le1 : w.heap.size ≤ (w.heap.size + 1) := by omega
  have le2 : w.heap.size ≤ (w.heap.size + 1 + 1) := by omega
  have le3 : w.heap.size ≤ (w.heap.size + 1 + 1 + 1) := by omega
  have B0_x : Blk (((w.alloc (.cells ([.bool true, .int .u8 sl, .int .u16 sd, .int .u8 sy, .int .u8 ss, .bool sh, .int .u16 se] : List Value).toArray 24)).alloc (.cells ([.bool false, .int .u8 0, .int .u16 0, .int .u8 0, .int .u8 0, .bool false, .int .u16 0] : List Value).toArray 24)).alloc (.cells ([.bool false, .bool false, .bool false] : List Value).toArray 31)) w.heap.size 24 [.bool true, .int .u8 sl, .int .u16 sd, .int .u8 sy, .int .u8 ss, .bool sh, .int .u16 se] := blk_past (blk_past (blk_new w _ _) _) _
  have B1_x : Blk (((w.alloc (.cells ([.bool true, .int .u8 sl, .int .u16 sd, .int .u8 sy, .int .u8 ss, .bool sh, .int .u16 se] : List Value).toArray 24)).alloc (.cells ([.bool false, .int .u8 0, .int .u16 0, .int .u8 0, .int .u8 0, .bool false, .int .u16 0] : List Value).toArray 24)).alloc (.cells ([.bool false, .bool false, .bool false] : List Value).toArray 31)) (w.heap.size + 1) 24 [.bool false, .int .u8 0, .int .u16 0, .int .u8 0, .int .u8 0, .bool false, .int .u16 0] := by have q := blk_new (w.alloc (.cells ([.bool true, .int .u8 sl, .int .u16 sd, .int .u8 sy, .int .u8 ss, .bool sh, .int .u16 se] : List Value).toArray 24)) [.bool false, .int .u8 0, .int .u16 0, .int .u8 0, .int .u8 0, .bool false, .int .u16 0] 24; rw [World.size_alloc] at q; exact blk_past q _
  have B2_x : Blk (((w.alloc (.cells ([.bool true, .int .u8 sl, .int .u16 sd, .int .u8 sy, .int .u8 ss, .bool sh, .int .u16 se] : List Value).toArray 24)).alloc (.cells ([.bool false, .int .u8 0, .int .u16 0, .int .u8 0, .int .u8 0, .bool false, .int .u16 0] : List Value).toArray 24)).alloc (.cells ([.bool false, .bool false, .bool false] : List Value).toArray 31)) (w.heap.size + 1 + 1) 31 [.bool false, .bool false, .bool false] := by have q := blk_new ((w.alloc (.cells ([.bool true, .int .u8 sl, .int .u16 sd, .int .u8 sy, .int .u8 ss, .bool sh, .int .u16 se] : List Value).toArray 24)).alloc (.cells ([.bool false, .int .u8 0, .int .u16 0, .int .u8 0, .int .u8 0, .bool false, .int .u16 0] : List Value).toArray 24)) [.bool false, .bool false, .bool false] 31; rw [World.size_alloc, World.size_alloc] at q; exact q
  have y_x : (((w.alloc (.cells ([.bool true, .int .u8 sl, .int .u16 sd, .int .u8 sy, .int .u8 ss, .bool sh, .int .u16 se] : List Value).toArray 24)).alloc (.cells ([.bool false, .int .u8 0, .int .u16 0, .int .u8 0, .int .u8 0, .bool false, .int .u16 0] : List Value).toArray 24)).alloc (.cells ([.bool false, .bool false, .bool false] : List Value).toArray 31)).heap.size = (w.heap.size + 1 + 1 + 1) := by rw [World.size_alloc, World.size_alloc, World.size_alloc]
  have K_x := hid ((((Kept.refl w).alloc (.cells ([.bool true, .int .u8 sl, .int .u16 sd, .int .u8 sy, .int .u8 ss, .bool sh, .int .u16 se] : List Value).toArray 24)).alloc (.cells ([.bool false, .int .u8 0, .int .u16 0, .int .u8 0, .int .u8 0, .bool false, .int .u16 0] : List Value).toArray 24)).alloc (.cells ([.bool false, .bool false, .bool false] : List Value).toArray 31))
  have c0_x := True.intro
  have c1_x := True.intro
  go_enter Try.func17, Try.ntmps17
  go_wp2_with (first
    | ((with_reducible refine at_st 22 ?_); refine wl_store rfl rfl rfl rfl B0_x (by kernel_rfl) rfl (Nat.le_of_ble_eq_true rfl) (fun va pa => ?_); have B0_a : Blk va w.heap.size 24 [.bool true, .int .u8 sl, .int .u16 0, .int .u8 sy, .int .u8 ss, .bool sh, .int .u16 se] := pa.blk; have B1_a := pa.other _ _ _ n10 B1_x; have B2_a := pa.other _ _ _ n20 B2_x; have y_a := pa.size.trans y_x; have K_a := hid (pa.kept _ K_x.out le0); clear pa K_x B0_x B1_x B2_x c0_x c1_x y_x; have c0_a := blk_cell B0_a; have c1_a := blk_lt B1_a)
    | ((with_reducible refine at_st 5 ?_); refine wl_store rfl rfl rfl rfl B0_a (by kernel_rfl) rfl (Nat.le_of_ble_eq_true rfl) (fun vb pb => ?_); have B0_b : Blk vb w.heap.size 24 [.bool true, .int .u8 0, .int .u16 0, .int .u8 sy, .int .u8 ss, .bool sh, .int .u16 se] := pb.blk; have B1_b := pb.other _ _ _ n10 B1_a; have B2_b := pb.other _ _ _ n20 B2_a; have y_b := pb.size.trans y_a; have K_b := hid (pb.kept _ K_a.out le0); clear pb K_a B0_a B1_a B2_a c0_a c1_a y_a; have c0_b := blk_cell B0_b; have c1_b := blk_lt B1_b; have B3_n : Blk (vb.alloc (.cells ([.bool false, .bool false, .bool false] : List Value).toArray 31)) (w.heap.size + 1 + 1 + 1) 31 [.bool false, .bool false, .bool false] := (by have q := blk_new vb [.bool false, .bool false, .bool false] 31; rw [y_b] at q; exact q); have B0_n := blk_past B0_b (.cells ([.bool false, .bool false, .bool false] : List Value).toArray 31); have B1_n := blk_past B1_b (.cells ([.bool false, .bool false, .bool false] : List Value).toArray 31); have B2_n := blk_past B2_b (.cells ([.bool false, .bool false, .bool false] : List Value).toArray 31); have K_n := hid (K_b.out.alloc (.cells ([.bool false, .bool false, .bool false] : List Value).toArray 31)); clear B0_b B1_b B2_b K_b c0_b c1_b; have c0_n := blk_cell B0_n; have c1_n := blk_lt B1_n; have c3_n := blk_cell B3_n)
    | ((with_reducible refine at_st 31 ?_); refine wl_store rfl rfl rfl rfl B3_n (by kernel_rfl) rfl (Nat.le_of_ble_eq_true rfl) (fun vc pc => ?_); have B3_c : Blk vc (w.heap.size + 1 + 1 + 1) 31 [.bool false, .bool false, .bool false] := pc.blk; have B0_c := pc.other _ _ _ n03 B0_n; have B1_c := pc.other _ _ _ n13 B1_n; have B2_c := pc.other _ _ _ n23 B2_n; have K_c := hid (pc.kept _ K_n.out le3); clear pc K_n B0_n B1_n B2_n B3_n c0_n c1_n c3_n; have c0_c := blk_cell B0_c; have c1_c := blk_lt B1_c; have c3_c := blk_cell B3_c)
    | ((with_reducible refine at_st 4 ?_); refine wl_store rfl rfl rfl rfl B3_c (by kernel_rfl) rfl (Nat.le_of_ble_eq_true rfl) (fun vg pg => ?_); have B3_g : Blk vg (w.heap.size + 1 + 1 + 1) 31 [.bool false, .bool false, .bool false] := pg.blk; have B0_g := pg.other _ _ _ n03 B0_c; have B1_g := pg.other _ _ _ n13 B1_c; have B2_g := pg.other _ _ _ n23 B2_c; have K_g := hid (pg.kept _ K_c.out le3); clear pg K_c B0_c B1_c B2_c B3_c c0_c c1_c c3_c; have c0_g := blk_cell B0_g; have c1_g := blk_lt B1_g; have c3_g := blk_cell B3_g))
  refine (HA.out _).mono ?_
  rintro e u1 ⟨rfl, k1⟩
  have B0_h := blk_kept k1 B0_g
  have B1_h := blk_kept k1 B1_g
  have B2_h := blk_kept k1 B2_g
  have B3_h := blk_kept k1 B3_g
  have K_h := hid (K_g.out.trans k1)
  clear k1 B0_g B1_g B2_g B3_g K_g c0_g c1_g c3_g
  have c0_h := blk_cell B0_h
  have c1_h := blk_lt B1_h
  have c3_h := blk_cell B3_h
  go_wp2_with (first
    | ((with_reducible refine at_st 24 ?_); refine wl_store rfl rfl rfl rfl B0_h (by kernel_rfl) rfl (Nat.le_of_ble_eq_true rfl) (fun vi pi => ?_); have B0_i : Blk vi w.heap.size 24 [.bool V2.on, .int .u8 V2.line, .int .u16 V2.dot, .int .u8 V2.lyc, .int .u8 V2.sel, .bool V2.high, .int .u16 V2.extra] := pi.blk; have B1_i := pi.other _ _ _ n10 B1_h; have B2_i := pi.other _ _ _ n20 B2_h; have B3_i := pi.other _ _ _ n30 B3_h; have K_i := hid (pi.kept _ K_h.out le0); clear pi K_h B0_h B1_h B2_h B3_h c0_h c1_h c3_h; have c0_i := blk_cell B0_i; have c1_i := blk_lt B1_i; have c3_i := blk_cell B3_i)
    | ((with_reducible refine at_st 4 ?_); refine wl_store rfl rfl rfl rfl B3_i (by kernel_rfl) rfl (Nat.le_of_ble_eq_true rfl) (fun vz pz => ?_); have B3_z : Blk vz (w.heap.size + 1 + 1 + 1) 31 [.bool false, .bool r, .bool false] := pz.blk; have B0_z := pz.other _ _ _ n03 B0_i; have B1_z := pz.other _ _ _ n13 B1_i; have B2_z := pz.other _ _ _ n23 B2_i; have K_z := hid (pz.kept _ K_i.out le3); clear pz K_i B0_i B1_i B2_i B3_i c0_i c1_i c3_i; have c0_z := blk_cell B0_z; have c1_z := blk_lt B1_z; have c3_z := blk_cell B3_z))
  have f1 := blk_froz B1_z
  have f2 := blk_froz B2_z
  have d1_z := blk_cell B1_z
  have d2_z := blk_cell B2_z
  have z2_z := blk_lt B2_z
  have Q1 : Put vz (w.heap.size + 1) 24 [.bool V2.on, .int .u8 V2.line, .int .u16 V2.dot, .int .u8 V2.lyc, .int .u8 V2.sel, .bool V2.high, .int .u16 V2.extra] (vz.setCells (w.heap.size + 1) 0 [.bool V2.on, .int .u8 V2.line, .int .u16 V2.dot, .int .u8 V2.lyc, .int .u8 V2.sel, .bool V2.high, .int .u16 V2.extra]) := put_of B1_z 0 [.bool V2.on, .int .u8 V2.line, .int .u16 V2.dot, .int .u8 V2.lyc, .int .u8 V2.sel, .bool V2.high, .int .u16 V2.extra] (Nat.le_of_ble_eq_true rfl)
  have Q2 : Put vz (w.heap.size + 1 + 1) 31 [.bool false, .bool r, .bool false] (vz.setCells (w.heap.size + 1 + 1) 0 [.bool false, .bool r, .bool false]) := put_of B2_z 0 [.bool false, .bool r, .bool false] (Nat.le_of_ble_eq_true rfl)
  have Q12 : Put (vz.setCells (w.heap.size + 1) 0 [.bool V2.on, .int .u8 V2.line, .int .u16 V2.dot, .int .u8 V2.lyc, .int .u8 V2.sel, .bool V2.high, .int .u16 V2.extra]) (w.heap.size + 1 + 1) 31 [.bool false, .bool r, .bool false] ((vz.setCells (w.heap.size + 1) 0 [.bool V2.on, .int .u8 V2.line, .int .u16 V2.dot, .int .u8 V2.lyc, .int .u8 V2.sel, .bool V2.high, .int .u16 V2.extra]).setCells (w.heap.size + 1 + 1) 0 [.bool false, .bool r, .bool false]) := put_of (Q1.other _ _ _ n21 B2_z) 0 [.bool false, .bool r, .bool false] (Nat.le_of_ble_eq_true rfl)
  have Q21 : Put (vz.setCells (w.heap.size + 1 + 1) 0 [.bool false, .bool r, .bool false]) (w.heap.size + 1) 24 [.bool V2.on, .int .u8 V2.line, .int .u16 V2.dot, .int .u8 V2.lyc, .int .u8 V2.sel, .bool V2.high, .int .u16 V2.extra] ((vz.setCells (w.heap.size + 1 + 1) 0 [.bool false, .bool r, .bool false]).setCells (w.heap.size + 1) 0 [.bool V2.on, .int .u8 V2.line, .int .u16 V2.dot, .int .u8 V2.lyc, .int .u8 V2.sel, .bool V2.high, .int .u16 V2.extra]) := put_of (Q2.other _ _ _ n12 B1_z) 0 [.bool V2.on, .int .u8 V2.line, .int .u16 V2.dot, .int .u8 V2.lyc, .int .u8 V2.sel, .bool V2.high, .int .u16 V2.extra] (Nat.le_of_ble_eq_true rfl)
  have R12 := hid (And.intro (Q12.other _ _ _ n12 Q1.blk) (And.intro Q12.blk (Q12.kept _ (Q1.kept _ K_z.out le1) le2)))
  have R21 := hid (And.intro Q21.blk (And.intro (Q21.other _ _ _ n21 Q2.blk) (Q21.kept _ (Q2.kept _ K_z.out le2) le1)))
  clear Q1 Q2 Q12 Q21
  go_region
  all_goals
    go_wp2_with fail
    first
    | (rw [← cells3, ← cells7]
       exact bodyPost_ret (res_two Try.results17 rfl rfl (blk_drew R12.out.1) (blk_drew R12.out.2.1) Try.underlying24 rfl (by kernel_rfl) Try.underlying31 rfl (by kernel_rfl)) rfl ⟨rfl, R12.out.2.2.drew⟩)
    | (rw [← cells7, ← cells3]
       exact bodyPost_ret (res_two Try.results17 rfl rfl (blk_drew R21.out.1) (blk_drew R21.out.2.1) Try.underlying24 rfl (by kernel_rfl) Try.underlying31 rfl (by kernel_rfl)) rfl ⟨rfl, R21.out.2.2.drew⟩)
theorem rstep15 (l : Lc) (x : Int) (w : World) (I : LcIn l) (x0 : 0 ≤ x) (x1 : x ≤ 65535) : Calls Try.prog 17 #[lcV l, .int .u16 x] w fun e w' => e = .returned (.tuple #[lcV (stepL l x), evV (stepF l) (stepR l x) (stepD l)]) ∧ Kept w w' := by
  cases h : l.on
  · rw [show stepL l x = l by unfold stepL; rw [h]; rfl, show stepF l = false by unfold stepF; rw [h]; rfl, show stepR l x = false by unfold stepR; rw [h]; rfl, show stepD l = false by unfold stepD; rw [h]; rfl]
    exact rstep15_off l x w I h
  have A := fun u => rset15 (exL (onL l) x) u (ex_in (on_in I) x x0)
  rw [show stepL l x = setL (exL (onL l) x) by unfold stepL; rw [if_pos h], show stepF l = frameL (onL l) by unfold stepF; rw [h]; rfl, show stepR l x = riseL (exL (onL l) x) by unfold stepR; rw [h]; rfl, show stepD l = drawL (onL l) by unfold stepD; rw [h]; rfl]
  generalize setL (exL (onL l) x) = V2 at *
  generalize riseL (exL (onL l) x) = r at *
  by_cases a : l.dot < 455
  · have EO : onL l = ⟨l.on, l.line, l.dot + 1, l.lyc, l.sel, l.high, l.extra⟩ := by unfold onL; rw [if_pos a]
    rw [EO, h] at A
    rw [EO]
    have fr : frameL ⟨l.on, l.line, l.dot + 1, l.lyc, l.sel, l.high, l.extra⟩ = false := by
      have := I.d0
      unfold frameL; rw [show (l.dot + 1 == 0) = false by simp; omega, Bool.and_false]
    rw [fr]
    by_cases q : l.line < 144
    · by_cases t : l.dot + 1 = 80
      · rw [show drawL ⟨l.on, l.line, l.dot + 1, l.lyc, l.sel, l.high, l.extra⟩ = true by unfold drawL; rw [decide_eq_true q, t]; rfl]
        unfold exL at A
        rw [if_pos (by unfold drawL; rw [decide_eq_true q, t]; rfl)] at A
        unfold mostL at A
        by_cases hx : x ≤ 200
        · rw [if_pos hx] at A
          exact rstep15_Ad l V2 x r w I x0 x1 h a q t hx A
        · rw [if_neg hx] at A
          exact rstep15_Ae l V2 x r w I x0 x1 h a q t hx A
      · have dn : ∀ o, drawL ⟨o, l.line, l.dot + 1, l.lyc, l.sel, l.high, l.extra⟩ = false := fun o => by unfold drawL; rw [show (l.dot + 1 == 80) = false by simpa using t, Bool.and_false]
        unfold exL at A
        rw [dn, if_neg (by decide)] at A
        rw [dn]
        exact rstep15_An l V2 x r w I x0 x1 h a q t A
    · have dn : ∀ o, drawL ⟨o, l.line, l.dot + 1, l.lyc, l.sel, l.high, l.extra⟩ = false := fun o => by unfold drawL; rw [decide_eq_false q, Bool.false_and]
      unfold exL at A
      rw [dn, if_neg (by decide)] at A
      rw [dn]
      by_cases q2 : l.line = 144
      · exact rstep15_Ag l V2 x r w I x0 x1 h a q2 A
      · exact rstep15_Ak l V2 x r w I x0 x1 h a (by omega) A
  · by_cases b : l.line < 153
    · have EO : onL l = ⟨l.on, l.line + 1, 0, l.lyc, l.sel, l.high, l.extra⟩ := by unfold onL; rw [if_neg a, if_pos b]
      rw [EO, h] at A
      rw [EO]
      have dn : ∀ o, drawL ⟨o, l.line + 1, 0, l.lyc, l.sel, l.high, l.extra⟩ = false := fun o => by unfold drawL; exact Bool.and_false _
      unfold exL at A
      rw [dn, if_neg (by decide)] at A
      rw [dn]
      by_cases q : l.line + 1 < 144
      · rw [show frameL ⟨l.on, l.line + 1, 0, l.lyc, l.sel, l.high, l.extra⟩ = false by unfold frameL; rw [show (l.line + 1 == 144) = false by simp; omega]; rfl]
        exact rstep15_Bn l V2 x r w I x0 x1 h a b q A
      by_cases q2 : l.line + 1 = 144
      · rw [show frameL ⟨l.on, l.line + 1, 0, l.lyc, l.sel, l.high, l.extra⟩ = true by unfold frameL; rw [q2]; rfl]
        exact rstep15_Bf l V2 x r w I x0 x1 h a b q2 A
      · rw [show frameL ⟨l.on, l.line + 1, 0, l.lyc, l.sel, l.high, l.extra⟩ = false by unfold frameL; rw [show (l.line + 1 == 144) = false by simpa using q2]; rfl]
        exact rstep15_Bk l V2 x r w I x0 x1 h a b (by omega) A
    · have EO : onL l = ⟨l.on, 0, 0, l.lyc, l.sel, l.high, l.extra⟩ := by unfold onL; rw [if_neg a, if_neg b]
      rw [EO, h] at A
      rw [EO]
      have dn : ∀ o, drawL ⟨o, 0, 0, l.lyc, l.sel, l.high, l.extra⟩ = false := fun o => rfl
      unfold exL at A
      rw [dn, if_neg (by decide)] at A
      rw [dn, show frameL ⟨l.on, 0, 0, l.lyc, l.sel, l.high, l.extra⟩ = false from rfl]
      exact rstep15_Cn l V2 x r w I x0 x1 h a b A
end Go.Proofs.Ytpgdkoiinigepaa
