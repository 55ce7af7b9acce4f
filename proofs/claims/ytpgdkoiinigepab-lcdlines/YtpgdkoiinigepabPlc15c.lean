/- What the program's calls of layer 15 come to: Step. -/
import Derived.Test.YtpgdkoiinigepabPlc15b
namespace Go.Proofs.Ytpgdkoiinigepab
open Go.RowKit
set_option linter.unusedVariables false
set_option linter.unusedSimpArgs false

theorem res_two {P : Program} {fn : Func} {p q : Tmp} {ty ty2 t t2 : TypeId} {cs ds : List Value} {d d2 : TypeDesc} (h : fn.results = #[.cell p ty, .cell q ty2]) {tmps : Array Value} {w : World} {b b2 : Nat} (hp : tmps.getD p undef = .pointer (some ⟨b, 0, none⟩)) (hq : tmps.getD q undef = .pointer (some ⟨b2, 0, none⟩)) (hB : Blk w b t cs) (hB2 : Blk w b2 t2 ds)
    (hu : P.underlying ty = some d) (hd : d.isRow = true) (hi : (P.info? ty).map (·.size) = some cs.length) (hu2 : P.underlying ty2 = some d2) (hd2 : d2.isRow = true) (hi2 : (P.info? ty2).map (·.size) = some ds.length) : (results fn tmps).run P w = .ok (.tuple #[.agg cs.toArray, .agg ds.toArray]) w := by
  have hp' : tmps[p]?.getD undef = .pointer (some ⟨b, 0, none⟩) := by simpa using hp
  have hq' : tmps[q]?.getD undef = .pointer (some ⟨b2, 0, none⟩) := by simpa using hq
  simp [results, h, hp', hq', asAddr, run_var_blk hB hu hd hi, run_var_blk hB2 hu2 hd2 hi2]
set_option maxRecDepth 100000 in
set_option maxHeartbeats 4000000 in
theorem pstep15_off (l : Lc) (x : Int) (w : World) (h : l.on = false) : Calls Try.prog 6 #[lcV l, .int .u16 x] w fun e w' => e = .returned (.tuple #[lcV l, evV false false false]) ∧ Kept w w' := by
  obtain ⟨so, sl, sd, sy, ss, sh, se⟩ := l
  try simp only at *
  subst h
  go_enter Try.func6, Try.ntmps6
  go_wp2_with fail
  go_region
  all_goals
    go_wp2
    exact bodyPost_ret (v := .tuple #[lcV ⟨false, sl, sd, sy, ss, sh, se⟩, evV false false false]) (by simp [results, Try.results6, go_sem]) rfl ⟨rfl, by repeat (first | with_reducible exact Kept.refl _ | with_reducible refine Kept.alloc ?_ _ | with_reducible refine Kept.drew ?_ | (with_reducible refine Kept.setCell8 ?_ ?_ _ _; rotate_left; (first | exact Nat.le_refl _ | omega | (simp; done) | (simp; omega))))⟩
theorem cells7 (w : World) (b : Nat) (v0 v1 v2 v3 v4 v5 v6 : Value) : w.setCells b 0 [v0, v1, v2, v3, v4, v5, v6] = ((((((w.setCell ⟨b, 0, none⟩ v0).setCell ⟨b, 1, none⟩ v1).setCell ⟨b, 2, none⟩ v2).setCell ⟨b, 3, none⟩ v3).setCell ⟨b, 4, none⟩ v4).setCell ⟨b, 5, none⟩ v5).setCell ⟨b, 6, none⟩ v6 := rfl
theorem cells3 (w : World) (b : Nat) (v0 v1 v2 : Value) : w.setCells b 0 [v0, v1, v2] = ((w.setCell ⟨b, 0, none⟩ v0).setCell ⟨b, 1, none⟩ v1).setCell ⟨b, 2, none⟩ v2 := rfl
set_option maxRecDepth 100000 in
set_option maxHeartbeats 4000000 in
theorem pstep15_d (l V1 V2 : Lc) (x : Int) (r : Bool) (w : World) (h : l.on = true) (q : V1.line < 144) (r1 : V1.dot = 80) (hx : x ≤ 200) (HO : ∀ u, Calls Try.prog 10 #[lcV l] u fun e w' => e = .returned (lcV V1) ∧ Kept u w') (HA : ∀ u, Calls Try.prog 11 #[lcV ⟨V1.on, V1.line, V1.dot, V1.lyc, V1.sel, V1.high, x⟩] u fun e w' => e = .returned (.tuple #[lcV V2, .bool r]) ∧ Kept u w') : Calls Try.prog 6 #[lcV l, .int .u16 x] w fun e w' => e = .returned (.tuple #[lcV V2, evV false r true]) ∧ Kept w w' := by
  have HO := hid HO
  have HA := hid HA
  have g1 : decide (V1.line < 144) = true := decide_eq_true q
  have g2 : (V1.dot == 80) = true := by simpa using r1
  have g3 : (V1.line == 144) = false := by simp; omega
  clear r1
  obtain ⟨so, sl, sd, sy, ss, sh, se⟩ := l
  try simp only at *
  subst h
  have n01 : w.heap.size ≠ (w.heap.size + 1) := by omega
  have n02 : w.heap.size ≠ (w.heap.size + 1 + 1) := by omega
  have n03 : w.heap.size ≠ (w.heap.size + 1 + 1 + 1) := by omega
  have n10 : (w.heap.size + 1) ≠ w.heap.size := by omega
  have n12 : (w.heap.size + 1) ≠ (w.heap.size + 1 + 1) := by omega
  have n13 : (w.heap.size + 1) ≠ (w.heap.size + 1 + 1 + 1) := by omega
  have n20 : (w.heap.size + 1 + 1) ≠ w.heap.size := by omega
  have n21 : (w.heap.size + 1 + 1) ≠ (w.heap.size + 1) := by omega
  have n23 : (w.heap.size + 1 + 1) ≠ (w.heap.size + 1 + 1 + 1) := by omega
  have n30 : (w.heap.size + 1 + 1 + 1) ≠ w.heap.size := by omega
  have n31 : (w.heap.size + 1 + 1 + 1) ≠ (w.heap.size + 1) := by omega
  have n32 : (w.heap.size + 1 + 1 + 1) ≠ (w.heap.size + 1 + 1) := by omega
  have le0 : w.heap.size ≤ w.heap.size := by omega
  have le1 : w.heap.size ≤ (w.heap.size + 1) := by omega
  have le2 : w.heap.size ≤ (w.heap.size + 1 + 1) := by omega
  have le3 : w.heap.size ≤ (w.heap.size + 1 + 1 + 1) := by omega
  have X0 : Blk ((((w.alloc (.cells ([.bool true, .int .u8 sl, .int .u16 sd, .int .u8 sy, .int .u8 ss, .bool sh, .int .u16 se] : List Value).toArray 25)).alloc (.cells ([.bool false, .int .u8 0, .int .u16 0, .int .u8 0, .int .u8 0, .bool false, .int .u16 0] : List Value).toArray 25)).alloc (.cells ([.bool false, .bool false, .bool false] : List Value).toArray 28)).alloc (.cells ([.bool false, .bool false, .bool false] : List Value).toArray 28)) w.heap.size 25 [.bool true, .int .u8 sl, .int .u16 sd, .int .u8 sy, .int .u8 ss, .bool sh, .int .u16 se] := blk_past (blk_past (blk_past (blk_new w _ _) _) _) _
  have X1 : Blk ((((w.alloc (.cells ([.bool true, .int .u8 sl, .int .u16 sd, .int .u8 sy, .int .u8 ss, .bool sh, .int .u16 se] : List Value).toArray 25)).alloc (.cells ([.bool false, .int .u8 0, .int .u16 0, .int .u8 0, .int .u8 0, .bool false, .int .u16 0] : List Value).toArray 25)).alloc (.cells ([.bool false, .bool false, .bool false] : List Value).toArray 28)).alloc (.cells ([.bool false, .bool false, .bool false] : List Value).toArray 28)) (w.heap.size + 1) 25 [.bool false, .int .u8 0, .int .u16 0, .int .u8 0, .int .u8 0, .bool false, .int .u16 0] := by have q := blk_new (w.alloc (.cells ([.bool true, .int .u8 sl, .int .u16 sd, .int .u8 sy, .int .u8 ss, .bool sh, .int .u16 se] : List Value).toArray 25)) [.bool false, .int .u8 0, .int .u16 0, .int .u8 0, .int .u8 0, .bool false, .int .u16 0] 25; rw [World.size_alloc] at q; exact blk_past (blk_past q _) _
  have X2 : Blk ((((w.alloc (.cells ([.bool true, .int .u8 sl, .int .u16 sd, .int .u8 sy, .int .u8 ss, .bool sh, .int .u16 se] : List Value).toArray 25)).alloc (.cells ([.bool false, .int .u8 0, .int .u16 0, .int .u8 0, .int .u8 0, .bool false, .int .u16 0] : List Value).toArray 25)).alloc (.cells ([.bool false, .bool false, .bool false] : List Value).toArray 28)).alloc (.cells ([.bool false, .bool false, .bool false] : List Value).toArray 28)) (w.heap.size + 1 + 1) 28 [.bool false, .bool false, .bool false] := by have q := blk_new ((w.alloc (.cells ([.bool true, .int .u8 sl, .int .u16 sd, .int .u8 sy, .int .u8 ss, .bool sh, .int .u16 se] : List Value).toArray 25)).alloc (.cells ([.bool false, .int .u8 0, .int .u16 0, .int .u8 0, .int .u8 0, .bool false, .int .u16 0] : List Value).toArray 25)) [.bool false, .bool false, .bool false] 28; rw [World.size_alloc, World.size_alloc] at q; exact blk_past q _
  have X3 : Blk ((((w.alloc (.cells ([.bool true, .int .u8 sl, .int .u16 sd, .int .u8 sy, .int .u8 ss, .bool sh, .int .u16 se] : List Value).toArray 25)).alloc (.cells ([.bool false, .int .u8 0, .int .u16 0, .int .u8 0, .int .u8 0, .bool false, .int .u16 0] : List Value).toArray 25)).alloc (.cells ([.bool false, .bool false, .bool false] : List Value).toArray 28)).alloc (.cells ([.bool false, .bool false, .bool false] : List Value).toArray 28)) (w.heap.size + 1 + 1 + 1) 28 [.bool false, .bool false, .bool false] := by have q := blk_new (((w.alloc (.cells ([.bool true, .int .u8 sl, .int .u16 sd, .int .u8 sy, .int .u8 ss, .bool sh, .int .u16 se] : List Value).toArray 25)).alloc (.cells ([.bool false, .int .u8 0, .int .u16 0, .int .u8 0, .int .u8 0, .bool false, .int .u16 0] : List Value).toArray 25)).alloc (.cells ([.bool false, .bool false, .bool false] : List Value).toArray 28)) [.bool false, .bool false, .bool false] 28; rw [World.size_alloc, World.size_alloc, World.size_alloc] at q; exact q
  have KX := hid (((((Kept.refl w).alloc (.cells ([.bool true, .int .u8 sl, .int .u16 sd, .int .u8 sy, .int .u8 ss, .bool sh, .int .u16 se] : List Value).toArray 25)).alloc (.cells ([.bool false, .int .u8 0, .int .u16 0, .int .u8 0, .int .u8 0, .bool false, .int .u16 0] : List Value).toArray 25)).alloc (.cells ([.bool false, .bool false, .bool false] : List Value).toArray 28)).alloc (.cells ([.bool false, .bool false, .bool false] : List Value).toArray 28))
  go_enter Try.func6, Try.ntmps6
  go_wp2_with fail
  refine (HO.out _).mono ?_
  rintro e ua ⟨rfl, ka⟩
  have B0_a := blk_kept ka X0
  have B1_a := blk_kept ka X1
  have B2_a := blk_kept ka X2
  have B3_a := blk_kept ka X3
  have K_a := hid (KX.out.trans ka)
  clear ka X0 X1 X2 X3 KX
  have c0_a := blk_cell B0_a
  have c3_a := blk_cell B3_a
  have z1_a := blk_lt B1_a
  have z2_a := blk_lt B2_a
  go_wp2_with (first
    | ((with_reducible refine at_st 25 ?_); refine wl_store rfl rfl rfl rfl B0_a (by kernel_rfl) rfl (Nat.le_of_ble_eq_true rfl) (fun vb pb => ?_); have B0_b : Blk vb w.heap.size 25 [.bool V1.on, .int .u8 V1.line, .int .u16 V1.dot, .int .u8 V1.lyc, .int .u8 V1.sel, .bool V1.high, .int .u16 V1.extra] := pb.blk; have B1_b := pb.other _ _ _ n10 B1_a; have B2_b := pb.other _ _ _ n20 B2_a; have B3_b := pb.other _ _ _ n30 B3_a; have K_b := hid (pb.kept _ K_a.out le0); clear pb K_a B0_a B1_a B2_a B3_a c0_a c3_a z1_a z2_a; have c0_b := blk_cell B0_b; have c3_b := blk_cell B3_b; have z1_b := blk_lt B1_b; have z2_b := blk_lt B2_b)
    | ((with_reducible refine at_st 22 ?_); refine wl_store rfl rfl rfl rfl B0_b (by kernel_rfl) rfl (Nat.le_of_ble_eq_true rfl) (fun vc pc => ?_); have B0_c : Blk vc w.heap.size 25 [.bool V1.on, .int .u8 V1.line, .int .u16 V1.dot, .int .u8 V1.lyc, .int .u8 V1.sel, .bool V1.high, .int .u16 x] := pc.blk; have B1_c := pc.other _ _ _ n10 B1_b; have B2_c := pc.other _ _ _ n20 B2_b; have B3_c := pc.other _ _ _ n30 B3_b; have K_c := hid (pc.kept _ K_b.out le0); clear pc K_b B0_b B1_b B2_b B3_b c0_b c3_b z1_b z2_b; have c0_c := blk_cell B0_c; have c3_c := blk_cell B3_c; have z1_c := blk_lt B1_c; have z2_c := blk_lt B2_c)
    | ((with_reducible refine at_st 4 ?_); refine wl_store rfl rfl rfl rfl B3_c (by kernel_rfl) rfl (Nat.le_of_ble_eq_true rfl) (fun vd pd => ?_); have B3_d : Blk vd (w.heap.size + 1 + 1 + 1) 28 [.bool false, .bool false, .bool true] := pd.blk; have B0_d := pd.other _ _ _ n03 B0_c; have B1_d := pd.other _ _ _ n13 B1_c; have B2_d := pd.other _ _ _ n23 B2_c; have K_d := hid (pd.kept _ K_c.out le3); clear pd K_c B0_c B1_c B2_c B3_c c0_c c3_c z1_c z2_c; have c0_d := blk_cell B0_d; have c3_d := blk_cell B3_d; have z1_d := blk_lt B1_d; have z2_d := blk_lt B2_d)
    | ((with_reducible refine at_st 4 ?_); refine wl_store rfl rfl rfl rfl B3_d (by kernel_rfl) rfl (Nat.le_of_ble_eq_true rfl) (fun ve pe => ?_); have B3_e : Blk ve (w.heap.size + 1 + 1 + 1) 28 [.bool false, .bool false, .bool true] := pe.blk; have B0_e := pe.other _ _ _ n03 B0_d; have B1_e := pe.other _ _ _ n13 B1_d; have B2_e := pe.other _ _ _ n23 B2_d; have K_e := hid (pe.kept _ K_d.out le3); clear pe K_d B0_d B1_d B2_d B3_d c0_d c3_d z1_d z2_d; have c0_e := blk_cell B0_e; have c3_e := blk_cell B3_e; have z1_e := blk_lt B1_e; have z2_e := blk_lt B2_e))
  refine (HA.out _).mono ?_
  rintro e ug ⟨rfl, kg⟩
  have B0_g := blk_kept kg B0_e
  have B1_g := blk_kept kg B1_e
  have B2_g := blk_kept kg B2_e
  have B3_g := blk_kept kg B3_e
  have K_g := hid (K_e.out.trans kg)
  clear kg B0_e B1_e B2_e B3_e K_e c0_e c3_e z1_e z2_e
  have c0_g := blk_cell B0_g
  have c3_g := blk_cell B3_g
  have z1_g := blk_lt B1_g
  have z2_g := blk_lt B2_g
  go_wp2_with (first
    | ((with_reducible refine at_st 25 ?_); refine wl_store rfl rfl rfl rfl B0_g (by kernel_rfl) rfl (Nat.le_of_ble_eq_true rfl) (fun vh ph => ?_); have B0_h : Blk vh w.heap.size 25 [.bool V2.on, .int .u8 V2.line, .int .u16 V2.dot, .int .u8 V2.lyc, .int .u8 V2.sel, .bool V2.high, .int .u16 V2.extra] := ph.blk; have B1_h := ph.other _ _ _ n10 B1_g; have B2_h := ph.other _ _ _ n20 B2_g; have B3_h := ph.other _ _ _ n30 B3_g; have K_h := hid (ph.kept _ K_g.out le0); clear ph K_g B0_g B1_g B2_g B3_g c0_g c3_g z1_g z2_g; have c0_h := blk_cell B0_h; have c3_h := blk_cell B3_h; have z1_h := blk_lt B1_h; have z2_h := blk_lt B2_h)
    | ((with_reducible refine at_st 4 ?_); refine wl_store rfl rfl rfl rfl B3_h (by kernel_rfl) rfl (Nat.le_of_ble_eq_true rfl) (fun vz pz => ?_); have B3_z : Blk vz (w.heap.size + 1 + 1 + 1) 28 [.bool false, .bool r, .bool true] := pz.blk; have B0_z := pz.other _ _ _ n03 B0_h; have B1_z := pz.other _ _ _ n13 B1_h; have B2_z := pz.other _ _ _ n23 B2_h; have K_z := hid (pz.kept _ K_h.out le3); clear pz K_h B0_h B1_h B2_h B3_h c0_h c3_h z1_h z2_h; have c0_z := blk_cell B0_z; have c3_z := blk_cell B3_z; have z1_z := blk_lt B1_z; have z2_z := blk_lt B2_z))
  have f1 := blk_froz B1_z
  have f2 := blk_froz B2_z
  have c1_z := blk_cell B1_z
  have c2_z := blk_cell B2_z
  have Q1 : Put vz (w.heap.size + 1) 25 [.bool V2.on, .int .u8 V2.line, .int .u16 V2.dot, .int .u8 V2.lyc, .int .u8 V2.sel, .bool V2.high, .int .u16 V2.extra] (vz.setCells (w.heap.size + 1) 0 [.bool V2.on, .int .u8 V2.line, .int .u16 V2.dot, .int .u8 V2.lyc, .int .u8 V2.sel, .bool V2.high, .int .u16 V2.extra]) := put_of B1_z 0 [.bool V2.on, .int .u8 V2.line, .int .u16 V2.dot, .int .u8 V2.lyc, .int .u8 V2.sel, .bool V2.high, .int .u16 V2.extra] (Nat.le_of_ble_eq_true rfl)
  have Q2 : Put vz (w.heap.size + 1 + 1) 28 [.bool false, .bool r, .bool true] (vz.setCells (w.heap.size + 1 + 1) 0 [.bool false, .bool r, .bool true]) := put_of B2_z 0 [.bool false, .bool r, .bool true] (Nat.le_of_ble_eq_true rfl)
  have Q12 : Put (vz.setCells (w.heap.size + 1) 0 [.bool V2.on, .int .u8 V2.line, .int .u16 V2.dot, .int .u8 V2.lyc, .int .u8 V2.sel, .bool V2.high, .int .u16 V2.extra]) (w.heap.size + 1 + 1) 28 [.bool false, .bool r, .bool true] ((vz.setCells (w.heap.size + 1) 0 [.bool V2.on, .int .u8 V2.line, .int .u16 V2.dot, .int .u8 V2.lyc, .int .u8 V2.sel, .bool V2.high, .int .u16 V2.extra]).setCells (w.heap.size + 1 + 1) 0 [.bool false, .bool r, .bool true]) := put_of (Q1.other _ _ _ n21 B2_z) 0 [.bool false, .bool r, .bool true] (Nat.le_of_ble_eq_true rfl)
  have Q21 : Put (vz.setCells (w.heap.size + 1 + 1) 0 [.bool false, .bool r, .bool true]) (w.heap.size + 1) 25 [.bool V2.on, .int .u8 V2.line, .int .u16 V2.dot, .int .u8 V2.lyc, .int .u8 V2.sel, .bool V2.high, .int .u16 V2.extra] ((vz.setCells (w.heap.size + 1 + 1) 0 [.bool false, .bool r, .bool true]).setCells (w.heap.size + 1) 0 [.bool V2.on, .int .u8 V2.line, .int .u16 V2.dot, .int .u8 V2.lyc, .int .u8 V2.sel, .bool V2.high, .int .u16 V2.extra]) := put_of (Q2.other _ _ _ n12 B1_z) 0 [.bool V2.on, .int .u8 V2.line, .int .u16 V2.dot, .int .u8 V2.lyc, .int .u8 V2.sel, .bool V2.high, .int .u16 V2.extra] (Nat.le_of_ble_eq_true rfl)
  have R12 := hid (And.intro (Q12.other _ _ _ n12 Q1.blk) (And.intro Q12.blk (Q12.kept _ (Q1.kept _ K_z.out le1) le2)))
  have R21 := hid (And.intro Q21.blk (And.intro (Q21.other _ _ _ n21 Q2.blk) (Q21.kept _ (Q2.kept _ K_z.out le2) le1)))
  clear Q1 Q2 Q12 Q21
  go_region
  all_goals
    go_wp2_with fail
    first
    | (rw [← cells3, ← cells7]
       exact bodyPost_ret (res_two Try.results6 rfl rfl (blk_drew R12.out.1) (blk_drew R12.out.2.1) Try.underlying25 rfl (by kernel_rfl) Try.underlying28 rfl (by kernel_rfl)) rfl ⟨rfl, R12.out.2.2.drew⟩)
    | (rw [← cells7, ← cells3]
       exact bodyPost_ret (res_two Try.results6 rfl rfl (blk_drew R21.out.1) (blk_drew R21.out.2.1) Try.underlying25 rfl (by kernel_rfl) Try.underlying28 rfl (by kernel_rfl)) rfl ⟨rfl, R21.out.2.2.drew⟩)
set_option maxRecDepth 100000 in
set_option maxHeartbeats 4000000 in
theorem pstep15_e (l V1 V2 : Lc) (x : Int) (r : Bool) (w : World) (h : l.on = true) (q : V1.line < 144) (r1 : V1.dot = 80) (hx : ¬ x ≤ 200) (HO : ∀ u, Calls Try.prog 10 #[lcV l] u fun e w' => e = .returned (lcV V1) ∧ Kept u w') (HA : ∀ u, Calls Try.prog 11 #[lcV ⟨V1.on, V1.line, V1.dot, V1.lyc, V1.sel, V1.high, 200⟩] u fun e w' => e = .returned (.tuple #[lcV V2, .bool r]) ∧ Kept u w') : Calls Try.prog 6 #[lcV l, .int .u16 x] w fun e w' => e = .returned (.tuple #[lcV V2, evV false r true]) ∧ Kept w w' := by
  have HO := hid HO
  have HA := hid HA
  have g1 : decide (V1.line < 144) = true := decide_eq_true q
  have g2 : (V1.dot == 80) = true := by simpa using r1
  have g3 : (V1.line == 144) = false := by simp; omega
  clear r1
  obtain ⟨so, sl, sd, sy, ss, sh, se⟩ := l
  try simp only at *
  subst h
  have n01 : w.heap.size ≠ (w.heap.size + 1) := by omega
  have n02 : w.heap.size ≠ (w.heap.size + 1 + 1) := by omega
  have n03 : w.heap.size ≠ (w.heap.size + 1 + 1 + 1) := by omega
  have n10 : (w.heap.size + 1) ≠ w.heap.size := by omega
  have n12 : (w.heap.size + 1) ≠ (w.heap.size + 1 + 1) := by omega
  have n13 : (w.heap.size + 1) ≠ (w.heap.size + 1 + 1 + 1) := by omega
  have n20 : (w.heap.size + 1 + 1) ≠ w.heap.size := by omega
  have n21 : (w.heap.size + 1 + 1) ≠ (w.heap.size + 1) := by omega
  have n23 : (w.heap.size + 1 + 1) ≠ (w.heap.size + 1 + 1 + 1) := by omega
  have n30 : (w.heap.size + 1 + 1 + 1) ≠ w.heap.size := by omega
  have n31 : (w.heap.size + 1 + 1 + 1) ≠ (w.heap.size + 1) := by omega
  have n32 : (w.heap.size + 1 + 1 + 1) ≠ (w.heap.size + 1 + 1) := by omega
  have le0 : w.heap.size ≤ w.heap.size := by omega
  have le1 : w.heap.size ≤ (w.heap.size + 1) := by omega
  have le2 : w.heap.size ≤ (w.heap.size + 1 + 1) := by omega
  have le3 : w.heap.size ≤ (w.heap.size + 1 + 1 + 1) := by omega
  have X0 : Blk ((((w.alloc (.cells ([.bool true, .int .u8 sl, .int .u16 sd, .int .u8 sy, .int .u8 ss, .bool sh, .int .u16 se] : List Value).toArray 25)).alloc (.cells ([.bool false, .int .u8 0, .int .u16 0, .int .u8 0, .int .u8 0, .bool false, .int .u16 0] : List Value).toArray 25)).alloc (.cells ([.bool false, .bool false, .bool false] : List Value).toArray 28)).alloc (.cells ([.bool false, .bool false, .bool false] : List Value).toArray 28)) w.heap.size 25 [.bool true, .int .u8 sl, .int .u16 sd, .int .u8 sy, .int .u8 ss, .bool sh, .int .u16 se] := blk_past (blk_past (blk_past (blk_new w _ _) _) _) _
  have X1 : Blk ((((w.alloc (.cells ([.bool true, .int .u8 sl, .int .u16 sd, .int .u8 sy, .int .u8 ss, .bool sh, .int .u16 se] : List Value).toArray 25)).alloc (.cells ([.bool false, .int .u8 0, .int .u16 0, .int .u8 0, .int .u8 0, .bool false, .int .u16 0] : List Value).toArray 25)).alloc (.cells ([.bool false, .bool false, .bool false] : List Value).toArray 28)).alloc (.cells ([.bool false, .bool false, .bool false] : List Value).toArray 28)) (w.heap.size + 1) 25 [.bool false, .int .u8 0, .int .u16 0, .int .u8 0, .int .u8 0, .bool false, .int .u16 0] := by have q := blk_new (w.alloc (.cells ([.bool true, .int .u8 sl, .int .u16 sd, .int .u8 sy, .int .u8 ss, .bool sh, .int .u16 se] : List Value).toArray 25)) [.bool false, .int .u8 0, .int .u16 0, .int .u8 0, .int .u8 0, .bool false, .int .u16 0] 25; rw [World.size_alloc] at q; exact blk_past (blk_past q _) _
  have X2 : Blk ((((w.alloc (.cells ([.bool true, .int .u8 sl, .int .u16 sd, .int .u8 sy, .int .u8 ss, .bool sh, .int .u16 se] : List Value).toArray 25)).alloc (.cells ([.bool false, .int .u8 0, .int .u16 0, .int .u8 0, .int .u8 0, .bool false, .int .u16 0] : List Value).toArray 25)).alloc (.cells ([.bool false, .bool false, .bool false] : List Value).toArray 28)).alloc (.cells ([.bool false, .bool false, .bool false] : List Value).toArray 28)) (w.heap.size + 1 + 1) 28 [.bool false, .bool false, .bool false] := by have q := blk_new ((w.alloc (.cells ([.bool true, .int .u8 sl, .int .u16 sd, .int .u8 sy, .int .u8 ss, .bool sh, .int .u16 se] : List Value).toArray 25)).alloc (.cells ([.bool false, .int .u8 0, .int .u16 0, .int .u8 0, .int .u8 0, .bool false, .int .u16 0] : List Value).toArray 25)) [.bool false, .bool false, .bool false] 28; rw [World.size_alloc, World.size_alloc] at q; exact blk_past q _
  have X3 : Blk ((((w.alloc (.cells ([.bool true, .int .u8 sl, .int .u16 sd, .int .u8 sy, .int .u8 ss, .bool sh, .int .u16 se] : List Value).toArray 25)).alloc (.cells ([.bool false, .int .u8 0, .int .u16 0, .int .u8 0, .int .u8 0, .bool false, .int .u16 0] : List Value).toArray 25)).alloc (.cells ([.bool false, .bool false, .bool false] : List Value).toArray 28)).alloc (.cells ([.bool false, .bool false, .bool false] : List Value).toArray 28)) (w.heap.size + 1 + 1 + 1) 28 [.bool false, .bool false, .bool false] := by have q := blk_new (((w.alloc (.cells ([.bool true, .int .u8 sl, .int .u16 sd, .int .u8 sy, .int .u8 ss, .bool sh, .int .u16 se] : List Value).toArray 25)).alloc (.cells ([.bool false, .int .u8 0, .int .u16 0, .int .u8 0, .int .u8 0, .bool false, .int .u16 0] : List Value).toArray 25)).alloc (.cells ([.bool false, .bool false, .bool false] : List Value).toArray 28)) [.bool false, .bool false, .bool false] 28; rw [World.size_alloc, World.size_alloc, World.size_alloc] at q; exact q
  have KX := hid (((((Kept.refl w).alloc (.cells ([.bool true, .int .u8 sl, .int .u16 sd, .int .u8 sy, .int .u8 ss, .bool sh, .int .u16 se] : List Value).toArray 25)).alloc (.cells ([.bool false, .int .u8 0, .int .u16 0, .int .u8 0, .int .u8 0, .bool false, .int .u16 0] : List Value).toArray 25)).alloc (.cells ([.bool false, .bool false, .bool false] : List Value).toArray 28)).alloc (.cells ([.bool false, .bool false, .bool false] : List Value).toArray 28))
  go_enter Try.func6, Try.ntmps6
  go_wp2_with fail
  refine (HO.out _).mono ?_
  rintro e ua ⟨rfl, ka⟩
  have B0_a := blk_kept ka X0
  have B1_a := blk_kept ka X1
  have B2_a := blk_kept ka X2
  have B3_a := blk_kept ka X3
  have K_a := hid (KX.out.trans ka)
  clear ka X0 X1 X2 X3 KX
  have c0_a := blk_cell B0_a
  have c3_a := blk_cell B3_a
  have z1_a := blk_lt B1_a
  have z2_a := blk_lt B2_a
  go_wp2_with (first
    | ((with_reducible refine at_st 25 ?_); refine wl_store rfl rfl rfl rfl B0_a (by kernel_rfl) rfl (Nat.le_of_ble_eq_true rfl) (fun vb pb => ?_); have B0_b : Blk vb w.heap.size 25 [.bool V1.on, .int .u8 V1.line, .int .u16 V1.dot, .int .u8 V1.lyc, .int .u8 V1.sel, .bool V1.high, .int .u16 V1.extra] := pb.blk; have B1_b := pb.other _ _ _ n10 B1_a; have B2_b := pb.other _ _ _ n20 B2_a; have B3_b := pb.other _ _ _ n30 B3_a; have K_b := hid (pb.kept _ K_a.out le0); clear pb K_a B0_a B1_a B2_a B3_a c0_a c3_a z1_a z2_a; have c0_b := blk_cell B0_b; have c3_b := blk_cell B3_b; have z1_b := blk_lt B1_b; have z2_b := blk_lt B2_b)
    | ((with_reducible refine at_st 22 ?_); refine wl_store rfl rfl rfl rfl B0_b (by kernel_rfl) rfl (Nat.le_of_ble_eq_true rfl) (fun vc pc => ?_); have B0_c : Blk vc w.heap.size 25 [.bool V1.on, .int .u8 V1.line, .int .u16 V1.dot, .int .u8 V1.lyc, .int .u8 V1.sel, .bool V1.high, .int .u16 200] := pc.blk; have B1_c := pc.other _ _ _ n10 B1_b; have B2_c := pc.other _ _ _ n20 B2_b; have B3_c := pc.other _ _ _ n30 B3_b; have K_c := hid (pc.kept _ K_b.out le0); clear pc K_b B0_b B1_b B2_b B3_b c0_b c3_b z1_b z2_b; have c0_c := blk_cell B0_c; have c3_c := blk_cell B3_c; have z1_c := blk_lt B1_c; have z2_c := blk_lt B2_c)
    | ((with_reducible refine at_st 4 ?_); refine wl_store rfl rfl rfl rfl B3_c (by kernel_rfl) rfl (Nat.le_of_ble_eq_true rfl) (fun vd pd => ?_); have B3_d : Blk vd (w.heap.size + 1 + 1 + 1) 28 [.bool false, .bool false, .bool true] := pd.blk; have B0_d := pd.other _ _ _ n03 B0_c; have B1_d := pd.other _ _ _ n13 B1_c; have B2_d := pd.other _ _ _ n23 B2_c; have K_d := hid (pd.kept _ K_c.out le3); clear pd K_c B0_c B1_c B2_c B3_c c0_c c3_c z1_c z2_c; have c0_d := blk_cell B0_d; have c3_d := blk_cell B3_d; have z1_d := blk_lt B1_d; have z2_d := blk_lt B2_d)
    | ((with_reducible refine at_st 4 ?_); refine wl_store rfl rfl rfl rfl B3_d (by kernel_rfl) rfl (Nat.le_of_ble_eq_true rfl) (fun ve pe => ?_); have B3_e : Blk ve (w.heap.size + 1 + 1 + 1) 28 [.bool false, .bool false, .bool true] := pe.blk; have B0_e := pe.other _ _ _ n03 B0_d; have B1_e := pe.other _ _ _ n13 B1_d; have B2_e := pe.other _ _ _ n23 B2_d; have K_e := hid (pe.kept _ K_d.out le3); clear pe K_d B0_d B1_d B2_d B3_d c0_d c3_d z1_d z2_d; have c0_e := blk_cell B0_e; have c3_e := blk_cell B3_e; have z1_e := blk_lt B1_e; have z2_e := blk_lt B2_e))
  refine (HA.out _).mono ?_
  rintro e ug ⟨rfl, kg⟩
  have B0_g := blk_kept kg B0_e
  have B1_g := blk_kept kg B1_e
  have B2_g := blk_kept kg B2_e
  have B3_g := blk_kept kg B3_e
  have K_g := hid (K_e.out.trans kg)
  clear kg B0_e B1_e B2_e B3_e K_e c0_e c3_e z1_e z2_e
  have c0_g := blk_cell B0_g
  have c3_g := blk_cell B3_g
  have z1_g := blk_lt B1_g
  have z2_g := blk_lt B2_g
  go_wp2_with (first
    | ((with_reducible refine at_st 25 ?_); refine wl_store rfl rfl rfl rfl B0_g (by kernel_rfl) rfl (Nat.le_of_ble_eq_true rfl) (fun vh ph => ?_); have B0_h : Blk vh w.heap.size 25 [.bool V2.on, .int .u8 V2.line, .int .u16 V2.dot, .int .u8 V2.lyc, .int .u8 V2.sel, .bool V2.high, .int .u16 V2.extra] := ph.blk; have B1_h := ph.other _ _ _ n10 B1_g; have B2_h := ph.other _ _ _ n20 B2_g; have B3_h := ph.other _ _ _ n30 B3_g; have K_h := hid (ph.kept _ K_g.out le0); clear ph K_g B0_g B1_g B2_g B3_g c0_g c3_g z1_g z2_g; have c0_h := blk_cell B0_h; have c3_h := blk_cell B3_h; have z1_h := blk_lt B1_h; have z2_h := blk_lt B2_h)
    | ((with_reducible refine at_st 4 ?_); refine wl_store rfl rfl rfl rfl B3_h (by kernel_rfl) rfl (Nat.le_of_ble_eq_true rfl) (fun vz pz => ?_); have B3_z : Blk vz (w.heap.size + 1 + 1 + 1) 28 [.bool false, .bool r, .bool true] := pz.blk; have B0_z := pz.other _ _ _ n03 B0_h; have B1_z := pz.other _ _ _ n13 B1_h; have B2_z := pz.other _ _ _ n23 B2_h; have K_z := hid (pz.kept _ K_h.out le3); clear pz K_h B0_h B1_h B2_h B3_h c0_h c3_h z1_h z2_h; have c0_z := blk_cell B0_z; have c3_z := blk_cell B3_z; have z1_z := blk_lt B1_z; have z2_z := blk_lt B2_z))
  have f1 := blk_froz B1_z
  have f2 := blk_froz B2_z
  have c1_z := blk_cell B1_z
  have c2_z := blk_cell B2_z
  have Q1 : Put vz (w.heap.size + 1) 25 [.bool V2.on, .int .u8 V2.line, .int .u16 V2.dot, .int .u8 V2.lyc, .int .u8 V2.sel, .bool V2.high, .int .u16 V2.extra] (vz.setCells (w.heap.size + 1) 0 [.bool V2.on, .int .u8 V2.line, .int .u16 V2.dot, .int .u8 V2.lyc, .int .u8 V2.sel, .bool V2.high, .int .u16 V2.extra]) := put_of B1_z 0 [.bool V2.on, .int .u8 V2.line, .int .u16 V2.dot, .int .u8 V2.lyc, .int .u8 V2.sel, .bool V2.high, .int .u16 V2.extra] (Nat.le_of_ble_eq_true rfl)
  have Q2 : Put vz (w.heap.size + 1 + 1) 28 [.bool false, .bool r, .bool true] (vz.setCells (w.heap.size + 1 + 1) 0 [.bool false, .bool r, .bool true]) := put_of B2_z 0 [.bool false, .bool r, .bool true] (Nat.le_of_ble_eq_true rfl)
  have Q12 : Put (vz.setCells (w.heap.size + 1) 0 [.bool V2.on, .int .u8 V2.line, .int .u16 V2.dot, .int .u8 V2.lyc, .int .u8 V2.sel, .bool V2.high, .int .u16 V2.extra]) (w.heap.size + 1 + 1) 28 [.bool false, .bool r, .bool true] ((vz.setCells (w.heap.size + 1) 0 [.bool V2.on, .int .u8 V2.line, .int .u16 V2.dot, .int .u8 V2.lyc, .int .u8 V2.sel, .bool V2.high, .int .u16 V2.extra]).setCells (w.heap.size + 1 + 1) 0 [.bool false, .bool r, .bool true]) := put_of (Q1.other _ _ _ n21 B2_z) 0 [.bool false, .bool r, .bool true] (Nat.le_of_ble_eq_true rfl)
  have Q21 : Put (vz.setCells (w.heap.size + 1 + 1) 0 [.bool false, .bool r, .bool true]) (w.heap.size + 1) 25 [.bool V2.on, .int .u8 V2.line, .int .u16 V2.dot, .int .u8 V2.lyc, .int .u8 V2.sel, .bool V2.high, .int .u16 V2.extra] ((vz.setCells (w.heap.size + 1 + 1) 0 [.bool false, .bool r, .bool true]).setCells (w.heap.size + 1) 0 [.bool V2.on, .int .u8 V2.line, .int .u16 V2.dot, .int .u8 V2.lyc, .int .u8 V2.sel, .bool V2.high, .int .u16 V2.extra]) := put_of (Q2.other _ _ _ n12 B1_z) 0 [.bool V2.on, .int .u8 V2.line, .int .u16 V2.dot, .int .u8 V2.lyc, .int .u8 V2.sel, .bool V2.high, .int .u16 V2.extra] (Nat.le_of_ble_eq_true rfl)
  have R12 := hid (And.intro (Q12.other _ _ _ n12 Q1.blk) (And.intro Q12.blk (Q12.kept _ (Q1.kept _ K_z.out le1) le2)))
  have R21 := hid (And.intro Q21.blk (And.intro (Q21.other _ _ _ n21 Q2.blk) (Q21.kept _ (Q2.kept _ K_z.out le2) le1)))
  clear Q1 Q2 Q12 Q21
  go_region
  all_goals
    go_wp2_with fail
    first
    | (rw [← cells3, ← cells7]
       exact bodyPost_ret (res_two Try.results6 rfl rfl (blk_drew R12.out.1) (blk_drew R12.out.2.1) Try.underlying25 rfl (by kernel_rfl) Try.underlying28 rfl (by kernel_rfl)) rfl ⟨rfl, R12.out.2.2.drew⟩)
    | (rw [← cells7, ← cells3]
       exact bodyPost_ret (res_two Try.results6 rfl rfl (blk_drew R21.out.1) (blk_drew R21.out.2.1) Try.underlying25 rfl (by kernel_rfl) Try.underlying28 rfl (by kernel_rfl)) rfl ⟨rfl, R21.out.2.2.drew⟩)
set_option maxRecDepth 100000 in
set_option maxHeartbeats 4000000 in
theorem pstep15_n (l V1 V2 : Lc) (x : Int) (r : Bool) (w : World) (h : l.on = true) (q : V1.line < 144) (r1 : V1.dot ≠ 80) (HO : ∀ u, Calls Try.prog 10 #[lcV l] u fun e w' => e = .returned (lcV V1) ∧ Kept u w') (HA : ∀ u, Calls Try.prog 11 #[lcV ⟨V1.on, V1.line, V1.dot, V1.lyc, V1.sel, V1.high, V1.extra⟩] u fun e w' => e = .returned (.tuple #[lcV V2, .bool r]) ∧ Kept u w') : Calls Try.prog 6 #[lcV l, .int .u16 x] w fun e w' => e = .returned (.tuple #[lcV V2, evV false r false]) ∧ Kept w w' := by
  have HO := hid HO
  have HA := hid HA
  have g1 : decide (V1.line < 144) = true := decide_eq_true q
  have g2 : (V1.dot == 80) = false := by simpa using r1
  have g3 : (V1.line == 144) = false := by simp; omega
  obtain ⟨so, sl, sd, sy, ss, sh, se⟩ := l
  try simp only at *
  subst h
  have n01 : w.heap.size ≠ (w.heap.size + 1) := by omega
  have n02 : w.heap.size ≠ (w.heap.size + 1 + 1) := by omega
  have n03 : w.heap.size ≠ (w.heap.size + 1 + 1 + 1) := by omega
  have n10 : (w.heap.size + 1) ≠ w.heap.size := by omega
  have n12 : (w.heap.size + 1) ≠ (w.heap.size + 1 + 1) := by omega
  have n13 : (w.heap.size + 1) ≠ (w.heap.size + 1 + 1 + 1) := by omega
  have n20 : (w.heap.size + 1 + 1) ≠ w.heap.size := by omega
  have n21 : (w.heap.size + 1 + 1) ≠ (w.heap.size + 1) := by omega
  have n23 : (w.heap.size + 1 + 1) ≠ (w.heap.size + 1 + 1 + 1) := by omega
  have n30 : (w.heap.size + 1 + 1 + 1) ≠ w.heap.size := by omega
  have n31 : (w.heap.size + 1 + 1 + 1) ≠ (w.heap.size + 1) := by omega
  have n32 : (w.heap.size + 1 + 1 + 1) ≠ (w.heap.size + 1 + 1) := by omega
  have le0 : w.heap.size ≤ w.heap.size := by omega
  have le1 : w.heap.size ≤ (w.heap.size + 1) := by omega
  have le2 : w.heap.size ≤ (w.heap.size + 1 + 1) := by omega
  have le3 : w.heap.size ≤ (w.heap.size + 1 + 1 + 1) := by omega
  have X0 : Blk ((((w.alloc (.cells ([.bool true, .int .u8 sl, .int .u16 sd, .int .u8 sy, .int .u8 ss, .bool sh, .int .u16 se] : List Value).toArray 25)).alloc (.cells ([.bool false, .int .u8 0, .int .u16 0, .int .u8 0, .int .u8 0, .bool false, .int .u16 0] : List Value).toArray 25)).alloc (.cells ([.bool false, .bool false, .bool false] : List Value).toArray 28)).alloc (.cells ([.bool false, .bool false, .bool false] : List Value).toArray 28)) w.heap.size 25 [.bool true, .int .u8 sl, .int .u16 sd, .int .u8 sy, .int .u8 ss, .bool sh, .int .u16 se] := blk_past (blk_past (blk_past (blk_new w _ _) _) _) _
  have X1 : Blk ((((w.alloc (.cells ([.bool true, .int .u8 sl, .int .u16 sd, .int .u8 sy, .int .u8 ss, .bool sh, .int .u16 se] : List Value).toArray 25)).alloc (.cells ([.bool false, .int .u8 0, .int .u16 0, .int .u8 0, .int .u8 0, .bool false, .int .u16 0] : List Value).toArray 25)).alloc (.cells ([.bool false, .bool false, .bool false] : List Value).toArray 28)).alloc (.cells ([.bool false, .bool false, .bool false] : List Value).toArray 28)) (w.heap.size + 1) 25 [.bool false, .int .u8 0, .int .u16 0, .int .u8 0, .int .u8 0, .bool false, .int .u16 0] := by have q := blk_new (w.alloc (.cells ([.bool true, .int .u8 sl, .int .u16 sd, .int .u8 sy, .int .u8 ss, .bool sh, .int .u16 se] : List Value).toArray 25)) [.bool false, .int .u8 0, .int .u16 0, .int .u8 0, .int .u8 0, .bool false, .int .u16 0] 25; rw [World.size_alloc] at q; exact blk_past (blk_past q _) _
  have X2 : Blk ((((w.alloc (.cells ([.bool true, .int .u8 sl, .int .u16 sd, .int .u8 sy, .int .u8 ss, .bool sh, .int .u16 se] : List Value).toArray 25)).alloc (.cells ([.bool false, .int .u8 0, .int .u16 0, .int .u8 0, .int .u8 0, .bool false, .int .u16 0] : List Value).toArray 25)).alloc (.cells ([.bool false, .bool false, .bool false] : List Value).toArray 28)).alloc (.cells ([.bool false, .bool false, .bool false] : List Value).toArray 28)) (w.heap.size + 1 + 1) 28 [.bool false, .bool false, .bool false] := by have q := blk_new ((w.alloc (.cells ([.bool true, .int .u8 sl, .int .u16 sd, .int .u8 sy, .int .u8 ss, .bool sh, .int .u16 se] : List Value).toArray 25)).alloc (.cells ([.bool false, .int .u8 0, .int .u16 0, .int .u8 0, .int .u8 0, .bool false, .int .u16 0] : List Value).toArray 25)) [.bool false, .bool false, .bool false] 28; rw [World.size_alloc, World.size_alloc] at q; exact blk_past q _
  have X3 : Blk ((((w.alloc (.cells ([.bool true, .int .u8 sl, .int .u16 sd, .int .u8 sy, .int .u8 ss, .bool sh, .int .u16 se] : List Value).toArray 25)).alloc (.cells ([.bool false, .int .u8 0, .int .u16 0, .int .u8 0, .int .u8 0, .bool false, .int .u16 0] : List Value).toArray 25)).alloc (.cells ([.bool false, .bool false, .bool false] : List Value).toArray 28)).alloc (.cells ([.bool false, .bool false, .bool false] : List Value).toArray 28)) (w.heap.size + 1 + 1 + 1) 28 [.bool false, .bool false, .bool false] := by have q := blk_new (((w.alloc (.cells ([.bool true, .int .u8 sl, .int .u16 sd, .int .u8 sy, .int .u8 ss, .bool sh, .int .u16 se] : List Value).toArray 25)).alloc (.cells ([.bool false, .int .u8 0, .int .u16 0, .int .u8 0, .int .u8 0, .bool false, .int .u16 0] : List Value).toArray 25)).alloc (.cells ([.bool false, .bool false, .bool false] : List Value).toArray 28)) [.bool false, .bool false, .bool false] 28; rw [World.size_alloc, World.size_alloc, World.size_alloc] at q; exact q
  have KX := hid (((((Kept.refl w).alloc (.cells ([.bool true, .int .u8 sl, .int .u16 sd, .int .u8 sy, .int .u8 ss, .bool sh, .int .u16 se] : List Value).toArray 25)).alloc (.cells ([.bool false, .int .u8 0, .int .u16 0, .int .u8 0, .int .u8 0, .bool false, .int .u16 0] : List Value).toArray 25)).alloc (.cells ([.bool false, .bool false, .bool false] : List Value).toArray 28)).alloc (.cells ([.bool false, .bool false, .bool false] : List Value).toArray 28))
  go_enter Try.func6, Try.ntmps6
  go_wp2_with fail
  refine (HO.out _).mono ?_
  rintro e ua ⟨rfl, ka⟩
  have B0_a := blk_kept ka X0
  have B1_a := blk_kept ka X1
  have B2_a := blk_kept ka X2
  have B3_a := blk_kept ka X3
  have K_a := hid (KX.out.trans ka)
  clear ka X0 X1 X2 X3 KX
  have c0_a := blk_cell B0_a
  have c3_a := blk_cell B3_a
  have z1_a := blk_lt B1_a
  have z2_a := blk_lt B2_a
  go_wp2_with (first
    | ((with_reducible refine at_st 25 ?_); refine wl_store rfl rfl rfl rfl B0_a (by kernel_rfl) rfl (Nat.le_of_ble_eq_true rfl) (fun vb pb => ?_); have B0_b : Blk vb w.heap.size 25 [.bool V1.on, .int .u8 V1.line, .int .u16 V1.dot, .int .u8 V1.lyc, .int .u8 V1.sel, .bool V1.high, .int .u16 V1.extra] := pb.blk; have B1_b := pb.other _ _ _ n10 B1_a; have B2_b := pb.other _ _ _ n20 B2_a; have B3_b := pb.other _ _ _ n30 B3_a; have K_b := hid (pb.kept _ K_a.out le0); clear pb K_a B0_a B1_a B2_a B3_a c0_a c3_a z1_a z2_a; have c0_b := blk_cell B0_b; have c3_b := blk_cell B3_b; have z1_b := blk_lt B1_b; have z2_b := blk_lt B2_b)
    | ((with_reducible refine at_st 4 ?_); refine wl_store rfl rfl rfl rfl B3_b (by kernel_rfl) rfl (Nat.le_of_ble_eq_true rfl) (fun ve pe => ?_); have B3_e : Blk ve (w.heap.size + 1 + 1 + 1) 28 [.bool false, .bool false, .bool false] := pe.blk; have B0_e := pe.other _ _ _ n03 B0_b; have B1_e := pe.other _ _ _ n13 B1_b; have B2_e := pe.other _ _ _ n23 B2_b; have K_e := hid (pe.kept _ K_b.out le3); clear pe K_b B0_b B1_b B2_b B3_b c0_b c3_b z1_b z2_b; have c0_e := blk_cell B0_e; have c3_e := blk_cell B3_e; have z1_e := blk_lt B1_e; have z2_e := blk_lt B2_e))
  refine (HA.out _).mono ?_
  rintro e ug ⟨rfl, kg⟩
  have B0_g := blk_kept kg B0_e
  have B1_g := blk_kept kg B1_e
  have B2_g := blk_kept kg B2_e
  have B3_g := blk_kept kg B3_e
  have K_g := hid (K_e.out.trans kg)
  clear kg B0_e B1_e B2_e B3_e K_e c0_e c3_e z1_e z2_e
  have c0_g := blk_cell B0_g
  have c3_g := blk_cell B3_g
  have z1_g := blk_lt B1_g
  have z2_g := blk_lt B2_g
  go_wp2_with (first
    | ((with_reducible refine at_st 25 ?_); refine wl_store rfl rfl rfl rfl B0_g (by kernel_rfl) rfl (Nat.le_of_ble_eq_true rfl) (fun vh ph => ?_); have B0_h : Blk vh w.heap.size 25 [.bool V2.on, .int .u8 V2.line, .int .u16 V2.dot, .int .u8 V2.lyc, .int .u8 V2.sel, .bool V2.high, .int .u16 V2.extra] := ph.blk; have B1_h := ph.other _ _ _ n10 B1_g; have B2_h := ph.other _ _ _ n20 B2_g; have B3_h := ph.other _ _ _ n30 B3_g; have K_h := hid (ph.kept _ K_g.out le0); clear ph K_g B0_g B1_g B2_g B3_g c0_g c3_g z1_g z2_g; have c0_h := blk_cell B0_h; have c3_h := blk_cell B3_h; have z1_h := blk_lt B1_h; have z2_h := blk_lt B2_h)
    | ((with_reducible refine at_st 4 ?_); refine wl_store rfl rfl rfl rfl B3_h (by kernel_rfl) rfl (Nat.le_of_ble_eq_true rfl) (fun vz pz => ?_); have B3_z : Blk vz (w.heap.size + 1 + 1 + 1) 28 [.bool false, .bool r, .bool false] := pz.blk; have B0_z := pz.other _ _ _ n03 B0_h; have B1_z := pz.other _ _ _ n13 B1_h; have B2_z := pz.other _ _ _ n23 B2_h; have K_z := hid (pz.kept _ K_h.out le3); clear pz K_h B0_h B1_h B2_h B3_h c0_h c3_h z1_h z2_h; have c0_z := blk_cell B0_z; have c3_z := blk_cell B3_z; have z1_z := blk_lt B1_z; have z2_z := blk_lt B2_z))
  have f1 := blk_froz B1_z
  have f2 := blk_froz B2_z
  have c1_z := blk_cell B1_z
  have c2_z := blk_cell B2_z
  have Q1 : Put vz (w.heap.size + 1) 25 [.bool V2.on, .int .u8 V2.line, .int .u16 V2.dot, .int .u8 V2.lyc, .int .u8 V2.sel, .bool V2.high, .int .u16 V2.extra] (vz.setCells (w.heap.size + 1) 0 [.bool V2.on, .int .u8 V2.line, .int .u16 V2.dot, .int .u8 V2.lyc, .int .u8 V2.sel, .bool V2.high, .int .u16 V2.extra]) := put_of B1_z 0 [.bool V2.on, .int .u8 V2.line, .int .u16 V2.dot, .int .u8 V2.lyc, .int .u8 V2.sel, .bool V2.high, .int .u16 V2.extra] (Nat.le_of_ble_eq_true rfl)
  have Q2 : Put vz (w.heap.size + 1 + 1) 28 [.bool false, .bool r, .bool false] (vz.setCells (w.heap.size + 1 + 1) 0 [.bool false, .bool r, .bool false]) := put_of B2_z 0 [.bool false, .bool r, .bool false] (Nat.le_of_ble_eq_true rfl)
  have Q12 : Put (vz.setCells (w.heap.size + 1) 0 [.bool V2.on, .int .u8 V2.line, .int .u16 V2.dot, .int .u8 V2.lyc, .int .u8 V2.sel, .bool V2.high, .int .u16 V2.extra]) (w.heap.size + 1 + 1) 28 [.bool false, .bool r, .bool false] ((vz.setCells (w.heap.size + 1) 0 [.bool V2.on, .int .u8 V2.line, .int .u16 V2.dot, .int .u8 V2.lyc, .int .u8 V2.sel, .bool V2.high, .int .u16 V2.extra]).setCells (w.heap.size + 1 + 1) 0 [.bool false, .bool r, .bool false]) := put_of (Q1.other _ _ _ n21 B2_z) 0 [.bool false, .bool r, .bool false] (Nat.le_of_ble_eq_true rfl)
  have Q21 : Put (vz.setCells (w.heap.size + 1 + 1) 0 [.bool false, .bool r, .bool false]) (w.heap.size + 1) 25 [.bool V2.on, .int .u8 V2.line, .int .u16 V2.dot, .int .u8 V2.lyc, .int .u8 V2.sel, .bool V2.high, .int .u16 V2.extra] ((vz.setCells (w.heap.size + 1 + 1) 0 [.bool false, .bool r, .bool false]).setCells (w.heap.size + 1) 0 [.bool V2.on, .int .u8 V2.line, .int .u16 V2.dot, .int .u8 V2.lyc, .int .u8 V2.sel, .bool V2.high, .int .u16 V2.extra]) := put_of (Q2.other _ _ _ n12 B1_z) 0 [.bool V2.on, .int .u8 V2.line, .int .u16 V2.dot, .int .u8 V2.lyc, .int .u8 V2.sel, .bool V2.high, .int .u16 V2.extra] (Nat.le_of_ble_eq_true rfl)
  have R12 := hid (And.intro (Q12.other _ _ _ n12 Q1.blk) (And.intro Q12.blk (Q12.kept _ (Q1.kept _ K_z.out le1) le2)))
  have R21 := hid (And.intro Q21.blk (And.intro (Q21.other _ _ _ n21 Q2.blk) (Q21.kept _ (Q2.kept _ K_z.out le2) le1)))
  clear Q1 Q2 Q12 Q21
  go_region
  all_goals
    go_wp2_with fail
    first
    | (rw [← cells3, ← cells7]
       exact bodyPost_ret (res_two Try.results6 rfl rfl (blk_drew R12.out.1) (blk_drew R12.out.2.1) Try.underlying25 rfl (by kernel_rfl) Try.underlying28 rfl (by kernel_rfl)) rfl ⟨rfl, R12.out.2.2.drew⟩)
    | (rw [← cells7, ← cells3]
       exact bodyPost_ret (res_two Try.results6 rfl rfl (blk_drew R21.out.1) (blk_drew R21.out.2.1) Try.underlying25 rfl (by kernel_rfl) Try.underlying28 rfl (by kernel_rfl)) rfl ⟨rfl, R21.out.2.2.drew⟩)
set_option maxRecDepth 100000 in
set_option maxHeartbeats 4000000 in
theorem pstep15_f (l V1 V2 : Lc) (x : Int) (r : Bool) (w : World) (h : l.on = true) (q : V1.line = 144) (r1 : V1.dot = 0) (HO : ∀ u, Calls Try.prog 10 #[lcV l] u fun e w' => e = .returned (lcV V1) ∧ Kept u w') (HA : ∀ u, Calls Try.prog 11 #[lcV ⟨V1.on, V1.line, V1.dot, V1.lyc, V1.sel, V1.high, V1.extra⟩] u fun e w' => e = .returned (.tuple #[lcV V2, .bool r]) ∧ Kept u w') : Calls Try.prog 6 #[lcV l, .int .u16 x] w fun e w' => e = .returned (.tuple #[lcV V2, evV true r false]) ∧ Kept w w' := by
  have HO := hid HO
  have HA := hid HA
  have g1 : decide (V1.line < 144) = false := decide_eq_false (by omega)
  have g2 : (V1.dot == 0) = true := by simpa using r1
  have g3 : (V1.line == 144) = true := by simpa using q
  clear q r1
  obtain ⟨so, sl, sd, sy, ss, sh, se⟩ := l
  try simp only at *
  subst h
  have n01 : w.heap.size ≠ (w.heap.size + 1) := by omega
  have n02 : w.heap.size ≠ (w.heap.size + 1 + 1) := by omega
  have n03 : w.heap.size ≠ (w.heap.size + 1 + 1 + 1) := by omega
  have n10 : (w.heap.size + 1) ≠ w.heap.size := by omega
  have n12 : (w.heap.size + 1) ≠ (w.heap.size + 1 + 1) := by omega
  have n13 : (w.heap.size + 1) ≠ (w.heap.size + 1 + 1 + 1) := by omega
  have n20 : (w.heap.size + 1 + 1) ≠ w.heap.size := by omega
  have n21 : (w.heap.size + 1 + 1) ≠ (w.heap.size + 1) := by omega
  have n23 : (w.heap.size + 1 + 1) ≠ (w.heap.size + 1 + 1 + 1) := by omega
  have n30 : (w.heap.size + 1 + 1 + 1) ≠ w.heap.size := by omega
  have n31 : (w.heap.size + 1 + 1 + 1) ≠ (w.heap.size + 1) := by omega
  have n32 : (w.heap.size + 1 + 1 + 1) ≠ (w.heap.size + 1 + 1) := by omega
  have le0 : w.heap.size ≤ w.heap.size := by omega
  have le1 : w.heap.size ≤ (w.heap.size + 1) := by omega
  have le2 : w.heap.size ≤ (w.heap.size + 1 + 1) := by omega
  have le3 : w.heap.size ≤ (w.heap.size + 1 + 1 + 1) := by omega
  have X0 : Blk ((((w.alloc (.cells ([.bool true, .int .u8 sl, .int .u16 sd, .int .u8 sy, .int .u8 ss, .bool sh, .int .u16 se] : List Value).toArray 25)).alloc (.cells ([.bool false, .int .u8 0, .int .u16 0, .int .u8 0, .int .u8 0, .bool false, .int .u16 0] : List Value).toArray 25)).alloc (.cells ([.bool false, .bool false, .bool false] : List Value).toArray 28)).alloc (.cells ([.bool false, .bool false, .bool false] : List Value).toArray 28)) w.heap.size 25 [.bool true, .int .u8 sl, .int .u16 sd, .int .u8 sy, .int .u8 ss, .bool sh, .int .u16 se] := blk_past (blk_past (blk_past (blk_new w _ _) _) _) _
  have X1 : Blk ((((w.alloc (.cells ([.bool true, .int .u8 sl, .int .u16 sd, .int .u8 sy, .int .u8 ss, .bool sh, .int .u16 se] : List Value).toArray 25)).alloc (.cells ([.bool false, .int .u8 0, .int .u16 0, .int .u8 0, .int .u8 0, .bool false, .int .u16 0] : List Value).toArray 25)).alloc (.cells ([.bool false, .bool false, .bool false] : List Value).toArray 28)).alloc (.cells ([.bool false, .bool false, .bool false] : List Value).toArray 28)) (w.heap.size + 1) 25 [.bool false, .int .u8 0, .int .u16 0, .int .u8 0, .int .u8 0, .bool false, .int .u16 0] := by have q := blk_new (w.alloc (.cells ([.bool true, .int .u8 sl, .int .u16 sd, .int .u8 sy, .int .u8 ss, .bool sh, .int .u16 se] : List Value).toArray 25)) [.bool false, .int .u8 0, .int .u16 0, .int .u8 0, .int .u8 0, .bool false, .int .u16 0] 25; rw [World.size_alloc] at q; exact blk_past (blk_past q _) _
  have X2 : Blk ((((w.alloc (.cells ([.bool true, .int .u8 sl, .int .u16 sd, .int .u8 sy, .int .u8 ss, .bool sh, .int .u16 se] : List Value).toArray 25)).alloc (.cells ([.bool false, .int .u8 0, .int .u16 0, .int .u8 0, .int .u8 0, .bool false, .int .u16 0] : List Value).toArray 25)).alloc (.cells ([.bool false, .bool false, .bool false] : List Value).toArray 28)).alloc (.cells ([.bool false, .bool false, .bool false] : List Value).toArray 28)) (w.heap.size + 1 + 1) 28 [.bool false, .bool false, .bool false] := by have q := blk_new ((w.alloc (.cells ([.bool true, .int .u8 sl, .int .u16 sd, .int .u8 sy, .int .u8 ss, .bool sh, .int .u16 se] : List Value).toArray 25)).alloc (.cells ([.bool false, .int .u8 0, .int .u16 0, .int .u8 0, .int .u8 0, .bool false, .int .u16 0] : List Value).toArray 25)) [.bool false, .bool false, .bool false] 28; rw [World.size_alloc, World.size_alloc] at q; exact blk_past q _
  have X3 : Blk ((((w.alloc (.cells ([.bool true, .int .u8 sl, .int .u16 sd, .int .u8 sy, .int .u8 ss, .bool sh, .int .u16 se] : List Value).toArray 25)).alloc (.cells ([.bool false, .int .u8 0, .int .u16 0, .int .u8 0, .int .u8 0, .bool false, .int .u16 0] : List Value).toArray 25)).alloc (.cells ([.bool false, .bool false, .bool false] : List Value).toArray 28)).alloc (.cells ([.bool false, .bool false, .bool false] : List Value).toArray 28)) (w.heap.size + 1 + 1 + 1) 28 [.bool false, .bool false, .bool false] := by have q := blk_new (((w.alloc (.cells ([.bool true, .int .u8 sl, .int .u16 sd, .int .u8 sy, .int .u8 ss, .bool sh, .int .u16 se] : List Value).toArray 25)).alloc (.cells ([.bool false, .int .u8 0, .int .u16 0, .int .u8 0, .int .u8 0, .bool false, .int .u16 0] : List Value).toArray 25)).alloc (.cells ([.bool false, .bool false, .bool false] : List Value).toArray 28)) [.bool false, .bool false, .bool false] 28; rw [World.size_alloc, World.size_alloc, World.size_alloc] at q; exact q
  have KX := hid (((((Kept.refl w).alloc (.cells ([.bool true, .int .u8 sl, .int .u16 sd, .int .u8 sy, .int .u8 ss, .bool sh, .int .u16 se] : List Value).toArray 25)).alloc (.cells ([.bool false, .int .u8 0, .int .u16 0, .int .u8 0, .int .u8 0, .bool false, .int .u16 0] : List Value).toArray 25)).alloc (.cells ([.bool false, .bool false, .bool false] : List Value).toArray 28)).alloc (.cells ([.bool false, .bool false, .bool false] : List Value).toArray 28))
  go_enter Try.func6, Try.ntmps6
  go_wp2_with fail
  refine (HO.out _).mono ?_
  rintro e ua ⟨rfl, ka⟩
  have B0_a := blk_kept ka X0
  have B1_a := blk_kept ka X1
  have B2_a := blk_kept ka X2
  have B3_a := blk_kept ka X3
  have K_a := hid (KX.out.trans ka)
  clear ka X0 X1 X2 X3 KX
  have c0_a := blk_cell B0_a
  have c3_a := blk_cell B3_a
  have z1_a := blk_lt B1_a
  have z2_a := blk_lt B2_a
  go_wp2_with (first
    | ((with_reducible refine at_st 25 ?_); refine wl_store rfl rfl rfl rfl B0_a (by kernel_rfl) rfl (Nat.le_of_ble_eq_true rfl) (fun vb pb => ?_); have B0_b : Blk vb w.heap.size 25 [.bool V1.on, .int .u8 V1.line, .int .u16 V1.dot, .int .u8 V1.lyc, .int .u8 V1.sel, .bool V1.high, .int .u16 V1.extra] := pb.blk; have B1_b := pb.other _ _ _ n10 B1_a; have B2_b := pb.other _ _ _ n20 B2_a; have B3_b := pb.other _ _ _ n30 B3_a; have K_b := hid (pb.kept _ K_a.out le0); clear pb K_a B0_a B1_a B2_a B3_a c0_a c3_a z1_a z2_a; have c0_b := blk_cell B0_b; have c3_b := blk_cell B3_b; have z1_b := blk_lt B1_b; have z2_b := blk_lt B2_b)
    | ((with_reducible refine at_st 4 ?_); refine wl_store rfl rfl rfl rfl B3_b (by kernel_rfl) rfl (Nat.le_of_ble_eq_true rfl) (fun ve pe => ?_); have B3_e : Blk ve (w.heap.size + 1 + 1 + 1) 28 [.bool true, .bool false, .bool false] := pe.blk; have B0_e := pe.other _ _ _ n03 B0_b; have B1_e := pe.other _ _ _ n13 B1_b; have B2_e := pe.other _ _ _ n23 B2_b; have K_e := hid (pe.kept _ K_b.out le3); clear pe K_b B0_b B1_b B2_b B3_b c0_b c3_b z1_b z2_b; have c0_e := blk_cell B0_e; have c3_e := blk_cell B3_e; have z1_e := blk_lt B1_e; have z2_e := blk_lt B2_e))
  refine (HA.out _).mono ?_
  rintro e ug ⟨rfl, kg⟩
  have B0_g := blk_kept kg B0_e
  have B1_g := blk_kept kg B1_e
  have B2_g := blk_kept kg B2_e
  have B3_g := blk_kept kg B3_e
  have K_g := hid (K_e.out.trans kg)
  clear kg B0_e B1_e B2_e B3_e K_e c0_e c3_e z1_e z2_e
  have c0_g := blk_cell B0_g
  have c3_g := blk_cell B3_g
  have z1_g := blk_lt B1_g
  have z2_g := blk_lt B2_g
  go_wp2_with (first
    | ((with_reducible refine at_st 25 ?_); refine wl_store rfl rfl rfl rfl B0_g (by kernel_rfl) rfl (Nat.le_of_ble_eq_true rfl) (fun vh ph => ?_); have B0_h : Blk vh w.heap.size 25 [.bool V2.on, .int .u8 V2.line, .int .u16 V2.dot, .int .u8 V2.lyc, .int .u8 V2.sel, .bool V2.high, .int .u16 V2.extra] := ph.blk; have B1_h := ph.other _ _ _ n10 B1_g; have B2_h := ph.other _ _ _ n20 B2_g; have B3_h := ph.other _ _ _ n30 B3_g; have K_h := hid (ph.kept _ K_g.out le0); clear ph K_g B0_g B1_g B2_g B3_g c0_g c3_g z1_g z2_g; have c0_h := blk_cell B0_h; have c3_h := blk_cell B3_h; have z1_h := blk_lt B1_h; have z2_h := blk_lt B2_h)
    | ((with_reducible refine at_st 4 ?_); refine wl_store rfl rfl rfl rfl B3_h (by kernel_rfl) rfl (Nat.le_of_ble_eq_true rfl) (fun vz pz => ?_); have B3_z : Blk vz (w.heap.size + 1 + 1 + 1) 28 [.bool true, .bool r, .bool false] := pz.blk; have B0_z := pz.other _ _ _ n03 B0_h; have B1_z := pz.other _ _ _ n13 B1_h; have B2_z := pz.other _ _ _ n23 B2_h; have K_z := hid (pz.kept _ K_h.out le3); clear pz K_h B0_h B1_h B2_h B3_h c0_h c3_h z1_h z2_h; have c0_z := blk_cell B0_z; have c3_z := blk_cell B3_z; have z1_z := blk_lt B1_z; have z2_z := blk_lt B2_z))
  have f1 := blk_froz B1_z
  have f2 := blk_froz B2_z
  have c1_z := blk_cell B1_z
  have c2_z := blk_cell B2_z
  have Q1 : Put vz (w.heap.size + 1) 25 [.bool V2.on, .int .u8 V2.line, .int .u16 V2.dot, .int .u8 V2.lyc, .int .u8 V2.sel, .bool V2.high, .int .u16 V2.extra] (vz.setCells (w.heap.size + 1) 0 [.bool V2.on, .int .u8 V2.line, .int .u16 V2.dot, .int .u8 V2.lyc, .int .u8 V2.sel, .bool V2.high, .int .u16 V2.extra]) := put_of B1_z 0 [.bool V2.on, .int .u8 V2.line, .int .u16 V2.dot, .int .u8 V2.lyc, .int .u8 V2.sel, .bool V2.high, .int .u16 V2.extra] (Nat.le_of_ble_eq_true rfl)
  have Q2 : Put vz (w.heap.size + 1 + 1) 28 [.bool true, .bool r, .bool false] (vz.setCells (w.heap.size + 1 + 1) 0 [.bool true, .bool r, .bool false]) := put_of B2_z 0 [.bool true, .bool r, .bool false] (Nat.le_of_ble_eq_true rfl)
  have Q12 : Put (vz.setCells (w.heap.size + 1) 0 [.bool V2.on, .int .u8 V2.line, .int .u16 V2.dot, .int .u8 V2.lyc, .int .u8 V2.sel, .bool V2.high, .int .u16 V2.extra]) (w.heap.size + 1 + 1) 28 [.bool true, .bool r, .bool false] ((vz.setCells (w.heap.size + 1) 0 [.bool V2.on, .int .u8 V2.line, .int .u16 V2.dot, .int .u8 V2.lyc, .int .u8 V2.sel, .bool V2.high, .int .u16 V2.extra]).setCells (w.heap.size + 1 + 1) 0 [.bool true, .bool r, .bool false]) := put_of (Q1.other _ _ _ n21 B2_z) 0 [.bool true, .bool r, .bool false] (Nat.le_of_ble_eq_true rfl)
  have Q21 : Put (vz.setCells (w.heap.size + 1 + 1) 0 [.bool true, .bool r, .bool false]) (w.heap.size + 1) 25 [.bool V2.on, .int .u8 V2.line, .int .u16 V2.dot, .int .u8 V2.lyc, .int .u8 V2.sel, .bool V2.high, .int .u16 V2.extra] ((vz.setCells (w.heap.size + 1 + 1) 0 [.bool true, .bool r, .bool false]).setCells (w.heap.size + 1) 0 [.bool V2.on, .int .u8 V2.line, .int .u16 V2.dot, .int .u8 V2.lyc, .int .u8 V2.sel, .bool V2.high, .int .u16 V2.extra]) := put_of (Q2.other _ _ _ n12 B1_z) 0 [.bool V2.on, .int .u8 V2.line, .int .u16 V2.dot, .int .u8 V2.lyc, .int .u8 V2.sel, .bool V2.high, .int .u16 V2.extra] (Nat.le_of_ble_eq_true rfl)
  have R12 := hid (And.intro (Q12.other _ _ _ n12 Q1.blk) (And.intro Q12.blk (Q12.kept _ (Q1.kept _ K_z.out le1) le2)))
  have R21 := hid (And.intro Q21.blk (And.intro (Q21.other _ _ _ n21 Q2.blk) (Q21.kept _ (Q2.kept _ K_z.out le2) le1)))
  clear Q1 Q2 Q12 Q21
  go_region
  all_goals
    go_wp2_with fail
    first
    | (rw [← cells3, ← cells7]
       exact bodyPost_ret (res_two Try.results6 rfl rfl (blk_drew R12.out.1) (blk_drew R12.out.2.1) Try.underlying25 rfl (by kernel_rfl) Try.underlying28 rfl (by kernel_rfl)) rfl ⟨rfl, R12.out.2.2.drew⟩)
    | (rw [← cells7, ← cells3]
       exact bodyPost_ret (res_two Try.results6 rfl rfl (blk_drew R21.out.1) (blk_drew R21.out.2.1) Try.underlying25 rfl (by kernel_rfl) Try.underlying28 rfl (by kernel_rfl)) rfl ⟨rfl, R21.out.2.2.drew⟩)
set_option maxRecDepth 100000 in
set_option maxHeartbeats 4000000 in
theorem pstep15_g (l V1 V2 : Lc) (x : Int) (r : Bool) (w : World) (h : l.on = true) (q : V1.line = 144) (r1 : V1.dot ≠ 0) (HO : ∀ u, Calls Try.prog 10 #[lcV l] u fun e w' => e = .returned (lcV V1) ∧ Kept u w') (HA : ∀ u, Calls Try.prog 11 #[lcV ⟨V1.on, V1.line, V1.dot, V1.lyc, V1.sel, V1.high, V1.extra⟩] u fun e w' => e = .returned (.tuple #[lcV V2, .bool r]) ∧ Kept u w') : Calls Try.prog 6 #[lcV l, .int .u16 x] w fun e w' => e = .returned (.tuple #[lcV V2, evV false r false]) ∧ Kept w w' := by
  have HO := hid HO
  have HA := hid HA
  have g1 : decide (V1.line < 144) = false := decide_eq_false (by omega)
  have g2 : (V1.dot == 0) = false := by simpa using r1
  have g3 : (V1.line == 144) = true := by simpa using q
  clear q
  obtain ⟨so, sl, sd, sy, ss, sh, se⟩ := l
  try simp only at *
  subst h
  have n01 : w.heap.size ≠ (w.heap.size + 1) := by omega
  have n02 : w.heap.size ≠ (w.heap.size + 1 + 1) := by omega
  have n03 : w.heap.size ≠ (w.heap.size + 1 + 1 + 1) := by omega
  have n10 : (w.heap.size + 1) ≠ w.heap.size := by omega
  have n12 : (w.heap.size + 1) ≠ (w.heap.size + 1 + 1) := by omega
  have n13 : (w.heap.size + 1) ≠ (w.heap.size + 1 + 1 + 1) := by omega
  have n20 : (w.heap.size + 1 + 1) ≠ w.heap.size := by omega
  have n21 : (w.heap.size + 1 + 1) ≠ (w.heap.size + 1) := by omega
  have n23 : (w.heap.size + 1 + 1) ≠ (w.heap.size + 1 + 1 + 1) := by omega
  have n30 : (w.heap.size + 1 + 1 + 1) ≠ w.heap.size := by omega
  have n31 : (w.heap.size + 1 + 1 + 1) ≠ (w.heap.size + 1) := by omega
  have n32 : (w.heap.size + 1 + 1 + 1) ≠ (w.heap.size + 1 + 1) := by omega
  have le0 : w.heap.size ≤ w.heap.size := by omega
  have le1 : w.heap.size ≤ (w.heap.size + 1) := by omega
  have le2 : w.heap.size ≤ (w.heap.size + 1 + 1) := by omega
  have le3 : w.heap.size ≤ (w.heap.size + 1 + 1 + 1) := by omega
  have X0 : Blk ((((w.alloc (.cells ([.bool true, .int .u8 sl, .int .u16 sd, .int .u8 sy, .int .u8 ss, .bool sh, .int .u16 se] : List Value).toArray 25)).alloc (.cells ([.bool false, .int .u8 0, .int .u16 0, .int .u8 0, .int .u8 0, .bool false, .int .u16 0] : List Value).toArray 25)).alloc (.cells ([.bool false, .bool false, .bool false] : List Value).toArray 28)).alloc (.cells ([.bool false, .bool false, .bool false] : List Value).toArray 28)) w.heap.size 25 [.bool true, .int .u8 sl, .int .u16 sd, .int .u8 sy, .int .u8 ss, .bool sh, .int .u16 se] := blk_past (blk_past (blk_past (blk_new w _ _) _) _) _
  have X1 : Blk ((((w.alloc (.cells ([.bool true, .int .u8 sl, .int .u16 sd, .int .u8 sy, .int .u8 ss, .bool sh, .int .u16 se] : List Value).toArray 25)).alloc (.cells ([.bool false, .int .u8 0, .int .u16 0, .int .u8 0, .int .u8 0, .bool false, .int .u16 0] : List Value).toArray 25)).alloc (.cells ([.bool false, .bool false, .bool false] : List Value).toArray 28)).alloc (.cells ([.bool false, .bool false, .bool false] : List Value).toArray 28)) (w.heap.size + 1) 25 [.bool false, .int .u8 0, .int .u16 0, .int .u8 0, .int .u8 0, .bool false, .int .u16 0] := by have q := blk_new (w.alloc (.cells ([.bool true, .int .u8 sl, .int .u16 sd, .int .u8 sy, .int .u8 ss, .bool sh, .int .u16 se] : List Value).toArray 25)) [.bool false, .int .u8 0, .int .u16 0, .int .u8 0, .int .u8 0, .bool false, .int .u16 0] 25; rw [World.size_alloc] at q; exact blk_past (blk_past q _) _
  have X2 : Blk ((((w.alloc (.cells ([.bool true, .int .u8 sl, .int .u16 sd, .int .u8 sy, .int .u8 ss, .bool sh, .int .u16 se] : List Value).toArray 25)).alloc (.cells ([.bool false, .int .u8 0, .int .u16 0, .int .u8 0, .int .u8 0, .bool false, .int .u16 0] : List Value).toArray 25)).alloc (.cells ([.bool false, .bool false, .bool false] : List Value).toArray 28)).alloc (.cells ([.bool false, .bool false, .bool false] : List Value).toArray 28)) (w.heap.size + 1 + 1) 28 [.bool false, .bool false, .bool false] := by have q := blk_new ((w.alloc (.cells ([.bool true, .int .u8 sl, .int .u16 sd, .int .u8 sy, .int .u8 ss, .bool sh, .int .u16 se] : List Value).toArray 25)).alloc (.cells ([.bool false, .int .u8 0, .int .u16 0, .int .u8 0, .int .u8 0, .bool false, .int .u16 0] : List Value).toArray 25)) [.bool false, .bool false, .bool false] 28; rw [World.size_alloc, World.size_alloc] at q; exact blk_past q _
  have X3 : Blk ((((w.alloc (.cells ([.bool true, .int .u8 sl, .int .u16 sd, .int .u8 sy, .int .u8 ss, .bool sh, .int .u16 se] : List Value).toArray 25)).alloc (.cells ([.bool false, .int .u8 0, .int .u16 0, .int .u8 0, .int .u8 0, .bool false, .int .u16 0] : List Value).toArray 25)).alloc (.cells ([.bool false, .bool false, .bool false] : List Value).toArray 28)).alloc (.cells ([.bool false, .bool false, .bool false] : List Value).toArray 28)) (w.heap.size + 1 + 1 + 1) 28 [.bool false, .bool false, .bool false] := by have q := blk_new (((w.alloc (.cells ([.bool true, .int .u8 sl, .int .u16 sd, .int .u8 sy, .int .u8 ss, .bool sh, .int .u16 se] : List Value).toArray 25)).alloc (.cells ([.bool false, .int .u8 0, .int .u16 0, .int .u8 0, .int .u8 0, .bool false, .int .u16 0] : List Value).toArray 25)).alloc (.cells ([.bool false, .bool false, .bool false] : List Value).toArray 28)) [.bool false, .bool false, .bool false] 28; rw [World.size_alloc, World.size_alloc, World.size_alloc] at q; exact q
  have KX := hid (((((Kept.refl w).alloc (.cells ([.bool true, .int .u8 sl, .int .u16 sd, .int .u8 sy, .int .u8 ss, .bool sh, .int .u16 se] : List Value).toArray 25)).alloc (.cells ([.bool false, .int .u8 0, .int .u16 0, .int .u8 0, .int .u8 0, .bool false, .int .u16 0] : List Value).toArray 25)).alloc (.cells ([.bool false, .bool false, .bool false] : List Value).toArray 28)).alloc (.cells ([.bool false, .bool false, .bool false] : List Value).toArray 28))
  go_enter Try.func6, Try.ntmps6
  go_wp2_with fail
  refine (HO.out _).mono ?_
  rintro e ua ⟨rfl, ka⟩
  have B0_a := blk_kept ka X0
  have B1_a := blk_kept ka X1
  have B2_a := blk_kept ka X2
  have B3_a := blk_kept ka X3
  have K_a := hid (KX.out.trans ka)
  clear ka X0 X1 X2 X3 KX
  have c0_a := blk_cell B0_a
  have c3_a := blk_cell B3_a
  have z1_a := blk_lt B1_a
  have z2_a := blk_lt B2_a
  go_wp2_with (first
    | ((with_reducible refine at_st 25 ?_); refine wl_store rfl rfl rfl rfl B0_a (by kernel_rfl) rfl (Nat.le_of_ble_eq_true rfl) (fun vb pb => ?_); have B0_b : Blk vb w.heap.size 25 [.bool V1.on, .int .u8 V1.line, .int .u16 V1.dot, .int .u8 V1.lyc, .int .u8 V1.sel, .bool V1.high, .int .u16 V1.extra] := pb.blk; have B1_b := pb.other _ _ _ n10 B1_a; have B2_b := pb.other _ _ _ n20 B2_a; have B3_b := pb.other _ _ _ n30 B3_a; have K_b := hid (pb.kept _ K_a.out le0); clear pb K_a B0_a B1_a B2_a B3_a c0_a c3_a z1_a z2_a; have c0_b := blk_cell B0_b; have c3_b := blk_cell B3_b; have z1_b := blk_lt B1_b; have z2_b := blk_lt B2_b)
    | ((with_reducible refine at_st 4 ?_); refine wl_store rfl rfl rfl rfl B3_b (by kernel_rfl) rfl (Nat.le_of_ble_eq_true rfl) (fun ve pe => ?_); have B3_e : Blk ve (w.heap.size + 1 + 1 + 1) 28 [.bool false, .bool false, .bool false] := pe.blk; have B0_e := pe.other _ _ _ n03 B0_b; have B1_e := pe.other _ _ _ n13 B1_b; have B2_e := pe.other _ _ _ n23 B2_b; have K_e := hid (pe.kept _ K_b.out le3); clear pe K_b B0_b B1_b B2_b B3_b c0_b c3_b z1_b z2_b; have c0_e := blk_cell B0_e; have c3_e := blk_cell B3_e; have z1_e := blk_lt B1_e; have z2_e := blk_lt B2_e))
  refine (HA.out _).mono ?_
  rintro e ug ⟨rfl, kg⟩
  have B0_g := blk_kept kg B0_e
  have B1_g := blk_kept kg B1_e
  have B2_g := blk_kept kg B2_e
  have B3_g := blk_kept kg B3_e
  have K_g := hid (K_e.out.trans kg)
  clear kg B0_e B1_e B2_e B3_e K_e c0_e c3_e z1_e z2_e
  have c0_g := blk_cell B0_g
  have c3_g := blk_cell B3_g
  have z1_g := blk_lt B1_g
  have z2_g := blk_lt B2_g
  go_wp2_with (first
    | ((with_reducible refine at_st 25 ?_); refine wl_store rfl rfl rfl rfl B0_g (by kernel_rfl) rfl (Nat.le_of_ble_eq_true rfl) (fun vh ph => ?_); have B0_h : Blk vh w.heap.size 25 [.bool V2.on, .int .u8 V2.line, .int .u16 V2.dot, .int .u8 V2.lyc, .int .u8 V2.sel, .bool V2.high, .int .u16 V2.extra] := ph.blk; have B1_h := ph.other _ _ _ n10 B1_g; have B2_h := ph.other _ _ _ n20 B2_g; have B3_h := ph.other _ _ _ n30 B3_g; have K_h := hid (ph.kept _ K_g.out le0); clear ph K_g B0_g B1_g B2_g B3_g c0_g c3_g z1_g z2_g; have c0_h := blk_cell B0_h; have c3_h := blk_cell B3_h; have z1_h := blk_lt B1_h; have z2_h := blk_lt B2_h)
    | ((with_reducible refine at_st 4 ?_); refine wl_store rfl rfl rfl rfl B3_h (by kernel_rfl) rfl (Nat.le_of_ble_eq_true rfl) (fun vz pz => ?_); have B3_z : Blk vz (w.heap.size + 1 + 1 + 1) 28 [.bool false, .bool r, .bool false] := pz.blk; have B0_z := pz.other _ _ _ n03 B0_h; have B1_z := pz.other _ _ _ n13 B1_h; have B2_z := pz.other _ _ _ n23 B2_h; have K_z := hid (pz.kept _ K_h.out le3); clear pz K_h B0_h B1_h B2_h B3_h c0_h c3_h z1_h z2_h; have c0_z := blk_cell B0_z; have c3_z := blk_cell B3_z; have z1_z := blk_lt B1_z; have z2_z := blk_lt B2_z))
  have f1 := blk_froz B1_z
  have f2 := blk_froz B2_z
  have c1_z := blk_cell B1_z
  have c2_z := blk_cell B2_z
  have Q1 : Put vz (w.heap.size + 1) 25 [.bool V2.on, .int .u8 V2.line, .int .u16 V2.dot, .int .u8 V2.lyc, .int .u8 V2.sel, .bool V2.high, .int .u16 V2.extra] (vz.setCells (w.heap.size + 1) 0 [.bool V2.on, .int .u8 V2.line, .int .u16 V2.dot, .int .u8 V2.lyc, .int .u8 V2.sel, .bool V2.high, .int .u16 V2.extra]) := put_of B1_z 0 [.bool V2.on, .int .u8 V2.line, .int .u16 V2.dot, .int .u8 V2.lyc, .int .u8 V2.sel, .bool V2.high, .int .u16 V2.extra] (Nat.le_of_ble_eq_true rfl)
  have Q2 : Put vz (w.heap.size + 1 + 1) 28 [.bool false, .bool r, .bool false] (vz.setCells (w.heap.size + 1 + 1) 0 [.bool false, .bool r, .bool false]) := put_of B2_z 0 [.bool false, .bool r, .bool false] (Nat.le_of_ble_eq_true rfl)
  have Q12 : Put (vz.setCells (w.heap.size + 1) 0 [.bool V2.on, .int .u8 V2.line, .int .u16 V2.dot, .int .u8 V2.lyc, .int .u8 V2.sel, .bool V2.high, .int .u16 V2.extra]) (w.heap.size + 1 + 1) 28 [.bool false, .bool r, .bool false] ((vz.setCells (w.heap.size + 1) 0 [.bool V2.on, .int .u8 V2.line, .int .u16 V2.dot, .int .u8 V2.lyc, .int .u8 V2.sel, .bool V2.high, .int .u16 V2.extra]).setCells (w.heap.size + 1 + 1) 0 [.bool false, .bool r, .bool false]) := put_of (Q1.other _ _ _ n21 B2_z) 0 [.bool false, .bool r, .bool false] (Nat.le_of_ble_eq_true rfl)
  have Q21 : Put (vz.setCells (w.heap.size + 1 + 1) 0 [.bool false, .bool r, .bool false]) (w.heap.size + 1) 25 [.bool V2.on, .int .u8 V2.line, .int .u16 V2.dot, .int .u8 V2.lyc, .int .u8 V2.sel, .bool V2.high, .int .u16 V2.extra] ((vz.setCells (w.heap.size + 1 + 1) 0 [.bool false, .bool r, .bool false]).setCells (w.heap.size + 1) 0 [.bool V2.on, .int .u8 V2.line, .int .u16 V2.dot, .int .u8 V2.lyc, .int .u8 V2.sel, .bool V2.high, .int .u16 V2.extra]) := put_of (Q2.other _ _ _ n12 B1_z) 0 [.bool V2.on, .int .u8 V2.line, .int .u16 V2.dot, .int .u8 V2.lyc, .int .u8 V2.sel, .bool V2.high, .int .u16 V2.extra] (Nat.le_of_ble_eq_true rfl)
  have R12 := hid (And.intro (Q12.other _ _ _ n12 Q1.blk) (And.intro Q12.blk (Q12.kept _ (Q1.kept _ K_z.out le1) le2)))
  have R21 := hid (And.intro Q21.blk (And.intro (Q21.other _ _ _ n21 Q2.blk) (Q21.kept _ (Q2.kept _ K_z.out le2) le1)))
  clear Q1 Q2 Q12 Q21
  go_region
  all_goals
    go_wp2_with fail
    first
    | (rw [← cells3, ← cells7]
       exact bodyPost_ret (res_two Try.results6 rfl rfl (blk_drew R12.out.1) (blk_drew R12.out.2.1) Try.underlying25 rfl (by kernel_rfl) Try.underlying28 rfl (by kernel_rfl)) rfl ⟨rfl, R12.out.2.2.drew⟩)
    | (rw [← cells7, ← cells3]
       exact bodyPost_ret (res_two Try.results6 rfl rfl (blk_drew R21.out.1) (blk_drew R21.out.2.1) Try.underlying25 rfl (by kernel_rfl) Try.underlying28 rfl (by kernel_rfl)) rfl ⟨rfl, R21.out.2.2.drew⟩)
set_option maxRecDepth 100000 in
set_option maxHeartbeats 4000000 in
theorem pstep15_k (l V1 V2 : Lc) (x : Int) (r : Bool) (w : World) (h : l.on = true) (q : 144 < V1.line) (HO : ∀ u, Calls Try.prog 10 #[lcV l] u fun e w' => e = .returned (lcV V1) ∧ Kept u w') (HA : ∀ u, Calls Try.prog 11 #[lcV ⟨V1.on, V1.line, V1.dot, V1.lyc, V1.sel, V1.high, V1.extra⟩] u fun e w' => e = .returned (.tuple #[lcV V2, .bool r]) ∧ Kept u w') : Calls Try.prog 6 #[lcV l, .int .u16 x] w fun e w' => e = .returned (.tuple #[lcV V2, evV false r false]) ∧ Kept w w' := by
  have HO := hid HO
  have HA := hid HA
  have g1 : decide (V1.line < 144) = false := decide_eq_false (by omega)
  have g3 : (V1.line == 144) = false := by simp; omega
  obtain ⟨so, sl, sd, sy, ss, sh, se⟩ := l
  try simp only at *
  subst h
  have n01 : w.heap.size ≠ (w.heap.size + 1) := by omega
  have n02 : w.heap.size ≠ (w.heap.size + 1 + 1) := by omega
  have n03 : w.heap.size ≠ (w.heap.size + 1 + 1 + 1) := by omega
  have n10 : (w.heap.size + 1) ≠ w.heap.size := by omega
  have n12 : (w.heap.size + 1) ≠ (w.heap.size + 1 + 1) := by omega
  have n13 : (w.heap.size + 1) ≠ (w.heap.size + 1 + 1 + 1) := by omega
  have n20 : (w.heap.size + 1 + 1) ≠ w.heap.size := by omega
  have n21 : (w.heap.size + 1 + 1) ≠ (w.heap.size + 1) := by omega
  have n23 : (w.heap.size + 1 + 1) ≠ (w.heap.size + 1 + 1 + 1) := by omega
  have n30 : (w.heap.size + 1 + 1 + 1) ≠ w.heap.size := by omega
  have n31 : (w.heap.size + 1 + 1 + 1) ≠ (w.heap.size + 1) := by omega
  have n32 : (w.heap.size + 1 + 1 + 1) ≠ (w.heap.size + 1 + 1) := by omega
  have le0 : w.heap.size ≤ w.heap.size := by omega
  have le1 : w.heap.size ≤ (w.heap.size + 1) := by omega
  have le2 : w.heap.size ≤ (w.heap.size + 1 + 1) := by omega
  have le3 : w.heap.size ≤ (w.heap.size + 1 + 1 + 1) := by omega
  have X0 : Blk ((((w.alloc (.cells ([.bool true, .int .u8 sl, .int .u16 sd, .int .u8 sy, .int .u8 ss, .bool sh, .int .u16 se] : List Value).toArray 25)).alloc (.cells ([.bool false, .int .u8 0, .int .u16 0, .int .u8 0, .int .u8 0, .bool false, .int .u16 0] : List Value).toArray 25)).alloc (.cells ([.bool false, .bool false, .bool false] : List Value).toArray 28)).alloc (.cells ([.bool false, .bool false, .bool false] : List Value).toArray 28)) w.heap.size 25 [.bool true, .int .u8 sl, .int .u16 sd, .int .u8 sy, .int .u8 ss, .bool sh, .int .u16 se] := blk_past (blk_past (blk_past (blk_new w _ _) _) _) _
  have X1 : Blk ((((w.alloc (.cells ([.bool true, .int .u8 sl, .int .u16 sd, .int .u8 sy, .int .u8 ss, .bool sh, .int .u16 se] : List Value).toArray 25)).alloc (.cells ([.bool false, .int .u8 0, .int .u16 0, .int .u8 0, .int .u8 0, .bool false, .int .u16 0] : List Value).toArray 25)).alloc (.cells ([.bool false, .bool false, .bool false] : List Value).toArray 28)).alloc (.cells ([.bool false, .bool false, .bool false] : List Value).toArray 28)) (w.heap.size + 1) 25 [.bool false, .int .u8 0, .int .u16 0, .int .u8 0, .int .u8 0, .bool false, .int .u16 0] := by have q := blk_new (w.alloc (.cells ([.bool true, .int .u8 sl, .int .u16 sd, .int .u8 sy, .int .u8 ss, .bool sh, .int .u16 se] : List Value).toArray 25)) [.bool false, .int .u8 0, .int .u16 0, .int .u8 0, .int .u8 0, .bool false, .int .u16 0] 25; rw [World.size_alloc] at q; exact blk_past (blk_past q _) _
  have X2 : Blk ((((w.alloc (.cells ([.bool true, .int .u8 sl, .int .u16 sd, .int .u8 sy, .int .u8 ss, .bool sh, .int .u16 se] : List Value).toArray 25)).alloc (.cells ([.bool false, .int .u8 0, .int .u16 0, .int .u8 0, .int .u8 0, .bool false, .int .u16 0] : List Value).toArray 25)).alloc (.cells ([.bool false, .bool false, .bool false] : List Value).toArray 28)).alloc (.cells ([.bool false, .bool false, .bool false] : List Value).toArray 28)) (w.heap.size + 1 + 1) 28 [.bool false, .bool false, .bool false] := by have q := blk_new ((w.alloc (.cells ([.bool true, .int .u8 sl, .int .u16 sd, .int .u8 sy, .int .u8 ss, .bool sh, .int .u16 se] : List Value).toArray 25)).alloc (.cells ([.bool false, .int .u8 0, .int .u16 0, .int .u8 0, .int .u8 0, .bool false, .int .u16 0] : List Value).toArray 25)) [.bool false, .bool false, .bool false] 28; rw [World.size_alloc, World.size_alloc] at q; exact blk_past q _
  have X3 : Blk ((((w.alloc (.cells ([.bool true, .int .u8 sl, .int .u16 sd, .int .u8 sy, .int .u8 ss, .bool sh, .int .u16 se] : List Value).toArray 25)).alloc (.cells ([.bool false, .int .u8 0, .int .u16 0, .int .u8 0, .int .u8 0, .bool false, .int .u16 0] : List Value).toArray 25)).alloc (.cells ([.bool false, .bool false, .bool false] : List Value).toArray 28)).alloc (.cells ([.bool false, .bool false, .bool false] : List Value).toArray 28)) (w.heap.size + 1 + 1 + 1) 28 [.bool false, .bool false, .bool false] := by have q := blk_new (((w.alloc (.cells ([.bool true, .int .u8 sl, .int .u16 sd, .int .u8 sy, .int .u8 ss, .bool sh, .int .u16 se] : List Value).toArray 25)).alloc (.cells ([.bool false, .int .u8 0, .int .u16 0, .int .u8 0, .int .u8 0, .bool false, .int .u16 0] : List Value).toArray 25)).alloc (.cells ([.bool false, .bool false, .bool false] : List Value).toArray 28)) [.bool false, .bool false, .bool false] 28; rw [World.size_alloc, World.size_alloc, World.size_alloc] at q; exact q
  have KX := hid (((((Kept.refl w).alloc (.cells ([.bool true, .int .u8 sl, .int .u16 sd, .int .u8 sy, .int .u8 ss, .bool sh, .int .u16 se] : List Value).toArray 25)).alloc (.cells ([.bool false, .int .u8 0, .int .u16 0, .int .u8 0, .int .u8 0, .bool false, .int .u16 0] : List Value).toArray 25)).alloc (.cells ([.bool false, .bool false, .bool false] : List Value).toArray 28)).alloc (.cells ([.bool false, .bool false, .bool false] : List Value).toArray 28))
  go_enter Try.func6, Try.ntmps6
  go_wp2_with fail
  refine (HO.out _).mono ?_
  rintro e ua ⟨rfl, ka⟩
  have B0_a := blk_kept ka X0
  have B1_a := blk_kept ka X1
  have B2_a := blk_kept ka X2
  have B3_a := blk_kept ka X3
  have K_a := hid (KX.out.trans ka)
  clear ka X0 X1 X2 X3 KX
  have c0_a := blk_cell B0_a
  have c3_a := blk_cell B3_a
  have z1_a := blk_lt B1_a
  have z2_a := blk_lt B2_a
  go_wp2_with (first
    | ((with_reducible refine at_st 25 ?_); refine wl_store rfl rfl rfl rfl B0_a (by kernel_rfl) rfl (Nat.le_of_ble_eq_true rfl) (fun vb pb => ?_); have B0_b : Blk vb w.heap.size 25 [.bool V1.on, .int .u8 V1.line, .int .u16 V1.dot, .int .u8 V1.lyc, .int .u8 V1.sel, .bool V1.high, .int .u16 V1.extra] := pb.blk; have B1_b := pb.other _ _ _ n10 B1_a; have B2_b := pb.other _ _ _ n20 B2_a; have B3_b := pb.other _ _ _ n30 B3_a; have K_b := hid (pb.kept _ K_a.out le0); clear pb K_a B0_a B1_a B2_a B3_a c0_a c3_a z1_a z2_a; have c0_b := blk_cell B0_b; have c3_b := blk_cell B3_b; have z1_b := blk_lt B1_b; have z2_b := blk_lt B2_b)
    | ((with_reducible refine at_st 4 ?_); refine wl_store rfl rfl rfl rfl B3_b (by kernel_rfl) rfl (Nat.le_of_ble_eq_true rfl) (fun ve pe => ?_); have B3_e : Blk ve (w.heap.size + 1 + 1 + 1) 28 [.bool false, .bool false, .bool false] := pe.blk; have B0_e := pe.other _ _ _ n03 B0_b; have B1_e := pe.other _ _ _ n13 B1_b; have B2_e := pe.other _ _ _ n23 B2_b; have K_e := hid (pe.kept _ K_b.out le3); clear pe K_b B0_b B1_b B2_b B3_b c0_b c3_b z1_b z2_b; have c0_e := blk_cell B0_e; have c3_e := blk_cell B3_e; have z1_e := blk_lt B1_e; have z2_e := blk_lt B2_e))
  refine (HA.out _).mono ?_
  rintro e ug ⟨rfl, kg⟩
  have B0_g := blk_kept kg B0_e
  have B1_g := blk_kept kg B1_e
  have B2_g := blk_kept kg B2_e
  have B3_g := blk_kept kg B3_e
  have K_g := hid (K_e.out.trans kg)
  clear kg B0_e B1_e B2_e B3_e K_e c0_e c3_e z1_e z2_e
  have c0_g := blk_cell B0_g
  have c3_g := blk_cell B3_g
  have z1_g := blk_lt B1_g
  have z2_g := blk_lt B2_g
  go_wp2_with (first
    | ((with_reducible refine at_st 25 ?_); refine wl_store rfl rfl rfl rfl B0_g (by kernel_rfl) rfl (Nat.le_of_ble_eq_true rfl) (fun vh ph => ?_); have B0_h : Blk vh w.heap.size 25 [.bool V2.on, .int .u8 V2.line, .int .u16 V2.dot, .int .u8 V2.lyc, .int .u8 V2.sel, .bool V2.high, .int .u16 V2.extra] := ph.blk; have B1_h := ph.other _ _ _ n10 B1_g; have B2_h := ph.other _ _ _ n20 B2_g; have B3_h := ph.other _ _ _ n30 B3_g; have K_h := hid (ph.kept _ K_g.out le0); clear ph K_g B0_g B1_g B2_g B3_g c0_g c3_g z1_g z2_g; have c0_h := blk_cell B0_h; have c3_h := blk_cell B3_h; have z1_h := blk_lt B1_h; have z2_h := blk_lt B2_h)
    | ((with_reducible refine at_st 4 ?_); refine wl_store rfl rfl rfl rfl B3_h (by kernel_rfl) rfl (Nat.le_of_ble_eq_true rfl) (fun vz pz => ?_); have B3_z : Blk vz (w.heap.size + 1 + 1 + 1) 28 [.bool false, .bool r, .bool false] := pz.blk; have B0_z := pz.other _ _ _ n03 B0_h; have B1_z := pz.other _ _ _ n13 B1_h; have B2_z := pz.other _ _ _ n23 B2_h; have K_z := hid (pz.kept _ K_h.out le3); clear pz K_h B0_h B1_h B2_h B3_h c0_h c3_h z1_h z2_h; have c0_z := blk_cell B0_z; have c3_z := blk_cell B3_z; have z1_z := blk_lt B1_z; have z2_z := blk_lt B2_z))
  have f1 := blk_froz B1_z
  have f2 := blk_froz B2_z
  have c1_z := blk_cell B1_z
  have c2_z := blk_cell B2_z
  have Q1 : Put vz (w.heap.size + 1) 25 [.bool V2.on, .int .u8 V2.line, .int .u16 V2.dot, .int .u8 V2.lyc, .int .u8 V2.sel, .bool V2.high, .int .u16 V2.extra] (vz.setCells (w.heap.size + 1) 0 [.bool V2.on, .int .u8 V2.line, .int .u16 V2.dot, .int .u8 V2.lyc, .int .u8 V2.sel, .bool V2.high, .int .u16 V2.extra]) := put_of B1_z 0 [.bool V2.on, .int .u8 V2.line, .int .u16 V2.dot, .int .u8 V2.lyc, .int .u8 V2.sel, .bool V2.high, .int .u16 V2.extra] (Nat.le_of_ble_eq_true rfl)
  have Q2 : Put vz (w.heap.size + 1 + 1) 28 [.bool false, .bool r, .bool false] (vz.setCells (w.heap.size + 1 + 1) 0 [.bool false, .bool r, .bool false]) := put_of B2_z 0 [.bool false, .bool r, .bool false] (Nat.le_of_ble_eq_true rfl)
  have Q12 : Put (vz.setCells (w.heap.size + 1) 0 [.bool V2.on, .int .u8 V2.line, .int .u16 V2.dot, .int .u8 V2.lyc, .int .u8 V2.sel, .bool V2.high, .int .u16 V2.extra]) (w.heap.size + 1 + 1) 28 [.bool false, .bool r, .bool false] ((vz.setCells (w.heap.size + 1) 0 [.bool V2.on, .int .u8 V2.line, .int .u16 V2.dot, .int .u8 V2.lyc, .int .u8 V2.sel, .bool V2.high, .int .u16 V2.extra]).setCells (w.heap.size + 1 + 1) 0 [.bool false, .bool r, .bool false]) := put_of (Q1.other _ _ _ n21 B2_z) 0 [.bool false, .bool r, .bool false] (Nat.le_of_ble_eq_true rfl)
  have Q21 : Put (vz.setCells (w.heap.size + 1 + 1) 0 [.bool false, .bool r, .bool false]) (w.heap.size + 1) 25 [.bool V2.on, .int .u8 V2.line, .int .u16 V2.dot, .int .u8 V2.lyc, .int .u8 V2.sel, .bool V2.high, .int .u16 V2.extra] ((vz.setCells (w.heap.size + 1 + 1) 0 [.bool false, .bool r, .bool false]).setCells (w.heap.size + 1) 0 [.bool V2.on, .int .u8 V2.line, .int .u16 V2.dot, .int .u8 V2.lyc, .int .u8 V2.sel, .bool V2.high, .int .u16 V2.extra]) := put_of (Q2.other _ _ _ n12 B1_z) 0 [.bool V2.on, .int .u8 V2.line, .int .u16 V2.dot, .int .u8 V2.lyc, .int .u8 V2.sel, .bool V2.high, .int .u16 V2.extra] (Nat.le_of_ble_eq_true rfl)
  have R12 := hid (And.intro (Q12.other _ _ _ n12 Q1.blk) (And.intro Q12.blk (Q12.kept _ (Q1.kept _ K_z.out le1) le2)))
  have R21 := hid (And.intro Q21.blk (And.intro (Q21.other _ _ _ n21 Q2.blk) (Q21.kept _ (Q2.kept _ K_z.out le2) le1)))
  clear Q1 Q2 Q12 Q21
  go_region
  all_goals
    go_wp2_with fail
    first
    | (rw [← cells3, ← cells7]
       exact bodyPost_ret (res_two Try.results6 rfl rfl (blk_drew R12.out.1) (blk_drew R12.out.2.1) Try.underlying25 rfl (by kernel_rfl) Try.underlying28 rfl (by kernel_rfl)) rfl ⟨rfl, R12.out.2.2.drew⟩)
    | (rw [← cells7, ← cells3]
       exact bodyPost_ret (res_two Try.results6 rfl rfl (blk_drew R21.out.1) (blk_drew R21.out.2.1) Try.underlying25 rfl (by kernel_rfl) Try.underlying28 rfl (by kernel_rfl)) rfl ⟨rfl, R21.out.2.2.drew⟩)
theorem pstep15 (l : Lc) (x : Int) (w : World) (I : LcIn l) (x0 : 0 ≤ x) (x1 : x ≤ 65535) : Calls Try.prog 6 #[lcV l, .int .u16 x] w fun e w' => e = .returned (.tuple #[lcV (stepL l x), evV (stepF l) (stepR l x) (stepD l)]) ∧ Kept w w' := by
  cases h : l.on
  · rw [show stepL l x = l by unfold stepL; rw [h]; rfl, show stepF l = false by unfold stepF; rw [h]; rfl, show stepR l x = false by unfold stepR; rw [h]; rfl, show stepD l = false by unfold stepD; rw [h]; rfl]
    exact pstep15_off l x w h
  have A := fun u => pset15 (exL (onL l) x) u (ex_in (on_in I) x x0)
  rw [show stepL l x = setL (exL (onL l) x) by unfold stepL; rw [if_pos h], show stepF l = frameL (onL l) by unfold stepF; rw [h]; rfl, show stepR l x = riseL (exL (onL l) x) by unfold stepR; rw [h]; rfl, show stepD l = drawL (onL l) by unfold stepD; rw [h]; rfl]
  generalize setL (exL (onL l) x) = V2 at *
  generalize riseL (exL (onL l) x) = r at *
  have HO := fun u => pon15 l u I
  generalize onL l = V1 at *
  by_cases q : V1.line < 144
  · have f0 : frameL V1 = false := by unfold frameL; rw [show (V1.line == 144) = false by simp; omega]; rfl
    by_cases r1 : V1.dot = 80
    · have d1 : drawL V1 = true := by unfold drawL; rw [decide_eq_true q, r1]; rfl
      unfold exL at A
      rw [if_pos d1] at A
      unfold mostL at A
      rw [f0, d1]
      by_cases hx : x ≤ 200
      · rw [if_pos hx] at A
        exact pstep15_d l V1 V2 x r w h q r1 hx HO A
      · rw [if_neg hx] at A
        exact pstep15_e l V1 V2 x r w h q r1 hx HO A
    · have d0 : drawL V1 = false := by unfold drawL; rw [show (V1.dot == 80) = false by simpa using r1, Bool.and_false]
      unfold exL at A
      rw [d0, if_neg (by decide)] at A
      rw [f0, d0]
      exact pstep15_n l V1 V2 x r w h q r1 HO A
  · have d0 : drawL V1 = false := by unfold drawL; rw [decide_eq_false q, Bool.false_and]
    unfold exL at A
    rw [d0, if_neg (by decide)] at A
    rw [d0]
    by_cases q2 : V1.line = 144
    · by_cases r1 : V1.dot = 0
      · rw [show frameL V1 = true by unfold frameL; rw [q2, r1]; rfl]
        exact pstep15_f l V1 V2 x r w h q2 r1 HO A
      · rw [show frameL V1 = false by unfold frameL; rw [show (V1.dot == 0) = false by simpa using r1, Bool.and_false]]
        exact pstep15_g l V1 V2 x r w h q2 r1 HO A
    · rw [show frameL V1 = false by unfold frameL; rw [show (V1.line == 144) = false by simpa using q2, Bool.false_and]]
      exact pstep15_k l V1 V2 x r w h (by omega) HO A
end Go.Proofs.Ytpgdkoiinigepab
