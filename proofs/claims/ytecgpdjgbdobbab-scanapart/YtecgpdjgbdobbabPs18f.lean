/- A line. -/
import Derived.Test.YtecgpdjgbdobbabPs18e
namespace Go.Proofs.Ytecgpdjgbdobbab
open Go.RowKit
set_option linter.unusedVariables false
set_option linter.unusedSimpArgs false

theorem zc18 : (Try.t32.zero.getD undef).cells.toList = colsL (fun _ => 0) := by kernel_rfl
theorem zc18_agg : ∃ cs, Try.t32.zero = some (.agg cs) := ⟨_, rfl⟩
theorem zero18 (w : World) : (zeroValue 32).run Try.prog w = .ok (.agg (colsL (fun _ => 0)).toArray) w := by
  obtain ⟨cs, hc⟩ := zc18_agg
  have z := zc18
  rw [hc] at z
  have z2 : cs = (colsL (fun _ => 0)).toArray := by rw [← z]; rfl
  unfold zeroValue
  simp only [Sem.run_bind, Try.typeInfo32, Result.andThen_ok, hc, z2]
  rfl
theorem row_line {w : World} {b : Nat} {t : TypeId} {v : Vd} {y win : Int} (h : Blk w b t (colsL (dotL v y win))) : Row w (some ⟨b, 0, none⟩) (lineP v y win) := by
  refine ⟨by rw [line_len]; simp [maxLen], line_in v y win, .inr ⟨_, rfl, blk_lt h, fun i hi => ?_⟩⟩
  rw [line_len] at hi
  rw [ownB_add, blk_cell h, cols_at _ hi]
  simp [lineP, List.getD_eq_getElem?_getD, hi]
set_option maxRecDepth 100000 in
set_option maxHeartbeats 4000000 in
theorem pline18 (v : Vd) (y win : Int) (w : World) (hv : VdIn w v) (y0 : 0 ≤ y) (y1 : y ≤ 255) (w0 : 0 ≤ win) (w1 : win ≤ 255) :
    Calls Try.prog 5 #[vdV v, .int .u8 y, .int .u8 win] w fun e w' => (∃ b, e = .returned (.tuple #[.slice (some ⟨b, 0, none⟩) 160 160, .int .u8 (nxP v y win)]) ∧ w.heap.size ≤ b ∧ Blk w' b 32 (colsL (dotL v y win))) ∧ Kept w w' := by
  have B0 := hid (fun u => bit_any v.ctl 0 u hv.c0 hv.c1)
  have WI := hid (fun u k => pwin18 v y u (vdIn_kept k hv) y0 y1)
  have GR := hid (fun u k => pgro18 v y u (vdIn_kept k hv))
  have WD := hid (fun u k => pwid18 v win u (vdIn_kept k hv))
  have SH := hid (fun u k => pshd18 v y u (vdIn_kept k hv) y0 y1)
  obtain ⟨h3, e3⟩ : ∃ q, bitOf v.ctl 3 = q := ⟨_, rfl⟩
  obtain ⟨h6, e6⟩ : ∃ q, bitOf v.ctl 6 = q := ⟨_, rfl⟩
  have LG := hid (fun u b bv bh by_ g0 kW hb nv nh ny B hV hH hY => layg18 v h3 y w u b bv bh by_ g0 hv kW hb y0 y1 nv nh ny B hV hH hY)
  have LW := hid (fun u b bv bh by_ g0 kW hb nv nh ny B hV hH hY => layw18 v h6 win w u b bv bh by_ g0 hv kW hb w0 w1 nv nh ny B hV hH hY)
  have OL : (objsP v y).length ≤ 1000 := objs_len18 v y
  have pb := pap_bd hv
  have LS := hid (fun u b bs bp bv a cap g0 kW hb g0b ns np nv na B hS hP hV h => lays18 v y (objsP v y) a cap (papP v) w u b bs bp bv g0 hv kW hb OL pb.1 pb.2 g0b ns np nv na B hS hP hV h)
  rw [e3] at GR
  rw [e6] at WD
  obtain ⟨b, hb⟩ : ∃ b, w.heap.size + 1 = b := ⟨_, rfl⟩
  have HB : Hid (w.heap.size ≤ b) := by show _ ≤ _; omega
  have HVB : Hid (w.heap.size < b) := by show _ < _; omega
  obtain ⟨Z, hZ⟩ : ∃ Z, (colsL (fun _ => 0)).toArray = Z := ⟨_, rfl⟩
  have hz0 : ∀ u, (zeroValue 32).run Try.prog u = .ok (.agg Z) u := fun u => by rw [← hZ]; exact zero18 u
  have ew : IntKind.u8.wrap (win + 1) = (win + 1) % 256 := by rw [IntKind.wrap_u8]
  obtain ⟨vn, hvn⟩ : ∃ n, v.vz.length = n := ⟨_, rfl⟩
  obtain ⟨on, hon⟩ : ∃ n, v.oz.length = n := ⟨_, rfl⟩
  have VV : vdV v = .agg #[.int .u8 v.ctl, .int .u8 v.scy, .int .u8 v.scx, .int .u8 v.wy, .int .u8 v.wx, .int .u8 v.bgp, .int .u8 v.o0, .int .u8 v.o1, .slice v.va vn v.vc, .slice v.oa on v.oc] := by unfold vdV; rw [hvn, hon]
  have VC : vdC v = [.int .u8 v.ctl, .int .u8 v.scy, .int .u8 v.scx, .int .u8 v.wy, .int .u8 v.wx, .int .u8 v.bgp, .int .u8 v.o0, .int .u8 v.o1, .slice v.va vn v.vc, .slice v.oa on v.oc] := by unfold vdC; rw [hvn, hon]
  rw [VV] at WI GR WD SH ⊢
  have B1 : Hid (Blk ((w.alloc (.cells (vdC v).toArray 24)).alloc (.cells Z 32)) b 32 (colsL (fun _ => 0))) := by
    rw [← hZ, ← hb]
    have q := blk_new (w.alloc (.cells (vdC v).toArray 24)) (colsL (fun _ => 0)) 32
    rw [World.size_alloc] at q
    exact q
  have V1 : Hid (Blk ((w.alloc (.cells (vdC v).toArray 24)).alloc (.cells Z 32)) w.heap.size 24 (vdC v)) := blk_past (blk_new w (vdC v) 24) _
  have K1 : Hid (Kept w ((w.alloc (.cells (vdC v).toArray 24)).alloc (.cells Z 32))) := ((Kept.refl w).alloc _).alloc _
  rw [VC] at B1 V1 K1
  have LG2 := LG
  have LW2 := LW
  have LS2 := LS
  rw [VC] at LG LW LS GR WD SH
  clear LG2 LW2 LS2 VV VC hvn hon hZ hv pb OL
  cases q0 : bitOf v.ctl 0
  · have qw : winP v y = false := by unfold winP; rw [q0]; rfl
    have GE : Hid (∀ x : Nat, x < 160 → (fun _ : Nat => (0 : Int)) x = groP v (x : Int) y win) := fun x hx => by unfold groP; rw [q0]; rfl
    have NXW : nxP v y win = win := by unfold nxP; rw [qw]; rfl
    have GB : Hid (∀ x : Nat, x < 160 → 0 ≤ (fun _ : Nat => (0 : Int)) x ∧ (fun _ : Nat => (0 : Int)) x ≤ 3) := fun x hx => by rw [GE.out x hx]; exact gro_bd v _ _ _
    have FIN : Hid (colsL (fun x : Nat => toneP v (objsP v y) (papP v) (x : Int) y ((fun _ : Nat => (0 : Int)) x)) = colsL (dotL v y win)) := cols_ext fun x hx => by rw [GE.out x hx]; exact tone_dot v _ _ _ _
    rw [q0] at B0
    rw [qw] at WI
    rw [NXW]
    clear q0 qw NXW
    go_enter Try.func5, Try.ntmps5
    go_wp2_with fail
    refine (B0.out _).mono ?_
    rintro e u0 ⟨rfl, rfl⟩
    obtain ⟨d0, d1, d2, d3, d4, d5, d6, d7, d8, d9⟩ := ten18 V1.out
    go_wp2_with fail
    refine (WI.out _ K1.out).mono ?_
    rintro e q1 ⟨rfl, k1⟩
    have B2 := hid (blk_kept k1 B1.out)
    have K2 := hid (K1.out.trans k1)
    have V2 := hid (blk_kept k1 V1.out)
    clear k1 d0 d1 d2 d3 d4 d5 d6 d7 d8 d9 B1 K1 V1
    obtain ⟨d0, d1, d2, d3, d4, d5, d6, d7, d8, d9⟩ := ten18 V2.out
    go_wp2_with fail
    refine (SH.out _ K2.out).mono ?_
    rintro e t1 ⟨⟨bs, bp, bq, a, cap, rfl, n1, n2, n3, nw, c1, c2, c3, c4⟩, k1⟩
    have zb := blk_lt B2.out
    have L1 := hid (LS.out t1 b bs bp bq a cap (fun _ => 0) (K2.out.trans k1) HB.out GB.out (by omega) (by omega) (by omega) (fun x hx e => by have q := nw x hx; omega) (blk_kept k1 B2.out) c1 c2 c3 c4)
    have K9 := hid (K2.out.trans k1)
    clear k1 c1 c2 c3 c4 n1 n2 n3 nw d0 d1 d2 d3 d4 d5 d6 d7 d8 d9
    go_wp2_with fail
    refine L1.out.mono ?_
    rintro e t2 ⟨rfl, B9, k2⟩
    have KE := hid (k2.kept K9.out (fun q e => by rw [e]; exact HB.out))
    have BE := hid B9
    have zt := blk_lt B9
    clear k2 B9 K9 L1
    go_wp2_with fail
    refine bodyPost_ret (results_tmp2 rfl _ _ _) rfl ?_
    refine ⟨⟨b, ?_, HB.out, ?_⟩, KE.out⟩
    · rfl
    · have q := BE.out
      rw [FIN.out] at q
      exact q
  · cases qw : winP v y
    · have GE : Hid (∀ x : Nat, x < 160 → (fun x : Nat => celP v h3 (((x : Int) + v.scx) % 256) ((y + v.scy) % 256)) x = groP v (x : Int) y win) := fun x hx => by unfold groP; rw [q0, qw, e3]; rfl
      have NXW : nxP v y win = win := by unfold nxP; rw [qw]; rfl
      have GB : Hid (∀ x : Nat, x < 160 → 0 ≤ (fun x : Nat => celP v h3 (((x : Int) + v.scx) % 256) ((y + v.scy) % 256)) x ∧ (fun x : Nat => celP v h3 (((x : Int) + v.scx) % 256) ((y + v.scy) % 256)) x ≤ 3) := fun x hx => by rw [GE.out x hx]; exact gro_bd v _ _ _
      have FIN : Hid (colsL (fun x : Nat => toneP v (objsP v y) (papP v) (x : Int) y ((fun x : Nat => celP v h3 (((x : Int) + v.scx) % 256) ((y + v.scy) % 256)) x)) = colsL (dotL v y win)) := cols_ext fun x hx => by rw [GE.out x hx]; exact tone_dot v _ _ _ _
      rw [q0] at B0
      rw [qw] at WI
      rw [NXW]
      clear q0 qw NXW
      go_enter Try.func5, Try.ntmps5
      go_wp2_with fail
      refine (B0.out _).mono ?_
      rintro e u0 ⟨rfl, rfl⟩
      obtain ⟨d0, d1, d2, d3, d4, d5, d6, d7, d8, d9⟩ := ten18 V1.out
      go_wp2_with fail
      refine (GR.out _ K1.out).mono ?_
      rintro e s1 ⟨⟨bv1, bh1, by1, rfl, n1, n2, n3, c1, c2, c3⟩, k1⟩
      have zb1 := blk_lt B1.out
      have zv1 := blk_lt V1.out
      have L1 := hid (LG.out s1 b bv1 bh1 by1 _ (K1.out.trans k1) HB.out (by omega) (by omega) (by omega) (blk_kept k1 B1.out) c1 c2 c3)
      have J1 := hid (K1.out.trans k1)
      have U1 := hid (blk_kept k1 V1.out)
      clear k1 c1 c2 c3 n1 n2 n3 d0 d1 d2 d3 d4 d5 d6 d7 d8 d9 zb1 zv1
      go_wp2_with fail
      refine L1.out.mono ?_
      rintro e r1 ⟨rfl, b2, k2⟩
      have B2 := hid b2
      have K2 := hid (k2.kept J1.out (fun q e => by rw [e]; exact HB.out))
      have V2 := hid (blkX k2 U1.out (by have := HB.out; have := HVB.out; omega))
      clear b2 k2 L1 J1 U1 K1 B1 V1
      obtain ⟨d0, d1, d2, d3, d4, d5, d6, d7, d8, d9⟩ := ten18 V2.out
      go_wp2_with fail
      refine (WI.out _ K2.out).mono ?_
      rintro e q2 ⟨rfl, k1⟩
      have B3 := hid (blk_kept k1 B2.out)
      have K3 := hid (K2.out.trans k1)
      have V3 := hid (blk_kept k1 V2.out)
      clear k1 d0 d1 d2 d3 d4 d5 d6 d7 d8 d9 B2 K2 V2
      obtain ⟨d0, d1, d2, d3, d4, d5, d6, d7, d8, d9⟩ := ten18 V3.out
      go_wp2_with fail
      refine (SH.out _ K3.out).mono ?_
      rintro e t1 ⟨⟨bs, bp, bq, a, cap, rfl, n1, n2, n3, nw, c1, c2, c3, c4⟩, k1⟩
      have zb := blk_lt B3.out
      have L1 := hid (LS.out t1 b bs bp bq a cap ((fun x : Nat => celP v h3 (((x : Int) + v.scx) % 256) ((y + v.scy) % 256))) (K3.out.trans k1) HB.out GB.out (by omega) (by omega) (by omega) (fun x hx e => by have q := nw x hx; omega) (blk_kept k1 B3.out) c1 c2 c3 c4)
      have K9 := hid (K3.out.trans k1)
      clear k1 c1 c2 c3 c4 n1 n2 n3 nw d0 d1 d2 d3 d4 d5 d6 d7 d8 d9
      go_wp2_with fail
      refine L1.out.mono ?_
      rintro e t2 ⟨rfl, B9, k2⟩
      have KE := hid (k2.kept K9.out (fun q e => by rw [e]; exact HB.out))
      have BE := hid B9
      have zt := blk_lt B9
      clear k2 B9 K9 L1
      go_wp2_with fail
      refine bodyPost_ret (results_tmp2 rfl _ _ _) rfl ?_
      refine ⟨⟨b, ?_, HB.out, ?_⟩, KE.out⟩
      · rfl
      · have q := BE.out
        rw [FIN.out] at q
        exact q
    · have GE : Hid (∀ x : Nat, x < 160 → (fun x : Nat => if v.wx ≤ (x : Int) + 7 then celP v h6 ((x : Int) + 7 - v.wx) win else (fun x : Nat => celP v h3 (((x : Int) + v.scx) % 256) ((y + v.scy) % 256)) x) x = groP v (x : Int) y win) := fun x hx => by
        unfold groP
        rw [q0, qw, e3, e6]
        simp only [if_true, Bool.true_and]
        by_cases c : v.wx ≤ (x : Int) + 7
        · rw [if_pos c, if_pos (decide_eq_true c)]
        · rw [if_neg c, if_neg (by simpa using c)]
      have NXW : nxP v y win = (win + 1) % 256 := by unfold nxP; rw [qw]; rfl
      have GB : Hid (∀ x : Nat, x < 160 → 0 ≤ (fun x : Nat => if v.wx ≤ (x : Int) + 7 then celP v h6 ((x : Int) + 7 - v.wx) win else (fun x : Nat => celP v h3 (((x : Int) + v.scx) % 256) ((y + v.scy) % 256)) x) x ∧ (fun x : Nat => if v.wx ≤ (x : Int) + 7 then celP v h6 ((x : Int) + 7 - v.wx) win else (fun x : Nat => celP v h3 (((x : Int) + v.scx) % 256) ((y + v.scy) % 256)) x) x ≤ 3) := fun x hx => by rw [GE.out x hx]; exact gro_bd v _ _ _
      have FIN : Hid (colsL (fun x : Nat => toneP v (objsP v y) (papP v) (x : Int) y ((fun x : Nat => if v.wx ≤ (x : Int) + 7 then celP v h6 ((x : Int) + 7 - v.wx) win else (fun x : Nat => celP v h3 (((x : Int) + v.scx) % 256) ((y + v.scy) % 256)) x) x)) = colsL (dotL v y win)) := cols_ext fun x hx => by rw [GE.out x hx]; exact tone_dot v _ _ _ _
      rw [q0] at B0
      rw [qw] at WI
      rw [NXW]
      clear q0 qw NXW
      go_enter Try.func5, Try.ntmps5
      go_wp2_with fail
      refine (B0.out _).mono ?_
      rintro e u0 ⟨rfl, rfl⟩
      obtain ⟨d0, d1, d2, d3, d4, d5, d6, d7, d8, d9⟩ := ten18 V1.out
      go_wp2_with fail
      refine (GR.out _ K1.out).mono ?_
      rintro e s1 ⟨⟨bv1, bh1, by1, rfl, n1, n2, n3, c1, c2, c3⟩, k1⟩
      have zb1 := blk_lt B1.out
      have zv1 := blk_lt V1.out
      have L1 := hid (LG.out s1 b bv1 bh1 by1 _ (K1.out.trans k1) HB.out (by omega) (by omega) (by omega) (blk_kept k1 B1.out) c1 c2 c3)
      have J1 := hid (K1.out.trans k1)
      have U1 := hid (blk_kept k1 V1.out)
      clear k1 c1 c2 c3 n1 n2 n3 d0 d1 d2 d3 d4 d5 d6 d7 d8 d9 zb1 zv1
      go_wp2_with fail
      refine L1.out.mono ?_
      rintro e r1 ⟨rfl, b2, k2⟩
      have B2 := hid b2
      have K2 := hid (k2.kept J1.out (fun q e => by rw [e]; exact HB.out))
      have V2 := hid (blkX k2 U1.out (by have := HB.out; have := HVB.out; omega))
      clear b2 k2 L1 J1 U1 K1 B1 V1
      obtain ⟨d0, d1, d2, d3, d4, d5, d6, d7, d8, d9⟩ := ten18 V2.out
      go_wp2_with fail
      refine (WI.out _ K2.out).mono ?_
      rintro e q2 ⟨rfl, k1⟩
      have B3 := hid (blk_kept k1 B2.out)
      have K3 := hid (K2.out.trans k1)
      have V3 := hid (blk_kept k1 V2.out)
      clear k1 d0 d1 d2 d3 d4 d5 d6 d7 d8 d9 B2 K2 V2
      obtain ⟨d0, d1, d2, d3, d4, d5, d6, d7, d8, d9⟩ := ten18 V3.out
      go_wp2_with fail
      refine (WD.out _ K3.out).mono ?_
      rintro e s3 ⟨⟨bv3, bh3, by3, rfl, n1, n2, n3, c1, c2, c3⟩, k1⟩
      have zb3 := blk_lt B3.out
      have zv3 := blk_lt V3.out
      have L3 := hid (LW.out s3 b bv3 bh3 by3 _ (K3.out.trans k1) HB.out (by omega) (by omega) (by omega) (blk_kept k1 B3.out) c1 c2 c3)
      have J3 := hid (K3.out.trans k1)
      have U3 := hid (blk_kept k1 V3.out)
      clear k1 c1 c2 c3 n1 n2 n3 d0 d1 d2 d3 d4 d5 d6 d7 d8 d9 zb3 zv3
      go_wp2_with fail
      refine L3.out.mono ?_
      rintro e r3 ⟨rfl, b2, k2⟩
      have B4 := hid b2
      have K4 := hid (k2.kept J3.out (fun q e => by rw [e]; exact HB.out))
      have V4 := hid (blkX k2 U3.out (by have := HB.out; have := HVB.out; omega))
      clear b2 k2 L3 J3 U3 K3 B3 V3
      obtain ⟨d0, d1, d2, d3, d4, d5, d6, d7, d8, d9⟩ := ten18 V4.out
      go_wp2_with fail
      refine (SH.out _ K4.out).mono ?_
      rintro e t1 ⟨⟨bs, bp, bq, a, cap, rfl, n1, n2, n3, nw, c1, c2, c3, c4⟩, k1⟩
      have zb := blk_lt B4.out
      have L1 := hid (LS.out t1 b bs bp bq a cap ((fun x : Nat => if v.wx ≤ (x : Int) + 7 then celP v h6 ((x : Int) + 7 - v.wx) win else (fun x : Nat => celP v h3 (((x : Int) + v.scx) % 256) ((y + v.scy) % 256)) x)) (K4.out.trans k1) HB.out GB.out (by omega) (by omega) (by omega) (fun x hx e => by have q := nw x hx; omega) (blk_kept k1 B4.out) c1 c2 c3 c4)
      have K9 := hid (K4.out.trans k1)
      clear k1 c1 c2 c3 c4 n1 n2 n3 nw d0 d1 d2 d3 d4 d5 d6 d7 d8 d9
      go_wp2_with fail
      refine L1.out.mono ?_
      rintro e t2 ⟨rfl, B9, k2⟩
      have KE := hid (k2.kept K9.out (fun q e => by rw [e]; exact HB.out))
      have BE := hid B9
      have zt := blk_lt B9
      clear k2 B9 K9 L1
      go_wp2_with fail
      refine bodyPost_ret (results_tmp2 rfl _ _ _) rfl ?_
      refine ⟨⟨b, ?_, HB.out, ?_⟩, KE.out⟩
      · rfl
      · have q := BE.out
        rw [FIN.out] at q
        exact q
end Go.Proofs.Ytecgpdjgbdobbab
