/- Layer 18's law of scrolled lines. -/
import Derived.Test.YtecgpdjgbdobbaaLs18
import Derived.BigQuiet
namespace Go.Proofs.Ytecgpdjgbdobbaa
open Go.RowKit
set_option linter.unusedVariables false
set_option linter.unusedSimpArgs false

def scC (c : Int) : Int := bits .or .u8 (bits .andNot .u8 c 34) 1
theorem sc_bits : ∀ c : Fin 256, 0 ≤ scC (c.val : Int) ∧ scC (c.val : Int) ≤ 255 ∧ bitOf (scC (c.val : Int)) 0 = true ∧ bitOf (scC (c.val : Int)) 1 = false ∧ bitOf (scC (c.val : Int)) 5 = false := by decide +kernel
theorem dot_gro {v : Vd} (h0 : bitOf v.ctl 0 = true) (h1 : bitOf v.ctl 1 = false) (h5 : bitOf v.ctl 5 = false) (y win : Int) (x : Nat) :
    dotL v y win x = shadeP v.bgp (celP v (bitOf v.ctl 3) (((x : Int) + v.scx) % 256) ((y + v.scy) % 256)) := by
  unfold dotL objsP
  rw [h1, if_neg (by simp)]
  unfold dotP groP winP
  rw [h0, h5]
  rfl
theorem scroll_x {v : Vd} (h0 : bitOf v.ctl 0 = true) (h1 : bitOf v.ctl 1 = false) (h5 : bitOf v.ctl 5 = false) (y win : Int) (x n : Nat) :
    dotL { v with scx := (v.scx + (n : Int)) % 256 } y win x = dotL v y win (x + n) := by
  rw [dot_gro h0 h1 h5, dot_gro (v := { v with scx := (v.scx + (n : Int)) % 256 }) h0 h1 h5]
  have e : ((x : Int) + (v.scx + (n : Int)) % 256) % 256 = (((x + n : Nat) : Int) + v.scx) % 256 := by omega
  show shadeP v.bgp (celP v (bitOf v.ctl 3) (((x : Int) + (v.scx + (n : Int)) % 256) % 256) ((y + v.scy) % 256)) = _
  rw [e]
theorem scroll_y {v : Vd} (h0 : bitOf v.ctl 0 = true) (h1 : bitOf v.ctl 1 = false) (h5 : bitOf v.ctl 5 = false) (y win dn : Int) :
    lineP { v with scy := (v.scy + dn) % 256 } y win = lineP v ((y + dn) % 256) win := by
  unfold lineP
  refine List.map_congr_left fun x _ => ?_
  rw [dot_gro h0 h1 h5, dot_gro (v := { v with scy := (v.scy + dn) % 256 }) h0 h1 h5]
  have e : (y + (v.scy + dn) % 256) % 256 = ((y + dn) % 256 + v.scy) % 256 := by omega
  show shadeP v.bgp (celP v (bitOf v.ctl 3) (((x : Int) + v.scx) % 256) ((y + (v.scy + dn) % 256) % 256)) = _
  rw [e]
set_option maxRecDepth 100000 in
set_option maxHeartbeats 4000000 in
theorem scrolls18 (v : Vd) (y by_ dn : Int) (w : World) (hv : VdIn w v) (y0 : 0 ≤ y) (y1 : y ≤ 255) (n0 : 0 ≤ by_) (n1 : by_ ≤ 255) (m0 : 0 ≤ dn) (m1 : dn ≤ 255) : Calls Try.prog 8 #[vdV v, .int .u8 y, .int .u8 by_, .int .u8 dn] w fun e w' => e = .returned (.bool true) ∧ Kept w w' := by
  have S := hid (fun u => kshown18 u)
  obtain ⟨n, rfl⟩ := Int.eq_ofNat_of_zero_le n0
  obtain ⟨b0, b1, c0, c1, c5⟩ := fin8 (p := fun c => 0 ≤ scC c ∧ scC c ≤ 255 ∧ bitOf (scC c) 0 = true ∧ bitOf (scC c) 1 = false ∧ bitOf (scC c) 5 = false) sc_bits v.ctl hv.c0 hv.c1
  obtain ⟨v1, hv1⟩ : ∃ q : Vd, { v with ctl := scC v.ctl } = q := ⟨_, rfl⟩
  have i1 : VdIn w v1 := by rw [← hv1]; exact { hv with c0 := b0, c1 := b1 }
  have i2 : VdIn w { v1 with scx := (v1.scx + (n : Int)) % 256 } := { i1 with x0 := by show 0 ≤ (v1.scx + (n : Int)) % 256; omega, x1 := by show (v1.scx + (n : Int)) % 256 ≤ 255; omega }
  have i3 : VdIn w { v1 with scy := (v1.scy + dn) % 256 } := { i1 with y0 := by show 0 ≤ (v1.scy + dn) % 256; omega, y1 := by show (v1.scy + dn) % 256 ≤ 255; omega }
  have A := hid (fun u k => pline18 v1 y 0 u (vdIn_kept k i1) y0 y1 (by decide) (by decide))
  have B := hid (fun u k => pline18 { v1 with scx := (v1.scx + (n : Int)) % 256 } y 0 u (vdIn_kept k i2) y0 y1 (by decide) (by decide))
  have C := hid (fun u k => pline18 { v1 with scy := (v1.scy + dn) % 256 } y 0 u (vdIn_kept k i3) y0 y1 (by decide) (by decide))
  have D := hid (fun u k => pline18 v1 ((y + dn) % 256) 0 u (vdIn_kept k i1) (by omega) (by omega) (by decide) (by decide))
  have H0 : bitOf v1.ctl 0 = true := by rw [← hv1]; exact c0
  have H1 : bitOf v1.ctl 1 = false := by rw [← hv1]; exact c1
  have H5 : bitOf v1.ctl 5 = false := by rw [← hv1]; exact c5
  have SX := hid (fun x => scroll_x H0 H1 H5 y 0 x n)
  have SY := hid (scroll_y H0 H1 H5 y 0 dn)
  have ex : IntKind.u8.wrap (v.scx + (n : Int)) = (v.scx + (n : Int)) % 256 := by rw [IntKind.wrap_u8]
  have ey : IntKind.u8.wrap (v.scy + dn) = (v.scy + dn) % 256 := by rw [IntKind.wrap_u8]
  have ed : IntKind.u8.wrap (y + dn) = (y + dn) % 256 := by rw [IntKind.wrap_u8]
  obtain ⟨vn, hvn⟩ : ∃ n, v.vz.length = n := ⟨_, rfl⟩
  obtain ⟨on, hon⟩ : ∃ n, v.oz.length = n := ⟨_, rfl⟩
  have VV : vdV v = .agg #[.int .u8 v.ctl, .int .u8 v.scy, .int .u8 v.scx, .int .u8 v.wy, .int .u8 v.wx, .int .u8 v.bgp, .int .u8 v.o0, .int .u8 v.o1, .slice v.va vn v.vc, .slice v.oa on v.oc] := by unfold vdV; rw [hvn, hon]
  have V1 : vdV v1 = .agg #[.int .u8 (bits .or .u8 (bits .andNot .u8 v.ctl 34) 1), .int .u8 v.scy, .int .u8 v.scx, .int .u8 v.wy, .int .u8 v.wx, .int .u8 v.bgp, .int .u8 v.o0, .int .u8 v.o1, .slice v.va vn v.vc, .slice v.oa on v.oc] := by rw [← hv1]; unfold vdV; simp only [hvn, hon]; rfl
  have V2 : vdV { v1 with scx := (v1.scx + (n : Int)) % 256 } = .agg #[.int .u8 (bits .or .u8 (bits .andNot .u8 v.ctl 34) 1), .int .u8 v.scy, .int .u8 ((v.scx + (n : Int)) % 256), .int .u8 v.wy, .int .u8 v.wx, .int .u8 v.bgp, .int .u8 v.o0, .int .u8 v.o1, .slice v.va vn v.vc, .slice v.oa on v.oc] := by rw [← hv1]; unfold vdV; simp only [hvn, hon]; rfl
  have V3 : vdV { v1 with scy := (v1.scy + dn) % 256 } = .agg #[.int .u8 (bits .or .u8 (bits .andNot .u8 v.ctl 34) 1), .int .u8 ((v.scy + dn) % 256), .int .u8 v.scx, .int .u8 v.wy, .int .u8 v.wx, .int .u8 v.bgp, .int .u8 v.o0, .int .u8 v.o1, .slice v.va vn v.vc, .slice v.oa on v.oc] := by rw [← hv1]; unfold vdV; simp only [hvn, hon]; rfl
  rw [V1] at A D
  rw [V2] at B
  rw [V3] at C
  rw [VV]
  clear VV V1 V2 V3 hvn hon i1 i2 i3 hv H0 H1 H5 hv1 c0 c1 c5 b0 b1
  have K1 : Hid (Kept w (w.alloc (.cells #[.int .u8 v.ctl, .int .u8 v.scy, .int .u8 v.scx, .int .u8 v.wy, .int .u8 v.wx, .int .u8 v.bgp, .int .u8 v.o0, .int .u8 v.o1, .slice v.va vn v.vc, .slice v.oa on v.oc] 24))) := (Kept.refl w).alloc _
  have B1 : Hid (Blk (w.alloc (.cells #[.int .u8 v.ctl, .int .u8 v.scy, .int .u8 v.scx, .int .u8 v.wy, .int .u8 v.wx, .int .u8 v.bgp, .int .u8 v.o0, .int .u8 v.o1, .slice v.va vn v.vc, .slice v.oa on v.oc] 24)) w.heap.size 24 [.int .u8 v.ctl, .int .u8 v.scy, .int .u8 v.scx, .int .u8 v.wy, .int .u8 v.wx, .int .u8 v.bgp, .int .u8 v.o0, .int .u8 v.o1, .slice v.va vn v.vc, .slice v.oa on v.oc]) := blk_new w _ _
  go_enter Try.func8, Try.ntmps8
  obtain ⟨d0, d1, d2, d3, d4, d5, d6, d7, d8, d9⟩ := ten18 B1.out
  go_wp2_with fail
  refine (S.out _).mono ?_
  rintro e u1 ⟨rfl, k1⟩
  have K2 := hid (K1.out.trans k1)
  have B2 := hid (blk_kept k1 B1.out)
  clear k1 K1 B1 d0 d1 d2 d3 d4 d5 d6 d7 d8 d9
  obtain ⟨d0, d1, d2, d3, d4, d5, d6, d7, d8, d9⟩ := ten18 B2.out
  have BV := B2.out
  clear B2
  go_wp2_with ((with_reducible refine at_st 5 ?_); refine wl_store rfl rfl rfl rfl BV (by kernel_rfl) rfl (Nat.le_of_ble_eq_true rfl) (fun u2 p2 => ?_); have B3 := hid (show Blk u2 w.heap.size 24 [.int .u8 (bits .or .u8 (bits .andNot .u8 v.ctl 34) 1), .int .u8 v.scy, .int .u8 v.scx, .int .u8 v.wy, .int .u8 v.wx, .int .u8 v.bgp, .int .u8 v.o0, .int .u8 v.o1, .slice v.va vn v.vc, .slice v.oa on v.oc] from p2.blk); have K3 := hid (p2.kept _ K2.out (Nat.le_refl _)); clear p2 BV; refine Hid.out ?_)
  refine hid ?_
  clear d0 d1 d2 d3 d4 d5 d6 d7 d8 d9 K2
  obtain ⟨d0, d1, d2, d3, d4, d5, d6, d7, d8, d9⟩ := ten18 B3.out
  go_wp2_with fail
  refine (A.out _ K3.out).mono ?_
  rintro e u3 ⟨⟨ba, rfl, za, xa⟩, k1⟩
  have XA3 := hid xa
  have K4 := hid (K3.out.trans k1)
  have B4 := hid (blk_kept k1 B3.out)
  clear xa za k1 K3 B3 d0 d1 d2 d3 d4 d5 d6 d7 d8 d9
  have A4 := hid ((Kept.refl u3).alloc (.cells #[.int .u8 (bits .or .u8 (bits .andNot .u8 v.ctl 34) 1), .int .u8 v.scy, .int .u8 v.scx, .int .u8 v.wy, .int .u8 v.wx, .int .u8 v.bgp, .int .u8 v.o0, .int .u8 v.o1, .slice v.va vn v.vc, .slice v.oa on v.oc] 24))
  have N4 : Hid (Blk (u3.alloc (.cells #[.int .u8 (bits .or .u8 (bits .andNot .u8 v.ctl 34) 1), .int .u8 v.scy, .int .u8 v.scx, .int .u8 v.wy, .int .u8 v.wx, .int .u8 v.bgp, .int .u8 v.o0, .int .u8 v.o1, .slice v.va vn v.vc, .slice v.oa on v.oc] 24)) u3.heap.size 24 [.int .u8 (bits .or .u8 (bits .andNot .u8 v.ctl 34) 1), .int .u8 v.scy, .int .u8 v.scx, .int .u8 v.wy, .int .u8 v.wx, .int .u8 v.bgp, .int .u8 v.o0, .int .u8 v.o1, .slice v.va vn v.vc, .slice v.oa on v.oc]) := blk_new u3 _ _
  have XA4 := hid (blk_kept A4.out XA3.out)
  have zb4 := blk_lt B4.out
  have za4 := blk_lt XA3.out
  obtain ⟨d0, d1, d2, d3, d4, d5, d6, d7, d8, d9⟩ := ten18 B4.out
  obtain ⟨f0, f1, f2, f3, f4, f5, f6, f7, f8, f9⟩ := ten18 (blk_kept A4.out B4.out)
  have NV := N4.out
  clear N4
  go_wp2_with ((with_reducible refine at_st 5 ?_); refine wl_store rfl rfl rfl rfl NV (by kernel_rfl) rfl (Nat.le_of_ble_eq_true rfl) (fun u4 p4 => ?_); have X5 := hid (show Blk u4 u3.heap.size 24 [.int .u8 (bits .or .u8 (bits .andNot .u8 v.ctl 34) 1), .int .u8 v.scy, .int .u8 ((v.scx + (n : Int)) % 256), .int .u8 v.wy, .int .u8 v.wx, .int .u8 v.bgp, .int .u8 v.o0, .int .u8 v.o1, .slice v.va vn v.vc, .slice v.oa on v.oc] from p4.blk); have K5 := hid (p4.kept _ (K4.out.trans A4.out) (by omega)); have B5 := hid (p4.other _ _ _ (by omega) (blk_kept A4.out B4.out)); have XA5 := hid (p4.other _ _ _ (by omega) XA4.out); clear p4 NV; refine Hid.out ?_)
  refine hid ?_
  clear d0 d1 d2 d3 d4 d5 d6 d7 d8 d9 f0 f1 f2 f3 f4 f5 f6 f7 f8 f9 K4 B4 A4 XA3 XA4 zb4 za4
  obtain ⟨f0, f1, f2, f3, f4, f5, f6, f7, f8, f9⟩ := ten18 X5.out
  go_wp2_with fail
  refine (B.out _ K5.out).mono ?_
  rintro e u5 ⟨⟨bb, rfl, zz, xb⟩, k1⟩
  have XB6 := hid xb
  have K6 := hid (K5.out.trans k1)
  have B6 := hid (blk_kept k1 B5.out)
  have XA6 := hid (blk_kept k1 XA5.out)
  clear xb zz k1 K5 B5 XA5 X5 f0 f1 f2 f3 f4 f5 f6 f7 f8 f9
  have A6 := hid ((Kept.refl u5).alloc (.cells #[.int .u8 (bits .or .u8 (bits .andNot .u8 v.ctl 34) 1), .int .u8 v.scy, .int .u8 v.scx, .int .u8 v.wy, .int .u8 v.wx, .int .u8 v.bgp, .int .u8 v.o0, .int .u8 v.o1, .slice v.va vn v.vc, .slice v.oa on v.oc] 24))
  have N6 : Hid (Blk (u5.alloc (.cells #[.int .u8 (bits .or .u8 (bits .andNot .u8 v.ctl 34) 1), .int .u8 v.scy, .int .u8 v.scx, .int .u8 v.wy, .int .u8 v.wx, .int .u8 v.bgp, .int .u8 v.o0, .int .u8 v.o1, .slice v.va vn v.vc, .slice v.oa on v.oc] 24)) u5.heap.size 24 [.int .u8 (bits .or .u8 (bits .andNot .u8 v.ctl 34) 1), .int .u8 v.scy, .int .u8 v.scx, .int .u8 v.wy, .int .u8 v.wx, .int .u8 v.bgp, .int .u8 v.o0, .int .u8 v.o1, .slice v.va vn v.vc, .slice v.oa on v.oc]) := blk_new u5 _ _
  have zb6 := blk_lt B6.out
  have za6 := blk_lt XA6.out
  have zc6 := blk_lt XB6.out
  have XA7 := hid (blk_kept A6.out XA6.out)
  have XB7 := hid (blk_kept A6.out XB6.out)
  obtain ⟨d0, d1, d2, d3, d4, d5, d6, d7, d8, d9⟩ := ten18 B6.out
  obtain ⟨f0, f1, f2, f3, f4, f5, f6, f7, f8, f9⟩ := ten18 (blk_kept A6.out B6.out)
  have NV := N6.out
  clear N6
  go_wp2_with ((with_reducible refine at_st 5 ?_); refine wl_store rfl rfl rfl rfl NV (by kernel_rfl) rfl (Nat.le_of_ble_eq_true rfl) (fun u6 p6 => ?_); have X8 := hid (show Blk u6 u5.heap.size 24 [.int .u8 (bits .or .u8 (bits .andNot .u8 v.ctl 34) 1), .int .u8 ((v.scy + dn) % 256), .int .u8 v.scx, .int .u8 v.wy, .int .u8 v.wx, .int .u8 v.bgp, .int .u8 v.o0, .int .u8 v.o1, .slice v.va vn v.vc, .slice v.oa on v.oc] from p6.blk); have K8 := hid (p6.kept _ (K6.out.trans A6.out) (by omega)); have B8 := hid (p6.other _ _ _ (by omega) (blk_kept A6.out B6.out)); have XA8 := hid (p6.other _ _ _ (by omega) XA7.out); have XB8 := hid (p6.other _ _ _ (by omega) XB7.out); clear p6 NV; refine Hid.out ?_)
  refine hid ?_
  clear d0 d1 d2 d3 d4 d5 d6 d7 d8 d9 f0 f1 f2 f3 f4 f5 f6 f7 f8 f9 K6 B6 A6 XA6 XB6 XA7 XB7 zb6 za6 zc6
  obtain ⟨f0, f1, f2, f3, f4, f5, f6, f7, f8, f9⟩ := ten18 X8.out
  go_wp2_with fail
  refine (C.out _ K8.out).mono ?_
  rintro e u7 ⟨⟨bc, rfl, zz, xc⟩, k1⟩
  have XC9 := hid xc
  have K9 := hid (K8.out.trans k1)
  have B9 := hid (blk_kept k1 B8.out)
  have XA9 := hid (blk_kept k1 XA8.out)
  have XB9 := hid (blk_kept k1 XB8.out)
  clear xc zz k1 K8 B8 XA8 XB8 X8 f0 f1 f2 f3 f4 f5 f6 f7 f8 f9
  obtain ⟨d0, d1, d2, d3, d4, d5, d6, d7, d8, d9⟩ := ten18 B9.out
  go_wp2_with fail
  refine (D.out _ K9.out).mono ?_
  rintro e u8 ⟨⟨bd, rfl, zz, xd⟩, k1⟩
  have XD := hid xd
  have KD := hid (K9.out.trans k1)
  have XA := hid (blk_kept k1 XA9.out)
  have XB := hid (blk_kept k1 XB9.out)
  have XC := hid (blk_kept k1 XC9.out)
  clear xd zz k1 K9 B9 XA9 XB9 XC9 d0 d1 d2 d3 d4 d5 d6 d7 d8 d9
  go_wp2_with fail
  go_loopw [20] (fun s20 wr => ∃ j : Nat, j ≤ 160 ∧ s20 = .int .i64 (j : Int) ∧ Kept u8 wr) (fun s20 _ => 160 - (intOf s20).toNat)
  case atStart => exact ⟨0, Nat.zero_le _, rfl, Kept.refl _⟩
  case round =>
    obtain ⟨j, hj, rfl, hk⟩ := hrel
    have KK := hid hk
    have zz : IntKind.i64.wrap (n : Int) = (n : Int) := by rw [IntKind.wrap_i64]; omega
    have e2 : IntKind.i64.wrap ((j : Int) + (n : Int)) = (j : Int) + (n : Int) := by rw [IntKind.wrap_i64]; omega
    by_cases hlt : j + n < 160
    · have g1 : decide ((j : Int) + (n : Int) < 160) = true := decide_eq_true (by omega)
      have g2 : (j : Int) + (n : Int) < 160 := by omega
      have g3 : (0 : Int) ≤ (j : Int) + (n : Int) := by omega
      have g4 : (j : Int) < 160 := by omega
      have ej : ((j : Int) + (n : Int)).toNat = j + n := by omega
      have e1 : IntKind.i64.wrap ((j : Int) + 1) = (j : Int) + 1 := by rw [IntKind.wrap_i64]; omega
      have cb : wr.cell? ⟨bb, j, none⟩ = some (.int .u8 (dotL v1 y 0 (j + n))) := (blk_cell (blk_kept hk XB.out) j).trans ((cols_at _ (by omega)).trans (by rw [SX.out]))
      have ca : wr.cell? ⟨ba, j + n, none⟩ = some (.int .u8 (dotL v1 y 0 (j + n))) := (blk_cell (blk_kept hk XA.out) (j + n)).trans (cols_at _ hlt)
      generalize dotL v1 y 0 (j + n) = dv at *
      clear hk
      go_wp2_with fail
      go_quiet (fail)
      go_wp2
      go_roundw
      case rel => exact ⟨j + 1, by omega, by first | go_num | rfl, KK.out.drewN⟩
      case measure => first | omega | (simp; omega) | (simp [intOf]; omega)
    · have g1 : decide ((j : Int) + (n : Int) < 160) = false := decide_eq_false (by omega)
      have g2 : ¬ (j : Int) + (n : Int) < 160 := by omega
      have CC := conv_line18 (blk_kept hk XC.out)
      have CD := conv_line18 (blk_kept hk XD.out)
      rw [SY.out] at CC
      generalize strB (lineP v1 ((y + dn) % 256) 0) = sv at *
      clear hk
      go_wp2
      go_ret
      exact ⟨rfl, KD.out.trans KK.out⟩
end Go.Proofs.Ytecgpdjgbdobbaa
