/- Layer 18's law of what stands elsewhere. -/
import Derived.Test.YtecgpdjgbdobbabG32
import Derived.Deep.RegionHeld3
namespace Go.Proofs.Ytecgpdjgbdobbab
open Go.RowKit
set_option linter.unusedVariables false
set_option linter.unusedSimpArgs false
set_option linter.unnecessarySimpa false

theorem alike_xor (v : Vd) (h0 : 0 ≤ v.ctl) (h1 : v.ctl ≤ 255) (oa : Option Addr) (oc : Nat) (oz : List Int) : Alike v { v with ctl := bits .xor .u8 v.ctl 128, oa := oa, oc := oc, oz := oz } := by
  obtain ⟨_, b0, b1, b2, b3, b4, b5, b6⟩ := fin8 (p := fun c => (0 ≤ bits .xor .u8 c 128 ∧ bits .xor .u8 c 128 ≤ 255) ∧ bitOf (bits .xor .u8 c 128) 0 = bitOf c 0 ∧ bitOf (bits .xor .u8 c 128) 1 = bitOf c 1 ∧ bitOf (bits .xor .u8 c 128) 2 = bitOf c 2 ∧ bitOf (bits .xor .u8 c 128) 3 = bitOf c 3 ∧ bitOf (bits .xor .u8 c 128) 4 = bitOf c 4 ∧ bitOf (bits .xor .u8 c 128) 5 = bitOf c 5 ∧ bitOf (bits .xor .u8 c 128) 6 = bitOf c 6) xor128_bits v.ctl h0 h1
  exact ⟨b0, b1, b2, b3, b4, b5, b6, rfl, rfl, rfl, rfl, rfl, rfl, rfl, rfl⟩
theorem xor_bd {c : Int} (h0 : 0 ≤ c) (h1 : c ≤ 255) : 0 ≤ bits .xor .u8 c 128 ∧ bits .xor .u8 c 128 ≤ 255 := by
  obtain ⟨b, _⟩ := fin8 (p := fun c => (0 ≤ bits .xor .u8 c 128 ∧ bits .xor .u8 c 128 ≤ 255) ∧ bitOf (bits .xor .u8 c 128) 0 = bitOf c 0 ∧ bitOf (bits .xor .u8 c 128) 1 = bitOf c 1 ∧ bitOf (bits .xor .u8 c 128) 2 = bitOf c 2 ∧ bitOf (bits .xor .u8 c 128) 3 = bitOf c 3 ∧ bitOf (bits .xor .u8 c 128) 4 = bitOf c 4 ∧ bitOf (bits .xor .u8 c 128) 5 = bitOf c 5 ∧ bitOf (bits .xor .u8 c 128) 6 = bitOf c 6) xor128_bits c h0 h1
  exact b
theorem not2_bd {c : Int} (h0 : 0 ≤ c) (h1 : c ≤ 255) : 0 ≤ bits .andNot .u8 c 2 ∧ bits .andNot .u8 c 2 ≤ 255 ∧ bitOf (bits .andNot .u8 c 2) 1 = false :=
  fin8 (p := fun c => 0 ≤ bits .andNot .u8 c 2 ∧ bits .andNot .u8 c 2 ≤ 255 ∧ bitOf (bits .andNot .u8 c 2) 1 = false) not2_bits c h0 h1
theorem vdIn_oam {u : World} {v : Vd} (h : VdIn u v) {c : Int} (c0 : 0 ≤ c) (c1 : c ≤ 255) {oa : Option Addr} {oc : Nat} {oz : List Int} (hs : Sl u oa oc oz) (hl : oz.length ≤ 160) : VdIn u { v with ctl := c, oa := oa, oc := oc, oz := oz } :=
  { h with c0 := c0, c1 := c1, os := hs, ol := by show oz.length ≤ _; omega }
set_option maxRecDepth 100000 in
set_option maxHeartbeats 8000000 in
theorem apart18 (v : Vd) (y win at_ to_ : Int) (w : World) (hv : VdIn w v) (y0 : 0 ≤ y) (y1 : y ≤ 255) (w0 : 0 ≤ win) (w1 : win ≤ 255) (a0 : 0 ≤ at_) (a1 : at_ ≤ 255) (t0 : 0 ≤ to_) (t1 : to_ ≤ 255) : Calls Try.prog 3 #[vdV v, .int .u8 y, .int .u8 win, .int .u8 at_, .int .u8 to_] w fun e w' => e = .returned (.bool true) ∧ Kept w w' := by
  have S := hid (fun u => kshown18 u)
  have A := hid (fun u k => pline18 v y win u (vdIn_kept k hv) y0 y1 w0 w1)
  have HV := hid hv
  have xb := xor_bd hv.c0 hv.c1
  have nb := not2_bd xb.1 xb.2
  have DW : Hid (∀ (oa : Option Addr) (oc : Nat), dotL { v with ctl := (bits .xor .u8 v.ctl 128), oa := oa, oc := oc, oz := (oamL v.oz) } y win = dotL v y win) := fun oa oc => alike_dot (alike_xor v hv.c0 hv.c1 _ _ _) (objs_alike (alike_xor v hv.c0 hv.c1 _ _ _) (oam_scan v.oz y _)) win
  have NW : Hid (∀ (oa : Option Addr) (oc : Nat), nxP { v with ctl := (bits .xor .u8 v.ctl 128), oa := oa, oc := oc, oz := (oamL v.oz) } y win = nxP v y win) := fun oa oc => alike_nx (alike_xor v hv.c0 hv.c1 _ _ _) y win
  obtain ⟨Z, hZ⟩ : ∃ Z, ((List.replicate 160 (0 : Int)).map (Value.int .u8)).toArray = Z := ⟨_, rfl⟩
  have HZ := hid hZ
  have MR : ∀ u : World, (Instr.makeSlice 22 (.int .i64 160) (.int .i64 160)).run Try.prog u = .ok (.slice (some ⟨u.heap.size, 0, none⟩) 160 160) (u.alloc (.cells Z 5)) := fun u => by rw [← hZ]; exact make18 160 (by decide) u
  obtain ⟨q, eq⟩ := Int.eq_ofNat_of_zero_le (show 0 ≤ at_ % 40 by omega)
  have hq : q < 40 := by omega
  have m1 : Int.tmod at_ 40 = (q : Int) := by rw [Int.tmod_eq_emod_of_nonneg a0]; exact eq
  obtain ⟨k, hk⟩ : ∃ k, k = 4 * q := ⟨_, rfl⟩
  obtain ⟨k1, hk1⟩ : ∃ j, j = k + 1 := ⟨_, rfl⟩
  obtain ⟨k2, hk2⟩ : ∃ j, j = k + 2 := ⟨_, rfl⟩
  obtain ⟨k3, hk3⟩ : ∃ j, j = k + 3 := ⟨_, rfl⟩
  have HK := hid hk
  have HK1 := hid hk1
  have HK2 := hid hk2
  have HK3 := hid hk3
  have e0 : IntKind.i64.wrap at_ = at_ := by rw [IntKind.wrap_i64]; omega
  have e1 : IntKind.i64.wrap (q : Int) = (q : Int) := by rw [IntKind.wrap_i64]; omega
  have e2 : IntKind.i64.wrap (4 * (q : Int)) = (k : Int) := by rw [IntKind.wrap_i64]; omega
  have e3 : IntKind.i64.wrap y = y := by rw [IntKind.wrap_i64]; omega
  have e4 : IntKind.i64.wrap (y + 16) = y + 16 := by rw [IntKind.wrap_i64]; omega
  have e5 : IntKind.i64.wrap ((k : Int) + 1) = (k1 : Int) := by rw [IntKind.wrap_i64]; omega
  have e6 : IntKind.i64.wrap ((k : Int) + 2) = (k2 : Int) := by rw [IntKind.wrap_i64]; omega
  have e7 : IntKind.i64.wrap ((k : Int) + 3) = (k3 : Int) := by rw [IntKind.wrap_i64]; omega
  have l0 : k < 160 := by omega
  have l1 : k1 < 160 := by omega
  have l2 : k2 < 160 := by omega
  have l3 : k3 < 160 := by omega
  have i0 : (k : Int) < 160 := by omega
  have i1 : (k1 : Int) < 160 := by omega
  have i2 : (k2 : Int) < 160 := by omega
  have i3 : (k3 : Int) < 160 := by omega
  have yb := getD_in (oam_in hv.os.row.2.1) k
  obtain ⟨yk, hyk⟩ : ∃ j, (oamL v.oz).getD k 0 = j := ⟨_, rfl⟩
  have HYK := hid hyk
  rw [hyk] at yb
  obtain ⟨yb0, yb1⟩ := yb
  have e8 : IntKind.i64.wrap yk = yk := by rw [IntKind.wrap_i64]; omega
  have e9 : IntKind.i64.wrap (yk + 16) = yk + 16 := by rw [IntKind.wrap_i64]; omega
  obtain ⟨vn, hvn⟩ : ∃ n, v.vz.length = n := ⟨_, rfl⟩
  obtain ⟨on, hon⟩ : ∃ n, v.oz.length = n := ⟨_, rfl⟩
  have HVN := hid hvn
  have HON := hid hon
  have VV : vdV v = .agg #[.int .u8 v.ctl, .int .u8 v.scy, .int .u8 v.scx, .int .u8 v.wy, .int .u8 v.wx, .int .u8 v.bgp, .int .u8 v.o0, .int .u8 v.o1, .slice v.va vn v.vc, .slice v.oa on v.oc] := by unfold vdV; rw [hvn, hon]
  rw [VV] at A ⊢
  clear hvn hon VV hv hZ hk hk1 hk2 hk3 hyk eq
  have K_1 : Hid (Kept w (w.alloc (.cells #[.int .u8 v.ctl, .int .u8 v.scy, .int .u8 v.scx, .int .u8 v.wy, .int .u8 v.wx, .int .u8 v.bgp, .int .u8 v.o0, .int .u8 v.o1, .slice v.va vn v.vc, .slice v.oa on v.oc] 24))) := (Kept.refl w).alloc _
  have V0_1 : Hid (Blk (w.alloc (.cells #[.int .u8 v.ctl, .int .u8 v.scy, .int .u8 v.scx, .int .u8 v.wy, .int .u8 v.wx, .int .u8 v.bgp, .int .u8 v.o0, .int .u8 v.o1, .slice v.va vn v.vc, .slice v.oa on v.oc] 24)) w.heap.size 24 [.int .u8 v.ctl, .int .u8 v.scy, .int .u8 v.scx, .int .u8 v.wy, .int .u8 v.wx, .int .u8 v.bgp, .int .u8 v.o0, .int .u8 v.o1, .slice v.va vn v.vc, .slice v.oa on v.oc]) := blk_new w _ _
  by_cases h1 : yk = 0
  · have FAR := hid (show yk = 0 ∨ y + 16 < yk ∨ yk + 16 ≤ y + 16 from .inl h1)
    have g1 : (yk == 0) = true := by simpa using h1
    go_enter Try.func3, Try.ntmps3
    go_wp2_with fail
    refine (S.out _).mono ?_
    rintro e u2 ⟨rfl, k1⟩
    have K_2 := hid (K_1.out.trans k1)
    have V0_2 := hid (blk_kept k1 V0_1.out)
    clear K_1 V0_1 k1
    have zv2 := blk_lt V0_2.out
    obtain ⟨d0, d1, d2, d3, d4, d5, d6, d7, d8, d9⟩ := ten18 V0_2.out
    go_wp2_with fail
    refine (A.out _ K_2.out).mono ?_
    rintro e u3 ⟨⟨ba, rfl, z3, x3⟩, k1⟩
    have XA_3 := hid x3
    have K_3 := hid (K_2.out.trans k1)
    have V0_3 := hid (blk_kept k1 V0_2.out)
    have ORD1 : Hid (w.heap.size < ba ∧ ba < u3.heap.size) := ⟨by omega, blk_lt XA_3.out⟩
    clear k1 x3 z3 zv2 d0 d1 d2 d3 d4 d5 d6 d7 d8 d9
    clear K_2 V0_2
    have N5 : Hid (Blk ((u3.alloc (.cells #[.int .u8 v.ctl, .int .u8 v.scy, .int .u8 v.scx, .int .u8 v.wy, .int .u8 v.wx, .int .u8 v.bgp, .int .u8 v.o0, .int .u8 v.o1, .slice v.va vn v.vc, .slice v.oa on v.oc] 24)).alloc (.cells Z 5)) u3.heap.size 24 [.int .u8 v.ctl, .int .u8 v.scy, .int .u8 v.scx, .int .u8 v.wy, .int .u8 v.wx, .int .u8 v.bgp, .int .u8 v.o0, .int .u8 v.o1, .slice v.va vn v.vc, .slice v.oa on v.oc]) := blk_past (blk_new u3 _ _) _
    have A5 : Hid (Kept u3 ((u3.alloc (.cells #[.int .u8 v.ctl, .int .u8 v.scy, .int .u8 v.scx, .int .u8 v.wy, .int .u8 v.wx, .int .u8 v.bgp, .int .u8 v.o0, .int .u8 v.o1, .slice v.va vn v.vc, .slice v.oa on v.oc] 24)).alloc (.cells Z 5))) := ((Kept.refl u3).alloc _).alloc _
    have XO_5 : Hid (BB ((u3.alloc (.cells #[.int .u8 v.ctl, .int .u8 v.scy, .int .u8 v.scx, .int .u8 v.wy, .int .u8 v.wx, .int .u8 v.bgp, .int .u8 v.o0, .int .u8 v.o1, .slice v.va vn v.vc, .slice v.oa on v.oc] 24)).alloc (.cells Z 5)) (u3.heap.size + 1) (List.replicate 160 0)) := by
      have q := blk_new (u3.alloc (.cells #[.int .u8 v.ctl, .int .u8 v.scy, .int .u8 v.scx, .int .u8 v.wy, .int .u8 v.wx, .int .u8 v.bgp, .int .u8 v.o0, .int .u8 v.o1, .slice v.va vn v.vc, .slice v.oa on v.oc] 24)) ((List.replicate 160 (0 : Int)).map (Value.int .u8)) 5
      rw [World.size_alloc] at q
      show Blk _ _ _ _
      rw [← HZ.out]
      exact q
    have K_5 := hid (K_3.out.trans A5.out)
    have V0_5 := hid (blk_kept A5.out V0_3.out)
    have XA_5 := hid (blk_kept A5.out XA_3.out)
    obtain ⟨d0, d1, d2, d3, d4, d5, d6, d7, d8, d9⟩ := ten18 V0_3.out
    have NV := N5.out
    clear N5
    go_wp2_with ((with_reducible refine at_st 22 ?_); refine wl_store rfl rfl rfl rfl NV (by kernel_rfl) rfl (Nat.le_of_ble_eq_true rfl) (fun u6 p6 => ?_); have XW_6 := hid (show Blk u6 u3.heap.size 24 [.int .u8 v.ctl, .int .u8 v.scy, .int .u8 v.scx, .int .u8 v.wy, .int .u8 v.wx, .int .u8 v.bgp, .int .u8 v.o0, .int .u8 v.o1, .slice v.va vn v.vc, .slice (some ⟨(u3.heap.size + 1), 0, none⟩) 160 160] from p6.blk); have V0_6 := hid (p6.other _ _ _ (by have o := ORD1.out; omega) V0_5.out); have XA_6 := hid (p6.other _ _ _ (by have o := ORD1.out; omega) XA_5.out); have XO_6 := hid (p6.other _ _ _ (by have o := ORD1.out; omega) XO_5.out); have K_6 := hid (p6.kept _ K_5.out (by have o := ORD1.out; omega)); clear p6; refine Hid.out ?_)
    refine hid ?_
    clear NV A5 d0 d1 d2 d3 d4 d5 d6 d7 d8 d9
    clear V0_5 XA_5 XO_5 K_5
    clear V0_3 XA_3 K_3
    obtain ⟨u7, nn, hrun, b7, k7, o7⟩ := copyA18 (g := (u3.heap.size + 1)) XO_6.out (vdIn_kept K_6.out HV.out).os
    rw [HON.out] at hrun
    have XO_7 := hid b7
    have K_7 := hid (k7 _ K_6.out (by have o := ORD1.out; omega))
    have V0_7 := hid (o7 _ _ _ (by have o := ORD1.out; omega) V0_6.out)
    have XA_7 := hid (o7 _ _ _ (by have o := ORD1.out; omega) XA_6.out)
    have XW_7 := hid (o7 _ _ _ (by have o := ORD1.out; omega) XW_6.out)
    have q9 : u6.cell? ⟨u3.heap.size, 9, none⟩ = some (.slice (some ⟨(u3.heap.size + 1), 0, none⟩) 160 160) := blk_cell XW_6.out 9
    have r9 : u6.cell? ⟨w.heap.size, 9, none⟩ = some (.slice v.oa on v.oc) := blk_cell V0_6.out 9
    have r0 : u7.cell? ⟨w.heap.size, 0, none⟩ = some (.int .u8 v.ctl) := blk_cell V0_7.out 0
    clear b7 k7 o7
    clear V0_6 XA_6 XW_6 XO_6 K_6
    have NV := XW_7.out
    clear XW_7
    go_wp2_with ((with_reducible refine at_st 5 ?_); refine wl_store rfl rfl rfl rfl NV (by kernel_rfl) rfl (Nat.le_of_ble_eq_true rfl) (fun u8 p8 => ?_); have XW_8 := hid (show Blk u8 u3.heap.size 24 [.int .u8 (bits .xor .u8 v.ctl 128), .int .u8 v.scy, .int .u8 v.scx, .int .u8 v.wy, .int .u8 v.wx, .int .u8 v.bgp, .int .u8 v.o0, .int .u8 v.o1, .slice v.va vn v.vc, .slice (some ⟨(u3.heap.size + 1), 0, none⟩) 160 160] from p8.blk); have V0_8 := hid (p8.other _ _ _ (by have o := ORD1.out; omega) V0_7.out); have XA_8 := hid (p8.other _ _ _ (by have o := ORD1.out; omega) XA_7.out); have XO_8 := hid (p8.other _ _ _ (by have o := ORD1.out; omega) XO_7.out); have K_8 := hid (p8.kept _ K_7.out (by have o := ORD1.out; omega)); clear p8; refine Hid.out ?_)
    refine hid ?_
    clear NV q9 r9 r0 hrun
    clear V0_7 XA_7 XO_7 K_7
    have S8 : Sl u8 (some ⟨(u3.heap.size + 1), 0, none⟩) 160 (oamL v.oz) := br_sl (rest := []) (show Blk _ _ _ _ by rw [List.append_nil]; exact XO_8.out) (oam_in HV.out.os.row.2.1) (by rw [oam_len]; omega) (by simp [maxLen])
    have LB := hid (pline18 { v with ctl := (bits .xor .u8 v.ctl 128), oa := some ⟨(u3.heap.size + 1), 0, none⟩, oc := 160, oz := (oamL v.oz) } y win u8 (vdIn_oam (vdIn_kept K_8.out HV.out) xb.1 xb.2 S8 (by rw [oam_len]; omega)) y0 y1 w0 w1)
    rw [show vdV { v with ctl := (bits .xor .u8 v.ctl 128), oa := some ⟨(u3.heap.size + 1), 0, none⟩, oc := 160, oz := (oamL v.oz) } = .agg #[.int .u8 (bits .xor .u8 v.ctl 128), .int .u8 v.scy, .int .u8 v.scx, .int .u8 v.wy, .int .u8 v.wx, .int .u8 v.bgp, .int .u8 v.o0, .int .u8 v.o1, .slice v.va vn v.vc, .slice (some ⟨(u3.heap.size + 1), 0, none⟩) 160 160] from vdV_eq _ HVN.out (oam_len v.oz), DW.out _ _, NW.out _ _] at LB
    clear S8
    have zo8 := blk_lt XO_8.out
    obtain ⟨d0, d1, d2, d3, d4, d5, d6, d7, d8, d9⟩ := ten18 XW_8.out
    go_wp2_with fail
    refine LB.out.mono ?_
    rintro e u9 ⟨⟨bb, rfl, z9, x9⟩, k1⟩
    have XB_9 := hid x9
    have K_9 := hid (K_8.out.trans k1)
    have XA_9 := hid (blk_kept k1 XA_8.out)
    have XW_9 := hid (blk_kept k1 XW_8.out)
    have XO_9 := hid (blk_kept k1 XO_8.out)
    have ORD2 : Hid (w.heap.size < ba ∧ ba < u3.heap.size ∧ u3.heap.size + 1 < bb ∧ bb < u9.heap.size) := ⟨ORD1.out.1, ORD1.out.2, by omega, blk_lt XB_9.out⟩
    clear k1 x9 z9 zo8 LB ORD1 d0 d1 d2 d3 d4 d5 d6 d7 d8 d9
    clear XA_8 XW_8 XO_8 K_8 V0_8
    have A11 : Hid (Kept u9 ((u9.alloc (.cells #[.int .u8 (bits .xor .u8 v.ctl 128), .int .u8 v.scy, .int .u8 v.scx, .int .u8 v.wy, .int .u8 v.wx, .int .u8 v.bgp, .int .u8 v.o0, .int .u8 v.o1, .slice v.va vn v.vc, .slice (some ⟨(u3.heap.size + 1), 0, none⟩) 160 160] 24)).alloc (.cells #[] 5))) := ((Kept.refl u9).alloc _).alloc _
    have XU_11 : Hid (Blk ((u9.alloc (.cells #[.int .u8 (bits .xor .u8 v.ctl 128), .int .u8 v.scy, .int .u8 v.scx, .int .u8 v.wy, .int .u8 v.wx, .int .u8 v.bgp, .int .u8 v.o0, .int .u8 v.o1, .slice v.va vn v.vc, .slice (some ⟨(u3.heap.size + 1), 0, none⟩) 160 160] 24)).alloc (.cells #[] 5)) u9.heap.size 24 [.int .u8 (bits .xor .u8 v.ctl 128), .int .u8 v.scy, .int .u8 v.scx, .int .u8 v.wy, .int .u8 v.wx, .int .u8 v.bgp, .int .u8 v.o0, .int .u8 v.o1, .slice v.va vn v.vc, .slice (some ⟨(u3.heap.size + 1), 0, none⟩) 160 160]) := blk_past (blk_new u9 _ _) _
    have E11 : Hid (((u9.alloc (.cells #[.int .u8 (bits .xor .u8 v.ctl 128), .int .u8 v.scy, .int .u8 v.scx, .int .u8 v.wy, .int .u8 v.wx, .int .u8 v.bgp, .int .u8 v.o0, .int .u8 v.o1, .slice v.va vn v.vc, .slice (some ⟨(u3.heap.size + 1), 0, none⟩) 160 160] 24)).alloc (.cells #[] 5)).ownsRow (u9.heap.size + 1) 5 1 (.slice (some ⟨u9.heap.size + 1, 0, none⟩) ([] : List Int).length 0) ([] : List Int).length (([] : List Int).map (Value.int .u8))) := by
      have q := own_empty (u9.alloc (.cells #[.int .u8 (bits .xor .u8 v.ctl 128), .int .u8 v.scy, .int .u8 v.scx, .int .u8 v.wy, .int .u8 v.wx, .int .u8 v.bgp, .int .u8 v.o0, .int .u8 v.o1, .slice v.va vn v.vc, .slice (some ⟨(u3.heap.size + 1), 0, none⟩) 160 160] 24)) (base := u9.heap.size + 1) (by rw [World.size_alloc]; omega)
      rw [World.size_alloc] at q
      exact q
    have S11 : Hid (Sl ((u9.alloc (.cells #[.int .u8 (bits .xor .u8 v.ctl 128), .int .u8 v.scy, .int .u8 v.scx, .int .u8 v.wy, .int .u8 v.wx, .int .u8 v.bgp, .int .u8 v.o0, .int .u8 v.o1, .slice v.va vn v.vc, .slice (some ⟨(u3.heap.size + 1), 0, none⟩) 160 160] 24)).alloc (.cells #[] 5)) (some ⟨(u3.heap.size + 1), 0, none⟩) 160 (oamL v.oz)) := sl_kept A11.out (br_sl (rest := []) (show Blk _ _ _ _ by rw [List.append_nil]; exact XO_9.out) (oam_in HV.out.os.row.2.1) (by rw [oam_len]; omega) (by simp [maxLen]))
    have K_11 := hid (K_9.out.trans A11.out)
    have XA_11 := hid (blk_kept A11.out XA_9.out)
    have XW_11 := hid (blk_kept A11.out XW_9.out)
    have XO_11 := hid (blk_kept A11.out XO_9.out)
    have XB_11 := hid (blk_kept A11.out XB_9.out)
    have z11 : ((u9.alloc (.cells #[.int .u8 (bits .xor .u8 v.ctl 128), .int .u8 v.scy, .int .u8 v.scx, .int .u8 v.wy, .int .u8 v.wx, .int .u8 v.bgp, .int .u8 v.o0, .int .u8 v.o1, .slice v.va vn v.vc, .slice (some ⟨(u3.heap.size + 1), 0, none⟩) 160 160] 24)).alloc (.cells #[] 5)).heap.size = u9.heap.size + 2 := by rw [World.size_alloc, World.size_alloc]
    have Z11 := hid z11
    obtain ⟨d0, d1, d2, d3, d4, d5, d6, d7, d8, d9⟩ := ten18 XW_9.out
    obtain ⟨f0, f1, f2, f3, f4, f5, f6, f7, f8, f9⟩ := ten18 XW_11.out
    clear z11
    go_wp2_with (at_builtin; (refine wl_append (L := []) (z := (oamL v.oz)) E11.out S11.out rfl rfl rfl rfl (oam_len v.oz).symm (by have q := Z11.out; omega) (by rw [oam_len]; simp) (fun v' u12 o12 g12 => ?_); rw [List.nil_append] at o12; have O12 := hid o12; have K_12 := hid (K_11.out.by g12 (fun q hq => by have o := ORD2.out; have e : u9.heap.size + 1 = q := (by simpa [Value.ownBlock] using hq); omega)); have XA_12 := hid (blk_by g12 XA_11.out (by have o := ORD2.out; intro e; have e2 : u9.heap.size + 1 = ba := (by simpa [Value.ownBlock] using e); omega)); have XW_12 := hid (blk_by g12 XW_11.out (by have o := ORD2.out; intro e; have e2 : u9.heap.size + 1 = u3.heap.size := (by simpa [Value.ownBlock] using e); omega)); have XO_12 := hid (blk_by g12 XO_11.out (by have o := ORD2.out; intro e; have e2 : u9.heap.size + 1 = (u3.heap.size + 1) := (by simpa [Value.ownBlock] using e); omega)); have XB_12 := hid (blk_by g12 XB_11.out (by have o := ORD2.out; intro e; have e2 : u9.heap.size + 1 = bb := (by simpa [Value.ownBlock] using e); omega)); have XU_12 := hid (blk_by g12 XU_11.out (by have o := ORD2.out; intro e; have e2 : u9.heap.size + 1 = u9.heap.size := (by simpa [Value.ownBlock] using e); omega)); clear o12 g12; refine Hid.out ?_))
    refine hid ?_
    obtain ⟨g2, cp, rest, e12, hg2, br12, l12, m12⟩ := own_br O12.out (by rw [oam_len]; omega)
    rw [oam_len] at e12 l12
    subst e12
    have XG_12 := hid br12
    have ORD3 : Hid (w.heap.size < ba ∧ ba < u3.heap.size ∧ u3.heap.size + 1 < bb ∧ bb < u9.heap.size ∧ u9.heap.size < g2) := ⟨ORD2.out.1, ORD2.out.2.1, ORD2.out.2.2.1, ORD2.out.2.2.2, by omega⟩
    clear br12 hg2 O12 ORD2 E11 S11 Z11 A11 d0 d1 d2 d3 d4 d5 d6 d7 d8 d9 f0 f1 f2 f3 f4 f5 f6 f7 f8 f9
    clear XA_11 XW_11 XO_11 XB_11 XU_11 K_11
    clear XA_9 XW_9 XO_9 XB_9 K_9
    have NV := XU_12.out
    clear XU_12
    go_wp2_with ((with_reducible refine at_st 22 ?_); refine wl_store rfl rfl rfl rfl NV (by kernel_rfl) rfl (Nat.le_of_ble_eq_true rfl) (fun u13 p13 => ?_); have XU_13 := hid (show Blk u13 u9.heap.size 24 [.int .u8 (bits .xor .u8 v.ctl 128), .int .u8 v.scy, .int .u8 v.scx, .int .u8 v.wy, .int .u8 v.wx, .int .u8 v.bgp, .int .u8 v.o0, .int .u8 v.o1, .slice v.va vn v.vc, .slice (some ⟨g2, 0, none⟩) 160 cp] from p13.blk); have XA_13 := hid (p13.other _ _ _ (by have o := ORD3.out; omega) XA_12.out); have XW_13 := hid (p13.other _ _ _ (by have o := ORD3.out; omega) XW_12.out); have XO_13 := hid (p13.other _ _ _ (by have o := ORD3.out; omega) XO_12.out); have XB_13 := hid (p13.other _ _ _ (by have o := ORD3.out; omega) XB_12.out); have XG_13 := hid (p13.other _ _ _ (by have o := ORD3.out; omega) XG_12.out); have K_13 := hid (p13.kept _ K_12.out (by have o := ORD3.out; omega)); clear p13; refine Hid.out ?_)
    refine hid ?_
    clear NV
    clear XA_12 XW_12 XO_12 XB_12 XG_12 K_12
    have n9 : u13.cell? ⟨u9.heap.size, 9, none⟩ = some (.slice (some ⟨g2, 0, none⟩) 160 cp) := blk_cell XU_13.out 9
    have NV := XG_13.out
    clear XG_13
    go_wp2_with ((with_reducible refine at_st 5 ?_); refine wl_store rfl rfl rfl rfl NV (by kernel_rfl) rfl (by rw [List.length_append, List.length_map, oam_len]; show k + 1 ≤ _; omega) (fun u14 p14 => ?_); have XG_14 := hid (show BR u14 g2 ((oamL v.oz).set k 0) rest by (show Blk _ _ _ _; rw [← br_set (rest := rest) 0 (show k < (oamL v.oz).length by rw [oam_len]; omega)]; exact p14.blk)); have XA_14 := hid (p14.other _ _ _ (by have o := ORD3.out; omega) XA_13.out); have XW_14 := hid (p14.other _ _ _ (by have o := ORD3.out; omega) XW_13.out); have XO_14 := hid (p14.other _ _ _ (by have o := ORD3.out; omega) XO_13.out); have XB_14 := hid (p14.other _ _ _ (by have o := ORD3.out; omega) XB_13.out); have XU_14 := hid (p14.other _ _ _ (by have o := ORD3.out; omega) XU_13.out); have K_14 := hid (p14.kept _ K_13.out (by have o := ORD3.out; omega)); clear p14; refine Hid.out ?_)
    refine hid ?_
    clear NV n9
    clear XA_13 XW_13 XO_13 XB_13 XU_13 K_13
    have m9 : u14.cell? ⟨u3.heap.size, 9, none⟩ = some (.slice (some ⟨(u3.heap.size + 1), 0, none⟩) 160 160) := blk_cell XW_14.out 9
    have mk : u14.cell? ⟨(u3.heap.size + 1), k, none⟩ = some (.int .u8 yk) := by rw [← HYK.out]; exact br_cell (rest := []) (show Blk _ _ _ _ by rw [List.append_nil]; exact XO_14.out) (by rw [oam_len]; omega)
    have mu : u14.cell? ⟨u9.heap.size, 9, none⟩ = some (.slice (some ⟨g2, 0, none⟩) 160 cp) := blk_cell XU_14.out 9
    have NV := XG_14.out
    clear XG_14
    go_wp2_with ((with_reducible refine at_st 5 ?_); refine wl_store rfl rfl rfl rfl NV (by kernel_rfl) rfl (by rw [List.length_append, List.length_map]; simp only [List.length_set, oam_len]; show k1 + 1 ≤ _; omega) (fun u15 p15 => ?_); have XG_15 := hid (show BR u15 g2 (((oamL v.oz).set k 0).set k1 to_) rest by (show Blk _ _ _ _; rw [← br_set (rest := rest) to_ (show k1 < ((oamL v.oz).set k 0).length by simp only [List.length_set, oam_len]; omega)]; exact p15.blk)); have XA_15 := hid (p15.other _ _ _ (by have o := ORD3.out; omega) XA_14.out); have XW_15 := hid (p15.other _ _ _ (by have o := ORD3.out; omega) XW_14.out); have XO_15 := hid (p15.other _ _ _ (by have o := ORD3.out; omega) XO_14.out); have XB_15 := hid (p15.other _ _ _ (by have o := ORD3.out; omega) XB_14.out); have XU_15 := hid (p15.other _ _ _ (by have o := ORD3.out; omega) XU_14.out); have K_15 := hid (p15.kept _ K_14.out (by have o := ORD3.out; omega)); clear p15; refine Hid.out ?_)
    refine hid ?_
    clear NV m9 mk mu
    clear XA_14 XW_14 XO_14 XB_14 XU_14 K_14
    have NV := XG_15.out
    clear XG_15
    have mu : u15.cell? ⟨u9.heap.size, 9, none⟩ = some (.slice (some ⟨g2, 0, none⟩) 160 cp) := blk_cell XU_15.out 9
    go_wp2_with ((with_reducible refine at_st 5 ?_); refine wl_store rfl rfl rfl rfl NV (by kernel_rfl) rfl (by rw [List.length_append, List.length_map]; simp only [List.length_set, oam_len]; show k2 + 1 ≤ _; omega) (fun u16 p16 => ?_); have XG_16 := hid (show BR u16 g2 ((((oamL v.oz).set k 0).set k1 to_).set k2 to_) rest by (show Blk _ _ _ _; rw [← br_set (rest := rest) to_ (show k2 < (((oamL v.oz).set k 0).set k1 to_).length by simp only [List.length_set, oam_len]; omega)]; exact p16.blk)); have XA_16 := hid (p16.other _ _ _ (by have o := ORD3.out; omega) XA_15.out); have XW_16 := hid (p16.other _ _ _ (by have o := ORD3.out; omega) XW_15.out); have XO_16 := hid (p16.other _ _ _ (by have o := ORD3.out; omega) XO_15.out); have XB_16 := hid (p16.other _ _ _ (by have o := ORD3.out; omega) XB_15.out); have XU_16 := hid (p16.other _ _ _ (by have o := ORD3.out; omega) XU_15.out); have K_16 := hid (p16.kept _ K_15.out (by have o := ORD3.out; omega)); clear p16; refine Hid.out ?_)
    refine hid ?_
    clear NV mu
    clear XA_15 XW_15 XO_15 XB_15 XU_15 K_15
    have NV := XG_16.out
    clear XG_16
    have mu : u16.cell? ⟨u9.heap.size, 9, none⟩ = some (.slice (some ⟨g2, 0, none⟩) 160 cp) := blk_cell XU_16.out 9
    go_wp2_with ((with_reducible refine at_st 5 ?_); refine wl_store rfl rfl rfl rfl NV (by kernel_rfl) rfl (by rw [List.length_append, List.length_map]; simp only [List.length_set, oam_len]; show k3 + 1 ≤ _; omega) (fun u17 p17 => ?_); have XG_17 := hid (show BR u17 g2 (((((oamL v.oz).set k 0).set k1 to_).set k2 to_).set k3 to_) rest by (show Blk _ _ _ _; rw [← br_set (rest := rest) to_ (show k3 < ((((oamL v.oz).set k 0).set k1 to_).set k2 to_).length by simp only [List.length_set, oam_len]; omega)]; exact p17.blk)); have XA_17 := hid (p17.other _ _ _ (by have o := ORD3.out; omega) XA_16.out); have XW_17 := hid (p17.other _ _ _ (by have o := ORD3.out; omega) XW_16.out); have XO_17 := hid (p17.other _ _ _ (by have o := ORD3.out; omega) XO_16.out); have XB_17 := hid (p17.other _ _ _ (by have o := ORD3.out; omega) XB_16.out); have XU_17 := hid (p17.other _ _ _ (by have o := ORD3.out; omega) XU_16.out); have K_17 := hid (p17.kept _ K_16.out (by have o := ORD3.out; omega)); clear p17; refine Hid.out ?_)
    refine hid ?_
    clear NV mu
    clear XA_16 XW_16 XO_16 XB_16 XU_16 K_16
    rw [HK1.out, HK2.out, HK3.out] at XG_17
    have XF : Hid (BR u17 g2 (farL (oamL v.oz) k to_) rest) := XG_17
    clear XG_17
    have XG_17 := XF
    clear XF
    have S17 : Sl u17 (some ⟨g2, 0, none⟩) cp (farL (oamL v.oz) k to_) := br_sl XG_17.out (far_in (oam_in HV.out.os.row.2.1) ⟨t0, t1⟩ k) (by rw [far_len, oam_len]; exact l12) m12
    have DU : dotL { v with ctl := (bits .xor .u8 v.ctl 128), oa := some ⟨g2, 0, none⟩, oc := cp, oz := (farL (oamL v.oz) k to_) } y win = dotL v y win := alike_dot (alike_xor v HV.out.c0 HV.out.c1 _ _ _) (objs_alike (alike_xor v HV.out.c0 HV.out.c1 _ _ _) ((show scanL (farL (oamL v.oz) k to_) y _ = scanL v.oz y _ by rw [HK.out, far_scan (oam_len v.oz) (oam_in HV.out.os.row.2.1) hq y0 to_ _ (by rw [← HK.out, HYK.out]; exact FAR.out), oam_scan]))) win
    have LC := hid (pline18 { v with ctl := (bits .xor .u8 v.ctl 128), oa := some ⟨g2, 0, none⟩, oc := cp, oz := (farL (oamL v.oz) k to_) } y win u17 (vdIn_oam (vdIn_kept K_17.out HV.out) xb.1 xb.2 S17 (by rw [far_len, oam_len]; omega)) y0 y1 w0 w1)
    rw [show vdV { v with ctl := (bits .xor .u8 v.ctl 128), oa := some ⟨g2, 0, none⟩, oc := cp, oz := (farL (oamL v.oz) k to_) } = .agg #[.int .u8 (bits .xor .u8 v.ctl 128), .int .u8 v.scy, .int .u8 v.scx, .int .u8 v.wy, .int .u8 v.wx, .int .u8 v.bgp, .int .u8 v.o0, .int .u8 v.o1, .slice v.va vn v.vc, .slice (some ⟨g2, 0, none⟩) 160 cp] from vdV_eq _ HVN.out (by show List.length (farL (oamL v.oz) k to_) = 160; rw [far_len, oam_len]), DU] at LC
    clear S17 DU
    have zg := blk_lt XG_17.out
    obtain ⟨d0, d1, d2, d3, d4, d5, d6, d7, d8, d9⟩ := ten18 XU_17.out
    go_wp2_with fail
    refine LC.out.mono ?_
    rintro e u18 ⟨⟨bc, rfl, z18, x18⟩, k1⟩
    have XC_18 := hid x18
    have K_18 := hid (K_17.out.trans k1)
    have XA_18 := hid (blk_kept k1 XA_17.out)
    have XW_18 := hid (blk_kept k1 XW_17.out)
    have XO_18 := hid (blk_kept k1 XO_17.out)
    have XB_18 := hid (blk_kept k1 XB_17.out)
    have ORD4 : Hid (w.heap.size < ba ∧ ba < u3.heap.size ∧ u3.heap.size + 1 < bb ∧ bb < u9.heap.size ∧ u9.heap.size < g2 ∧ g2 < bc) := ⟨ORD3.out.1, ORD3.out.2.1, ORD3.out.2.2.1, ORD3.out.2.2.2.1, ORD3.out.2.2.2.2, by omega⟩
    clear k1 x18 z18 zg LC ORD3 d0 d1 d2 d3 d4 d5 d6 d7 d8 d9
    clear XA_17 XW_17 XO_17 XB_17 XU_17 XG_17 K_17
    have n0 : u18.cell? ⟨u3.heap.size, 0, none⟩ = some (.int .u8 (bits .xor .u8 v.ctl 128)) := blk_cell XW_18.out 0
    have NV := XW_18.out
    clear XW_18
    go_wp2_with ((with_reducible refine at_st 5 ?_); refine wl_store rfl rfl rfl rfl NV (by kernel_rfl) rfl (Nat.le_of_ble_eq_true rfl) (fun u19 p19 => ?_); have XW_19 := hid (show Blk u19 u3.heap.size 24 [.int .u8 (bits .andNot .u8 (bits .xor .u8 v.ctl 128) 2), .int .u8 v.scy, .int .u8 v.scx, .int .u8 v.wy, .int .u8 v.wx, .int .u8 v.bgp, .int .u8 v.o0, .int .u8 v.o1, .slice v.va vn v.vc, .slice (some ⟨(u3.heap.size + 1), 0, none⟩) 160 160] from p19.blk); have XA_19 := hid (p19.other _ _ _ (by have o := ORD4.out; omega) XA_18.out); have XO_19 := hid (p19.other _ _ _ (by have o := ORD4.out; omega) XO_18.out); have XB_19 := hid (p19.other _ _ _ (by have o := ORD4.out; omega) XB_18.out); have XC_19 := hid (p19.other _ _ _ (by have o := ORD4.out; omega) XC_18.out); have K_19 := hid (p19.kept _ K_18.out (by have o := ORD4.out; omega)); clear p19; refine Hid.out ?_)
    refine hid ?_
    clear NV n0
    clear XA_18 XO_18 XB_18 XC_18 K_18
    have S19 : Sl u19 (some ⟨(u3.heap.size + 1), 0, none⟩) 160 (oamL v.oz) := br_sl (rest := []) (show Blk _ _ _ _ by rw [List.append_nil]; exact XO_19.out) (oam_in HV.out.os.row.2.1) (by rw [oam_len]; omega) (by simp [maxLen])
    have LD := hid (pline18 { v with ctl := (bits .andNot .u8 (bits .xor .u8 v.ctl 128) 2), oa := some ⟨(u3.heap.size + 1), 0, none⟩, oc := 160, oz := (oamL v.oz) } y win u19 (vdIn_oam (vdIn_kept K_19.out HV.out) nb.1 nb.2.1 S19 (by rw [oam_len]; omega)) y0 y1 w0 w1)
    have DD : dotL { v with ctl := (bits .andNot .u8 (bits .xor .u8 v.ctl 128) 2), oa := some ⟨(u3.heap.size + 1), 0, none⟩, oc := 160, oz := (oamL v.oz) } y win = dotL { v with ctl := (bits .andNot .u8 (bits .xor .u8 v.ctl 128) 2), oa := none, oc := 0, oz := [] } y win := alike_dot (v := { v with ctl := (bits .andNot .u8 (bits .xor .u8 v.ctl 128) 2), oa := none, oc := 0, oz := [] }) (v' := { v with ctl := (bits .andNot .u8 (bits .xor .u8 v.ctl 128) 2), oa := some ⟨(u3.heap.size + 1), 0, none⟩, oc := 160, oz := (oamL v.oz) }) ⟨rfl, rfl, rfl, rfl, rfl, rfl, rfl, rfl, rfl, rfl, rfl, rfl, rfl, rfl, rfl⟩ (by rw [objs_none (v := { v with ctl := (bits .andNot .u8 (bits .xor .u8 v.ctl 128) 2), oa := none, oc := 0, oz := [] }) nb.2.2, objs_none (v := { v with ctl := (bits .andNot .u8 (bits .xor .u8 v.ctl 128) 2), oa := some ⟨(u3.heap.size + 1), 0, none⟩, oc := 160, oz := (oamL v.oz) }) nb.2.2]) win
    rw [show vdV { v with ctl := (bits .andNot .u8 (bits .xor .u8 v.ctl 128) 2), oa := some ⟨(u3.heap.size + 1), 0, none⟩, oc := 160, oz := (oamL v.oz) } = .agg #[.int .u8 (bits .andNot .u8 (bits .xor .u8 v.ctl 128) 2), .int .u8 v.scy, .int .u8 v.scx, .int .u8 v.wy, .int .u8 v.wx, .int .u8 v.bgp, .int .u8 v.o0, .int .u8 v.o1, .slice v.va vn v.vc, .slice (some ⟨(u3.heap.size + 1), 0, none⟩) 160 160] from vdV_eq _ HVN.out (oam_len v.oz), DD] at LD
    clear S19 DD
    have zc := blk_lt XC_19.out
    obtain ⟨d0, d1, d2, d3, d4, d5, d6, d7, d8, d9⟩ := ten18 XW_19.out
    go_wp2_with fail
    refine LD.out.mono ?_
    rintro e u20 ⟨⟨bd, rfl, z20, x20⟩, k1⟩
    have XD_20 := hid x20
    have K_20 := hid (K_19.out.trans k1)
    have XA_20 := hid (blk_kept k1 XA_19.out)
    have XW_20 := hid (blk_kept k1 XW_19.out)
    have XB_20 := hid (blk_kept k1 XB_19.out)
    have XC_20 := hid (blk_kept k1 XC_19.out)
    have ORD5 : Hid (w.heap.size < ba ∧ ba < u3.heap.size ∧ u3.heap.size + 1 < bb ∧ bb < u9.heap.size ∧ u9.heap.size < g2 ∧ g2 < bc ∧ bc < bd) := ⟨ORD4.out.1, ORD4.out.2.1, ORD4.out.2.2.1, ORD4.out.2.2.2.1, ORD4.out.2.2.2.2.1, ORD4.out.2.2.2.2.2, by omega⟩
    clear k1 x20 z20 zc LD ORD4 d0 d1 d2 d3 d4 d5 d6 d7 d8 d9
    clear XA_19 XO_19 XW_19 XB_19 XC_19 K_19
    have NV := XW_20.out
    clear XW_20
    go_wp2_with ((with_reducible refine at_st 22 ?_); refine wl_store rfl rfl rfl rfl NV (by kernel_rfl) rfl (Nat.le_of_ble_eq_true rfl) (fun u21 p21 => ?_); have XW_21 := hid (show Blk u21 u3.heap.size 24 [.int .u8 (bits .andNot .u8 (bits .xor .u8 v.ctl 128) 2), .int .u8 v.scy, .int .u8 v.scx, .int .u8 v.wy, .int .u8 v.wx, .int .u8 v.bgp, .int .u8 v.o0, .int .u8 v.o1, .slice v.va vn v.vc, .slice none 0 0] from p21.blk); have XA_21 := hid (p21.other _ _ _ (by have o := ORD5.out; omega) XA_20.out); have XB_21 := hid (p21.other _ _ _ (by have o := ORD5.out; omega) XB_20.out); have XC_21 := hid (p21.other _ _ _ (by have o := ORD5.out; omega) XC_20.out); have XD_21 := hid (p21.other _ _ _ (by have o := ORD5.out; omega) XD_20.out); have K_21 := hid (p21.kept _ K_20.out (by have o := ORD5.out; omega)); clear p21; refine Hid.out ?_)
    refine hid ?_
    clear NV
    clear XA_20 XB_20 XC_20 XD_20 K_20
    have LE := hid (pline18 { v with ctl := (bits .andNot .u8 (bits .xor .u8 v.ctl 128) 2), oa := none, oc := 0, oz := [] } y win u21 (vdIn_oam (vdIn_kept K_21.out HV.out) nb.1 nb.2.1 (sl_nil u21) (by simp)) y0 y1 w0 w1)
    rw [show vdV { v with ctl := (bits .andNot .u8 (bits .xor .u8 v.ctl 128) 2), oa := none, oc := 0, oz := [] } = .agg #[.int .u8 (bits .andNot .u8 (bits .xor .u8 v.ctl 128) 2), .int .u8 v.scy, .int .u8 v.scx, .int .u8 v.wy, .int .u8 v.wx, .int .u8 v.bgp, .int .u8 v.o0, .int .u8 v.o1, .slice v.va vn v.vc, .slice none 0 0] from vdV_eq _ HVN.out rfl] at LE
    obtain ⟨d0, d1, d2, d3, d4, d5, d6, d7, d8, d9⟩ := ten18 XW_21.out
    go_wp2_with fail
    refine LE.out.mono ?_
    rintro e u22 ⟨⟨be, rfl, z22, x22⟩, k1⟩
    have XE_22 := hid x22
    have K_22 := hid (K_21.out.trans k1)
    have XA_22 := hid (blk_kept k1 XA_21.out)
    have XB_22 := hid (blk_kept k1 XB_21.out)
    have XC_22 := hid (blk_kept k1 XC_21.out)
    have XD_22 := hid (blk_kept k1 XD_21.out)
    clear k1 x22 z22 LE d0 d1 d2 d3 d4 d5 d6 d7 d8 d9
    have CA := conv_line18 XA_22.out
    have CB := conv_line18 XB_22.out
    have CC := conv_line18 XC_22.out
    have CD := conv_line18 XD_22.out
    have CE := conv_line18 XE_22.out
    have KE := K_22
    clear XA_21 XB_21 XC_21 XD_21 XW_21 K_21
    clear XA_22 XB_22 XC_22 XD_22 XE_22 K_22
    generalize strB (lineP v y win) = sv at *
    generalize strB (lineP { v with ctl := (bits .andNot .u8 (bits .xor .u8 v.ctl 128) 2), oa := none, oc := 0, oz := [] } y win) = se at *
    go_wp2
    go_ret
    exact ⟨rfl, KE.out⟩
  · have g1 : (yk == 0) = false := by simpa using h1
    by_cases h2 : y + 16 < yk
    · have FAR := hid (show yk = 0 ∨ y + 16 < yk ∨ yk + 16 ≤ y + 16 from .inr (.inl h2))
      go_enter Try.func3, Try.ntmps3
      go_wp2_with fail
      refine (S.out _).mono ?_
      rintro e u2 ⟨rfl, k1⟩
      have K_2 := hid (K_1.out.trans k1)
      have V0_2 := hid (blk_kept k1 V0_1.out)
      clear K_1 V0_1 k1
      have zv2 := blk_lt V0_2.out
      obtain ⟨d0, d1, d2, d3, d4, d5, d6, d7, d8, d9⟩ := ten18 V0_2.out
      go_wp2_with fail
      refine (A.out _ K_2.out).mono ?_
      rintro e u3 ⟨⟨ba, rfl, z3, x3⟩, k1⟩
      have XA_3 := hid x3
      have K_3 := hid (K_2.out.trans k1)
      have V0_3 := hid (blk_kept k1 V0_2.out)
      have ORD1 : Hid (w.heap.size < ba ∧ ba < u3.heap.size) := ⟨by omega, blk_lt XA_3.out⟩
      clear k1 x3 z3 zv2 d0 d1 d2 d3 d4 d5 d6 d7 d8 d9
      clear K_2 V0_2
      have N5 : Hid (Blk ((u3.alloc (.cells #[.int .u8 v.ctl, .int .u8 v.scy, .int .u8 v.scx, .int .u8 v.wy, .int .u8 v.wx, .int .u8 v.bgp, .int .u8 v.o0, .int .u8 v.o1, .slice v.va vn v.vc, .slice v.oa on v.oc] 24)).alloc (.cells Z 5)) u3.heap.size 24 [.int .u8 v.ctl, .int .u8 v.scy, .int .u8 v.scx, .int .u8 v.wy, .int .u8 v.wx, .int .u8 v.bgp, .int .u8 v.o0, .int .u8 v.o1, .slice v.va vn v.vc, .slice v.oa on v.oc]) := blk_past (blk_new u3 _ _) _
      have A5 : Hid (Kept u3 ((u3.alloc (.cells #[.int .u8 v.ctl, .int .u8 v.scy, .int .u8 v.scx, .int .u8 v.wy, .int .u8 v.wx, .int .u8 v.bgp, .int .u8 v.o0, .int .u8 v.o1, .slice v.va vn v.vc, .slice v.oa on v.oc] 24)).alloc (.cells Z 5))) := ((Kept.refl u3).alloc _).alloc _
      have XO_5 : Hid (BB ((u3.alloc (.cells #[.int .u8 v.ctl, .int .u8 v.scy, .int .u8 v.scx, .int .u8 v.wy, .int .u8 v.wx, .int .u8 v.bgp, .int .u8 v.o0, .int .u8 v.o1, .slice v.va vn v.vc, .slice v.oa on v.oc] 24)).alloc (.cells Z 5)) (u3.heap.size + 1) (List.replicate 160 0)) := by
        have q := blk_new (u3.alloc (.cells #[.int .u8 v.ctl, .int .u8 v.scy, .int .u8 v.scx, .int .u8 v.wy, .int .u8 v.wx, .int .u8 v.bgp, .int .u8 v.o0, .int .u8 v.o1, .slice v.va vn v.vc, .slice v.oa on v.oc] 24)) ((List.replicate 160 (0 : Int)).map (Value.int .u8)) 5
        rw [World.size_alloc] at q
        show Blk _ _ _ _
        rw [← HZ.out]
        exact q
      have K_5 := hid (K_3.out.trans A5.out)
      have V0_5 := hid (blk_kept A5.out V0_3.out)
      have XA_5 := hid (blk_kept A5.out XA_3.out)
      obtain ⟨d0, d1, d2, d3, d4, d5, d6, d7, d8, d9⟩ := ten18 V0_3.out
      have NV := N5.out
      clear N5
      go_wp2_with ((with_reducible refine at_st 22 ?_); refine wl_store rfl rfl rfl rfl NV (by kernel_rfl) rfl (Nat.le_of_ble_eq_true rfl) (fun u6 p6 => ?_); have XW_6 := hid (show Blk u6 u3.heap.size 24 [.int .u8 v.ctl, .int .u8 v.scy, .int .u8 v.scx, .int .u8 v.wy, .int .u8 v.wx, .int .u8 v.bgp, .int .u8 v.o0, .int .u8 v.o1, .slice v.va vn v.vc, .slice (some ⟨(u3.heap.size + 1), 0, none⟩) 160 160] from p6.blk); have V0_6 := hid (p6.other _ _ _ (by have o := ORD1.out; omega) V0_5.out); have XA_6 := hid (p6.other _ _ _ (by have o := ORD1.out; omega) XA_5.out); have XO_6 := hid (p6.other _ _ _ (by have o := ORD1.out; omega) XO_5.out); have K_6 := hid (p6.kept _ K_5.out (by have o := ORD1.out; omega)); clear p6; refine Hid.out ?_)
      refine hid ?_
      clear NV A5 d0 d1 d2 d3 d4 d5 d6 d7 d8 d9
      clear V0_5 XA_5 XO_5 K_5
      clear V0_3 XA_3 K_3
      obtain ⟨u7, nn, hrun, b7, k7, o7⟩ := copyA18 (g := (u3.heap.size + 1)) XO_6.out (vdIn_kept K_6.out HV.out).os
      rw [HON.out] at hrun
      have XO_7 := hid b7
      have K_7 := hid (k7 _ K_6.out (by have o := ORD1.out; omega))
      have V0_7 := hid (o7 _ _ _ (by have o := ORD1.out; omega) V0_6.out)
      have XA_7 := hid (o7 _ _ _ (by have o := ORD1.out; omega) XA_6.out)
      have XW_7 := hid (o7 _ _ _ (by have o := ORD1.out; omega) XW_6.out)
      have q9 : u6.cell? ⟨u3.heap.size, 9, none⟩ = some (.slice (some ⟨(u3.heap.size + 1), 0, none⟩) 160 160) := blk_cell XW_6.out 9
      have r9 : u6.cell? ⟨w.heap.size, 9, none⟩ = some (.slice v.oa on v.oc) := blk_cell V0_6.out 9
      have r0 : u7.cell? ⟨w.heap.size, 0, none⟩ = some (.int .u8 v.ctl) := blk_cell V0_7.out 0
      clear b7 k7 o7
      clear V0_6 XA_6 XW_6 XO_6 K_6
      have NV := XW_7.out
      clear XW_7
      go_wp2_with ((with_reducible refine at_st 5 ?_); refine wl_store rfl rfl rfl rfl NV (by kernel_rfl) rfl (Nat.le_of_ble_eq_true rfl) (fun u8 p8 => ?_); have XW_8 := hid (show Blk u8 u3.heap.size 24 [.int .u8 (bits .xor .u8 v.ctl 128), .int .u8 v.scy, .int .u8 v.scx, .int .u8 v.wy, .int .u8 v.wx, .int .u8 v.bgp, .int .u8 v.o0, .int .u8 v.o1, .slice v.va vn v.vc, .slice (some ⟨(u3.heap.size + 1), 0, none⟩) 160 160] from p8.blk); have V0_8 := hid (p8.other _ _ _ (by have o := ORD1.out; omega) V0_7.out); have XA_8 := hid (p8.other _ _ _ (by have o := ORD1.out; omega) XA_7.out); have XO_8 := hid (p8.other _ _ _ (by have o := ORD1.out; omega) XO_7.out); have K_8 := hid (p8.kept _ K_7.out (by have o := ORD1.out; omega)); clear p8; refine Hid.out ?_)
      refine hid ?_
      clear NV q9 r9 r0 hrun
      clear V0_7 XA_7 XO_7 K_7
      have S8 : Sl u8 (some ⟨(u3.heap.size + 1), 0, none⟩) 160 (oamL v.oz) := br_sl (rest := []) (show Blk _ _ _ _ by rw [List.append_nil]; exact XO_8.out) (oam_in HV.out.os.row.2.1) (by rw [oam_len]; omega) (by simp [maxLen])
      have LB := hid (pline18 { v with ctl := (bits .xor .u8 v.ctl 128), oa := some ⟨(u3.heap.size + 1), 0, none⟩, oc := 160, oz := (oamL v.oz) } y win u8 (vdIn_oam (vdIn_kept K_8.out HV.out) xb.1 xb.2 S8 (by rw [oam_len]; omega)) y0 y1 w0 w1)
      rw [show vdV { v with ctl := (bits .xor .u8 v.ctl 128), oa := some ⟨(u3.heap.size + 1), 0, none⟩, oc := 160, oz := (oamL v.oz) } = .agg #[.int .u8 (bits .xor .u8 v.ctl 128), .int .u8 v.scy, .int .u8 v.scx, .int .u8 v.wy, .int .u8 v.wx, .int .u8 v.bgp, .int .u8 v.o0, .int .u8 v.o1, .slice v.va vn v.vc, .slice (some ⟨(u3.heap.size + 1), 0, none⟩) 160 160] from vdV_eq _ HVN.out (oam_len v.oz), DW.out _ _, NW.out _ _] at LB
      clear S8
      have zo8 := blk_lt XO_8.out
      obtain ⟨d0, d1, d2, d3, d4, d5, d6, d7, d8, d9⟩ := ten18 XW_8.out
      go_wp2_with fail
      refine LB.out.mono ?_
      rintro e u9 ⟨⟨bb, rfl, z9, x9⟩, k1⟩
      have XB_9 := hid x9
      have K_9 := hid (K_8.out.trans k1)
      have XA_9 := hid (blk_kept k1 XA_8.out)
      have XW_9 := hid (blk_kept k1 XW_8.out)
      have XO_9 := hid (blk_kept k1 XO_8.out)
      have ORD2 : Hid (w.heap.size < ba ∧ ba < u3.heap.size ∧ u3.heap.size + 1 < bb ∧ bb < u9.heap.size) := ⟨ORD1.out.1, ORD1.out.2, by omega, blk_lt XB_9.out⟩
      clear k1 x9 z9 zo8 LB ORD1 d0 d1 d2 d3 d4 d5 d6 d7 d8 d9
      clear XA_8 XW_8 XO_8 K_8 V0_8
      have A11 : Hid (Kept u9 ((u9.alloc (.cells #[.int .u8 (bits .xor .u8 v.ctl 128), .int .u8 v.scy, .int .u8 v.scx, .int .u8 v.wy, .int .u8 v.wx, .int .u8 v.bgp, .int .u8 v.o0, .int .u8 v.o1, .slice v.va vn v.vc, .slice (some ⟨(u3.heap.size + 1), 0, none⟩) 160 160] 24)).alloc (.cells #[] 5))) := ((Kept.refl u9).alloc _).alloc _
      have XU_11 : Hid (Blk ((u9.alloc (.cells #[.int .u8 (bits .xor .u8 v.ctl 128), .int .u8 v.scy, .int .u8 v.scx, .int .u8 v.wy, .int .u8 v.wx, .int .u8 v.bgp, .int .u8 v.o0, .int .u8 v.o1, .slice v.va vn v.vc, .slice (some ⟨(u3.heap.size + 1), 0, none⟩) 160 160] 24)).alloc (.cells #[] 5)) u9.heap.size 24 [.int .u8 (bits .xor .u8 v.ctl 128), .int .u8 v.scy, .int .u8 v.scx, .int .u8 v.wy, .int .u8 v.wx, .int .u8 v.bgp, .int .u8 v.o0, .int .u8 v.o1, .slice v.va vn v.vc, .slice (some ⟨(u3.heap.size + 1), 0, none⟩) 160 160]) := blk_past (blk_new u9 _ _) _
      have E11 : Hid (((u9.alloc (.cells #[.int .u8 (bits .xor .u8 v.ctl 128), .int .u8 v.scy, .int .u8 v.scx, .int .u8 v.wy, .int .u8 v.wx, .int .u8 v.bgp, .int .u8 v.o0, .int .u8 v.o1, .slice v.va vn v.vc, .slice (some ⟨(u3.heap.size + 1), 0, none⟩) 160 160] 24)).alloc (.cells #[] 5)).ownsRow (u9.heap.size + 1) 5 1 (.slice (some ⟨u9.heap.size + 1, 0, none⟩) ([] : List Int).length 0) ([] : List Int).length (([] : List Int).map (Value.int .u8))) := by
        have q := own_empty (u9.alloc (.cells #[.int .u8 (bits .xor .u8 v.ctl 128), .int .u8 v.scy, .int .u8 v.scx, .int .u8 v.wy, .int .u8 v.wx, .int .u8 v.bgp, .int .u8 v.o0, .int .u8 v.o1, .slice v.va vn v.vc, .slice (some ⟨(u3.heap.size + 1), 0, none⟩) 160 160] 24)) (base := u9.heap.size + 1) (by rw [World.size_alloc]; omega)
        rw [World.size_alloc] at q
        exact q
      have S11 : Hid (Sl ((u9.alloc (.cells #[.int .u8 (bits .xor .u8 v.ctl 128), .int .u8 v.scy, .int .u8 v.scx, .int .u8 v.wy, .int .u8 v.wx, .int .u8 v.bgp, .int .u8 v.o0, .int .u8 v.o1, .slice v.va vn v.vc, .slice (some ⟨(u3.heap.size + 1), 0, none⟩) 160 160] 24)).alloc (.cells #[] 5)) (some ⟨(u3.heap.size + 1), 0, none⟩) 160 (oamL v.oz)) := sl_kept A11.out (br_sl (rest := []) (show Blk _ _ _ _ by rw [List.append_nil]; exact XO_9.out) (oam_in HV.out.os.row.2.1) (by rw [oam_len]; omega) (by simp [maxLen]))
      have K_11 := hid (K_9.out.trans A11.out)
      have XA_11 := hid (blk_kept A11.out XA_9.out)
      have XW_11 := hid (blk_kept A11.out XW_9.out)
      have XO_11 := hid (blk_kept A11.out XO_9.out)
      have XB_11 := hid (blk_kept A11.out XB_9.out)
      have z11 : ((u9.alloc (.cells #[.int .u8 (bits .xor .u8 v.ctl 128), .int .u8 v.scy, .int .u8 v.scx, .int .u8 v.wy, .int .u8 v.wx, .int .u8 v.bgp, .int .u8 v.o0, .int .u8 v.o1, .slice v.va vn v.vc, .slice (some ⟨(u3.heap.size + 1), 0, none⟩) 160 160] 24)).alloc (.cells #[] 5)).heap.size = u9.heap.size + 2 := by rw [World.size_alloc, World.size_alloc]
      have Z11 := hid z11
      obtain ⟨d0, d1, d2, d3, d4, d5, d6, d7, d8, d9⟩ := ten18 XW_9.out
      obtain ⟨f0, f1, f2, f3, f4, f5, f6, f7, f8, f9⟩ := ten18 XW_11.out
      clear z11
      go_wp2_with (at_builtin; (refine wl_append (L := []) (z := (oamL v.oz)) E11.out S11.out rfl rfl rfl rfl (oam_len v.oz).symm (by have q := Z11.out; omega) (by rw [oam_len]; simp) (fun v' u12 o12 g12 => ?_); rw [List.nil_append] at o12; have O12 := hid o12; have K_12 := hid (K_11.out.by g12 (fun q hq => by have o := ORD2.out; have e : u9.heap.size + 1 = q := (by simpa [Value.ownBlock] using hq); omega)); have XA_12 := hid (blk_by g12 XA_11.out (by have o := ORD2.out; intro e; have e2 : u9.heap.size + 1 = ba := (by simpa [Value.ownBlock] using e); omega)); have XW_12 := hid (blk_by g12 XW_11.out (by have o := ORD2.out; intro e; have e2 : u9.heap.size + 1 = u3.heap.size := (by simpa [Value.ownBlock] using e); omega)); have XO_12 := hid (blk_by g12 XO_11.out (by have o := ORD2.out; intro e; have e2 : u9.heap.size + 1 = (u3.heap.size + 1) := (by simpa [Value.ownBlock] using e); omega)); have XB_12 := hid (blk_by g12 XB_11.out (by have o := ORD2.out; intro e; have e2 : u9.heap.size + 1 = bb := (by simpa [Value.ownBlock] using e); omega)); have XU_12 := hid (blk_by g12 XU_11.out (by have o := ORD2.out; intro e; have e2 : u9.heap.size + 1 = u9.heap.size := (by simpa [Value.ownBlock] using e); omega)); clear o12 g12; refine Hid.out ?_))
      refine hid ?_
      obtain ⟨g2, cp, rest, e12, hg2, br12, l12, m12⟩ := own_br O12.out (by rw [oam_len]; omega)
      rw [oam_len] at e12 l12
      subst e12
      have XG_12 := hid br12
      have ORD3 : Hid (w.heap.size < ba ∧ ba < u3.heap.size ∧ u3.heap.size + 1 < bb ∧ bb < u9.heap.size ∧ u9.heap.size < g2) := ⟨ORD2.out.1, ORD2.out.2.1, ORD2.out.2.2.1, ORD2.out.2.2.2, by omega⟩
      clear br12 hg2 O12 ORD2 E11 S11 Z11 A11 d0 d1 d2 d3 d4 d5 d6 d7 d8 d9 f0 f1 f2 f3 f4 f5 f6 f7 f8 f9
      clear XA_11 XW_11 XO_11 XB_11 XU_11 K_11
      clear XA_9 XW_9 XO_9 XB_9 K_9
      have NV := XU_12.out
      clear XU_12
      go_wp2_with ((with_reducible refine at_st 22 ?_); refine wl_store rfl rfl rfl rfl NV (by kernel_rfl) rfl (Nat.le_of_ble_eq_true rfl) (fun u13 p13 => ?_); have XU_13 := hid (show Blk u13 u9.heap.size 24 [.int .u8 (bits .xor .u8 v.ctl 128), .int .u8 v.scy, .int .u8 v.scx, .int .u8 v.wy, .int .u8 v.wx, .int .u8 v.bgp, .int .u8 v.o0, .int .u8 v.o1, .slice v.va vn v.vc, .slice (some ⟨g2, 0, none⟩) 160 cp] from p13.blk); have XA_13 := hid (p13.other _ _ _ (by have o := ORD3.out; omega) XA_12.out); have XW_13 := hid (p13.other _ _ _ (by have o := ORD3.out; omega) XW_12.out); have XO_13 := hid (p13.other _ _ _ (by have o := ORD3.out; omega) XO_12.out); have XB_13 := hid (p13.other _ _ _ (by have o := ORD3.out; omega) XB_12.out); have XG_13 := hid (p13.other _ _ _ (by have o := ORD3.out; omega) XG_12.out); have K_13 := hid (p13.kept _ K_12.out (by have o := ORD3.out; omega)); clear p13; refine Hid.out ?_)
      refine hid ?_
      clear NV
      clear XA_12 XW_12 XO_12 XB_12 XG_12 K_12
      have n9 : u13.cell? ⟨u9.heap.size, 9, none⟩ = some (.slice (some ⟨g2, 0, none⟩) 160 cp) := blk_cell XU_13.out 9
      have NV := XG_13.out
      clear XG_13
      go_wp2_with ((with_reducible refine at_st 5 ?_); refine wl_store rfl rfl rfl rfl NV (by kernel_rfl) rfl (by rw [List.length_append, List.length_map, oam_len]; show k + 1 ≤ _; omega) (fun u14 p14 => ?_); have XG_14 := hid (show BR u14 g2 ((oamL v.oz).set k 0) rest by (show Blk _ _ _ _; rw [← br_set (rest := rest) 0 (show k < (oamL v.oz).length by rw [oam_len]; omega)]; exact p14.blk)); have XA_14 := hid (p14.other _ _ _ (by have o := ORD3.out; omega) XA_13.out); have XW_14 := hid (p14.other _ _ _ (by have o := ORD3.out; omega) XW_13.out); have XO_14 := hid (p14.other _ _ _ (by have o := ORD3.out; omega) XO_13.out); have XB_14 := hid (p14.other _ _ _ (by have o := ORD3.out; omega) XB_13.out); have XU_14 := hid (p14.other _ _ _ (by have o := ORD3.out; omega) XU_13.out); have K_14 := hid (p14.kept _ K_13.out (by have o := ORD3.out; omega)); clear p14; refine Hid.out ?_)
      refine hid ?_
      clear NV n9
      clear XA_13 XW_13 XO_13 XB_13 XU_13 K_13
      have m9 : u14.cell? ⟨u3.heap.size, 9, none⟩ = some (.slice (some ⟨(u3.heap.size + 1), 0, none⟩) 160 160) := blk_cell XW_14.out 9
      have mk : u14.cell? ⟨(u3.heap.size + 1), k, none⟩ = some (.int .u8 yk) := by rw [← HYK.out]; exact br_cell (rest := []) (show Blk _ _ _ _ by rw [List.append_nil]; exact XO_14.out) (by rw [oam_len]; omega)
      have mu : u14.cell? ⟨u9.heap.size, 9, none⟩ = some (.slice (some ⟨g2, 0, none⟩) 160 cp) := blk_cell XU_14.out 9
      have NV := XG_14.out
      clear XG_14
      go_wp2_with ((with_reducible refine at_st 5 ?_); refine wl_store rfl rfl rfl rfl NV (by kernel_rfl) rfl (by rw [List.length_append, List.length_map]; simp only [List.length_set, oam_len]; show k1 + 1 ≤ _; omega) (fun u15 p15 => ?_); have XG_15 := hid (show BR u15 g2 (((oamL v.oz).set k 0).set k1 to_) rest by (show Blk _ _ _ _; rw [← br_set (rest := rest) to_ (show k1 < ((oamL v.oz).set k 0).length by simp only [List.length_set, oam_len]; omega)]; exact p15.blk)); have XA_15 := hid (p15.other _ _ _ (by have o := ORD3.out; omega) XA_14.out); have XW_15 := hid (p15.other _ _ _ (by have o := ORD3.out; omega) XW_14.out); have XO_15 := hid (p15.other _ _ _ (by have o := ORD3.out; omega) XO_14.out); have XB_15 := hid (p15.other _ _ _ (by have o := ORD3.out; omega) XB_14.out); have XU_15 := hid (p15.other _ _ _ (by have o := ORD3.out; omega) XU_14.out); have K_15 := hid (p15.kept _ K_14.out (by have o := ORD3.out; omega)); clear p15; refine Hid.out ?_)
      refine hid ?_
      clear NV m9 mk mu
      clear XA_14 XW_14 XO_14 XB_14 XU_14 K_14
      have NV := XG_15.out
      clear XG_15
      have mu : u15.cell? ⟨u9.heap.size, 9, none⟩ = some (.slice (some ⟨g2, 0, none⟩) 160 cp) := blk_cell XU_15.out 9
      go_wp2_with ((with_reducible refine at_st 5 ?_); refine wl_store rfl rfl rfl rfl NV (by kernel_rfl) rfl (by rw [List.length_append, List.length_map]; simp only [List.length_set, oam_len]; show k2 + 1 ≤ _; omega) (fun u16 p16 => ?_); have XG_16 := hid (show BR u16 g2 ((((oamL v.oz).set k 0).set k1 to_).set k2 to_) rest by (show Blk _ _ _ _; rw [← br_set (rest := rest) to_ (show k2 < (((oamL v.oz).set k 0).set k1 to_).length by simp only [List.length_set, oam_len]; omega)]; exact p16.blk)); have XA_16 := hid (p16.other _ _ _ (by have o := ORD3.out; omega) XA_15.out); have XW_16 := hid (p16.other _ _ _ (by have o := ORD3.out; omega) XW_15.out); have XO_16 := hid (p16.other _ _ _ (by have o := ORD3.out; omega) XO_15.out); have XB_16 := hid (p16.other _ _ _ (by have o := ORD3.out; omega) XB_15.out); have XU_16 := hid (p16.other _ _ _ (by have o := ORD3.out; omega) XU_15.out); have K_16 := hid (p16.kept _ K_15.out (by have o := ORD3.out; omega)); clear p16; refine Hid.out ?_)
      refine hid ?_
      clear NV mu
      clear XA_15 XW_15 XO_15 XB_15 XU_15 K_15
      have NV := XG_16.out
      clear XG_16
      have mu : u16.cell? ⟨u9.heap.size, 9, none⟩ = some (.slice (some ⟨g2, 0, none⟩) 160 cp) := blk_cell XU_16.out 9
      go_wp2_with ((with_reducible refine at_st 5 ?_); refine wl_store rfl rfl rfl rfl NV (by kernel_rfl) rfl (by rw [List.length_append, List.length_map]; simp only [List.length_set, oam_len]; show k3 + 1 ≤ _; omega) (fun u17 p17 => ?_); have XG_17 := hid (show BR u17 g2 (((((oamL v.oz).set k 0).set k1 to_).set k2 to_).set k3 to_) rest by (show Blk _ _ _ _; rw [← br_set (rest := rest) to_ (show k3 < ((((oamL v.oz).set k 0).set k1 to_).set k2 to_).length by simp only [List.length_set, oam_len]; omega)]; exact p17.blk)); have XA_17 := hid (p17.other _ _ _ (by have o := ORD3.out; omega) XA_16.out); have XW_17 := hid (p17.other _ _ _ (by have o := ORD3.out; omega) XW_16.out); have XO_17 := hid (p17.other _ _ _ (by have o := ORD3.out; omega) XO_16.out); have XB_17 := hid (p17.other _ _ _ (by have o := ORD3.out; omega) XB_16.out); have XU_17 := hid (p17.other _ _ _ (by have o := ORD3.out; omega) XU_16.out); have K_17 := hid (p17.kept _ K_16.out (by have o := ORD3.out; omega)); clear p17; refine Hid.out ?_)
      refine hid ?_
      clear NV mu
      clear XA_16 XW_16 XO_16 XB_16 XU_16 K_16
      rw [HK1.out, HK2.out, HK3.out] at XG_17
      have XF : Hid (BR u17 g2 (farL (oamL v.oz) k to_) rest) := XG_17
      clear XG_17
      have XG_17 := XF
      clear XF
      have S17 : Sl u17 (some ⟨g2, 0, none⟩) cp (farL (oamL v.oz) k to_) := br_sl XG_17.out (far_in (oam_in HV.out.os.row.2.1) ⟨t0, t1⟩ k) (by rw [far_len, oam_len]; exact l12) m12
      have DU : dotL { v with ctl := (bits .xor .u8 v.ctl 128), oa := some ⟨g2, 0, none⟩, oc := cp, oz := (farL (oamL v.oz) k to_) } y win = dotL v y win := alike_dot (alike_xor v HV.out.c0 HV.out.c1 _ _ _) (objs_alike (alike_xor v HV.out.c0 HV.out.c1 _ _ _) ((show scanL (farL (oamL v.oz) k to_) y _ = scanL v.oz y _ by rw [HK.out, far_scan (oam_len v.oz) (oam_in HV.out.os.row.2.1) hq y0 to_ _ (by rw [← HK.out, HYK.out]; exact FAR.out), oam_scan]))) win
      have LC := hid (pline18 { v with ctl := (bits .xor .u8 v.ctl 128), oa := some ⟨g2, 0, none⟩, oc := cp, oz := (farL (oamL v.oz) k to_) } y win u17 (vdIn_oam (vdIn_kept K_17.out HV.out) xb.1 xb.2 S17 (by rw [far_len, oam_len]; omega)) y0 y1 w0 w1)
      rw [show vdV { v with ctl := (bits .xor .u8 v.ctl 128), oa := some ⟨g2, 0, none⟩, oc := cp, oz := (farL (oamL v.oz) k to_) } = .agg #[.int .u8 (bits .xor .u8 v.ctl 128), .int .u8 v.scy, .int .u8 v.scx, .int .u8 v.wy, .int .u8 v.wx, .int .u8 v.bgp, .int .u8 v.o0, .int .u8 v.o1, .slice v.va vn v.vc, .slice (some ⟨g2, 0, none⟩) 160 cp] from vdV_eq _ HVN.out (by show List.length (farL (oamL v.oz) k to_) = 160; rw [far_len, oam_len]), DU] at LC
      clear S17 DU
      have zg := blk_lt XG_17.out
      obtain ⟨d0, d1, d2, d3, d4, d5, d6, d7, d8, d9⟩ := ten18 XU_17.out
      go_wp2_with fail
      refine LC.out.mono ?_
      rintro e u18 ⟨⟨bc, rfl, z18, x18⟩, k1⟩
      have XC_18 := hid x18
      have K_18 := hid (K_17.out.trans k1)
      have XA_18 := hid (blk_kept k1 XA_17.out)
      have XW_18 := hid (blk_kept k1 XW_17.out)
      have XO_18 := hid (blk_kept k1 XO_17.out)
      have XB_18 := hid (blk_kept k1 XB_17.out)
      have ORD4 : Hid (w.heap.size < ba ∧ ba < u3.heap.size ∧ u3.heap.size + 1 < bb ∧ bb < u9.heap.size ∧ u9.heap.size < g2 ∧ g2 < bc) := ⟨ORD3.out.1, ORD3.out.2.1, ORD3.out.2.2.1, ORD3.out.2.2.2.1, ORD3.out.2.2.2.2, by omega⟩
      clear k1 x18 z18 zg LC ORD3 d0 d1 d2 d3 d4 d5 d6 d7 d8 d9
      clear XA_17 XW_17 XO_17 XB_17 XU_17 XG_17 K_17
      have n0 : u18.cell? ⟨u3.heap.size, 0, none⟩ = some (.int .u8 (bits .xor .u8 v.ctl 128)) := blk_cell XW_18.out 0
      have NV := XW_18.out
      clear XW_18
      go_wp2_with ((with_reducible refine at_st 5 ?_); refine wl_store rfl rfl rfl rfl NV (by kernel_rfl) rfl (Nat.le_of_ble_eq_true rfl) (fun u19 p19 => ?_); have XW_19 := hid (show Blk u19 u3.heap.size 24 [.int .u8 (bits .andNot .u8 (bits .xor .u8 v.ctl 128) 2), .int .u8 v.scy, .int .u8 v.scx, .int .u8 v.wy, .int .u8 v.wx, .int .u8 v.bgp, .int .u8 v.o0, .int .u8 v.o1, .slice v.va vn v.vc, .slice (some ⟨(u3.heap.size + 1), 0, none⟩) 160 160] from p19.blk); have XA_19 := hid (p19.other _ _ _ (by have o := ORD4.out; omega) XA_18.out); have XO_19 := hid (p19.other _ _ _ (by have o := ORD4.out; omega) XO_18.out); have XB_19 := hid (p19.other _ _ _ (by have o := ORD4.out; omega) XB_18.out); have XC_19 := hid (p19.other _ _ _ (by have o := ORD4.out; omega) XC_18.out); have K_19 := hid (p19.kept _ K_18.out (by have o := ORD4.out; omega)); clear p19; refine Hid.out ?_)
      refine hid ?_
      clear NV n0
      clear XA_18 XO_18 XB_18 XC_18 K_18
      have S19 : Sl u19 (some ⟨(u3.heap.size + 1), 0, none⟩) 160 (oamL v.oz) := br_sl (rest := []) (show Blk _ _ _ _ by rw [List.append_nil]; exact XO_19.out) (oam_in HV.out.os.row.2.1) (by rw [oam_len]; omega) (by simp [maxLen])
      have LD := hid (pline18 { v with ctl := (bits .andNot .u8 (bits .xor .u8 v.ctl 128) 2), oa := some ⟨(u3.heap.size + 1), 0, none⟩, oc := 160, oz := (oamL v.oz) } y win u19 (vdIn_oam (vdIn_kept K_19.out HV.out) nb.1 nb.2.1 S19 (by rw [oam_len]; omega)) y0 y1 w0 w1)
      have DD : dotL { v with ctl := (bits .andNot .u8 (bits .xor .u8 v.ctl 128) 2), oa := some ⟨(u3.heap.size + 1), 0, none⟩, oc := 160, oz := (oamL v.oz) } y win = dotL { v with ctl := (bits .andNot .u8 (bits .xor .u8 v.ctl 128) 2), oa := none, oc := 0, oz := [] } y win := alike_dot (v := { v with ctl := (bits .andNot .u8 (bits .xor .u8 v.ctl 128) 2), oa := none, oc := 0, oz := [] }) (v' := { v with ctl := (bits .andNot .u8 (bits .xor .u8 v.ctl 128) 2), oa := some ⟨(u3.heap.size + 1), 0, none⟩, oc := 160, oz := (oamL v.oz) }) ⟨rfl, rfl, rfl, rfl, rfl, rfl, rfl, rfl, rfl, rfl, rfl, rfl, rfl, rfl, rfl⟩ (by rw [objs_none (v := { v with ctl := (bits .andNot .u8 (bits .xor .u8 v.ctl 128) 2), oa := none, oc := 0, oz := [] }) nb.2.2, objs_none (v := { v with ctl := (bits .andNot .u8 (bits .xor .u8 v.ctl 128) 2), oa := some ⟨(u3.heap.size + 1), 0, none⟩, oc := 160, oz := (oamL v.oz) }) nb.2.2]) win
      rw [show vdV { v with ctl := (bits .andNot .u8 (bits .xor .u8 v.ctl 128) 2), oa := some ⟨(u3.heap.size + 1), 0, none⟩, oc := 160, oz := (oamL v.oz) } = .agg #[.int .u8 (bits .andNot .u8 (bits .xor .u8 v.ctl 128) 2), .int .u8 v.scy, .int .u8 v.scx, .int .u8 v.wy, .int .u8 v.wx, .int .u8 v.bgp, .int .u8 v.o0, .int .u8 v.o1, .slice v.va vn v.vc, .slice (some ⟨(u3.heap.size + 1), 0, none⟩) 160 160] from vdV_eq _ HVN.out (oam_len v.oz), DD] at LD
      clear S19 DD
      have zc := blk_lt XC_19.out
      obtain ⟨d0, d1, d2, d3, d4, d5, d6, d7, d8, d9⟩ := ten18 XW_19.out
      go_wp2_with fail
      refine LD.out.mono ?_
      rintro e u20 ⟨⟨bd, rfl, z20, x20⟩, k1⟩
      have XD_20 := hid x20
      have K_20 := hid (K_19.out.trans k1)
      have XA_20 := hid (blk_kept k1 XA_19.out)
      have XW_20 := hid (blk_kept k1 XW_19.out)
      have XB_20 := hid (blk_kept k1 XB_19.out)
      have XC_20 := hid (blk_kept k1 XC_19.out)
      have ORD5 : Hid (w.heap.size < ba ∧ ba < u3.heap.size ∧ u3.heap.size + 1 < bb ∧ bb < u9.heap.size ∧ u9.heap.size < g2 ∧ g2 < bc ∧ bc < bd) := ⟨ORD4.out.1, ORD4.out.2.1, ORD4.out.2.2.1, ORD4.out.2.2.2.1, ORD4.out.2.2.2.2.1, ORD4.out.2.2.2.2.2, by omega⟩
      clear k1 x20 z20 zc LD ORD4 d0 d1 d2 d3 d4 d5 d6 d7 d8 d9
      clear XA_19 XO_19 XW_19 XB_19 XC_19 K_19
      have NV := XW_20.out
      clear XW_20
      go_wp2_with ((with_reducible refine at_st 22 ?_); refine wl_store rfl rfl rfl rfl NV (by kernel_rfl) rfl (Nat.le_of_ble_eq_true rfl) (fun u21 p21 => ?_); have XW_21 := hid (show Blk u21 u3.heap.size 24 [.int .u8 (bits .andNot .u8 (bits .xor .u8 v.ctl 128) 2), .int .u8 v.scy, .int .u8 v.scx, .int .u8 v.wy, .int .u8 v.wx, .int .u8 v.bgp, .int .u8 v.o0, .int .u8 v.o1, .slice v.va vn v.vc, .slice none 0 0] from p21.blk); have XA_21 := hid (p21.other _ _ _ (by have o := ORD5.out; omega) XA_20.out); have XB_21 := hid (p21.other _ _ _ (by have o := ORD5.out; omega) XB_20.out); have XC_21 := hid (p21.other _ _ _ (by have o := ORD5.out; omega) XC_20.out); have XD_21 := hid (p21.other _ _ _ (by have o := ORD5.out; omega) XD_20.out); have K_21 := hid (p21.kept _ K_20.out (by have o := ORD5.out; omega)); clear p21; refine Hid.out ?_)
      refine hid ?_
      clear NV
      clear XA_20 XB_20 XC_20 XD_20 K_20
      have LE := hid (pline18 { v with ctl := (bits .andNot .u8 (bits .xor .u8 v.ctl 128) 2), oa := none, oc := 0, oz := [] } y win u21 (vdIn_oam (vdIn_kept K_21.out HV.out) nb.1 nb.2.1 (sl_nil u21) (by simp)) y0 y1 w0 w1)
      rw [show vdV { v with ctl := (bits .andNot .u8 (bits .xor .u8 v.ctl 128) 2), oa := none, oc := 0, oz := [] } = .agg #[.int .u8 (bits .andNot .u8 (bits .xor .u8 v.ctl 128) 2), .int .u8 v.scy, .int .u8 v.scx, .int .u8 v.wy, .int .u8 v.wx, .int .u8 v.bgp, .int .u8 v.o0, .int .u8 v.o1, .slice v.va vn v.vc, .slice none 0 0] from vdV_eq _ HVN.out rfl] at LE
      obtain ⟨d0, d1, d2, d3, d4, d5, d6, d7, d8, d9⟩ := ten18 XW_21.out
      go_wp2_with fail
      refine LE.out.mono ?_
      rintro e u22 ⟨⟨be, rfl, z22, x22⟩, k1⟩
      have XE_22 := hid x22
      have K_22 := hid (K_21.out.trans k1)
      have XA_22 := hid (blk_kept k1 XA_21.out)
      have XB_22 := hid (blk_kept k1 XB_21.out)
      have XC_22 := hid (blk_kept k1 XC_21.out)
      have XD_22 := hid (blk_kept k1 XD_21.out)
      clear k1 x22 z22 LE d0 d1 d2 d3 d4 d5 d6 d7 d8 d9
      have CA := conv_line18 XA_22.out
      have CB := conv_line18 XB_22.out
      have CC := conv_line18 XC_22.out
      have CD := conv_line18 XD_22.out
      have CE := conv_line18 XE_22.out
      have KE := K_22
      clear XA_21 XB_21 XC_21 XD_21 XW_21 K_21
      clear XA_22 XB_22 XC_22 XD_22 XE_22 K_22
      generalize strB (lineP v y win) = sv at *
      generalize strB (lineP { v with ctl := (bits .andNot .u8 (bits .xor .u8 v.ctl 128) 2), oa := none, oc := 0, oz := [] } y win) = se at *
      go_wp2
      go_ret
      exact ⟨rfl, KE.out⟩
    · by_cases h3 : yk + 16 ≤ y + 16
      · have FAR := hid (show yk = 0 ∨ y + 16 < yk ∨ yk + 16 ≤ y + 16 from .inr (.inr h3))
        go_enter Try.func3, Try.ntmps3
        go_wp2_with fail
        refine (S.out _).mono ?_
        rintro e u2 ⟨rfl, k1⟩
        have K_2 := hid (K_1.out.trans k1)
        have V0_2 := hid (blk_kept k1 V0_1.out)
        clear K_1 V0_1 k1
        have zv2 := blk_lt V0_2.out
        obtain ⟨d0, d1, d2, d3, d4, d5, d6, d7, d8, d9⟩ := ten18 V0_2.out
        go_wp2_with fail
        refine (A.out _ K_2.out).mono ?_
        rintro e u3 ⟨⟨ba, rfl, z3, x3⟩, k1⟩
        have XA_3 := hid x3
        have K_3 := hid (K_2.out.trans k1)
        have V0_3 := hid (blk_kept k1 V0_2.out)
        have ORD1 : Hid (w.heap.size < ba ∧ ba < u3.heap.size) := ⟨by omega, blk_lt XA_3.out⟩
        clear k1 x3 z3 zv2 d0 d1 d2 d3 d4 d5 d6 d7 d8 d9
        clear K_2 V0_2
        have N5 : Hid (Blk ((u3.alloc (.cells #[.int .u8 v.ctl, .int .u8 v.scy, .int .u8 v.scx, .int .u8 v.wy, .int .u8 v.wx, .int .u8 v.bgp, .int .u8 v.o0, .int .u8 v.o1, .slice v.va vn v.vc, .slice v.oa on v.oc] 24)).alloc (.cells Z 5)) u3.heap.size 24 [.int .u8 v.ctl, .int .u8 v.scy, .int .u8 v.scx, .int .u8 v.wy, .int .u8 v.wx, .int .u8 v.bgp, .int .u8 v.o0, .int .u8 v.o1, .slice v.va vn v.vc, .slice v.oa on v.oc]) := blk_past (blk_new u3 _ _) _
        have A5 : Hid (Kept u3 ((u3.alloc (.cells #[.int .u8 v.ctl, .int .u8 v.scy, .int .u8 v.scx, .int .u8 v.wy, .int .u8 v.wx, .int .u8 v.bgp, .int .u8 v.o0, .int .u8 v.o1, .slice v.va vn v.vc, .slice v.oa on v.oc] 24)).alloc (.cells Z 5))) := ((Kept.refl u3).alloc _).alloc _
        have XO_5 : Hid (BB ((u3.alloc (.cells #[.int .u8 v.ctl, .int .u8 v.scy, .int .u8 v.scx, .int .u8 v.wy, .int .u8 v.wx, .int .u8 v.bgp, .int .u8 v.o0, .int .u8 v.o1, .slice v.va vn v.vc, .slice v.oa on v.oc] 24)).alloc (.cells Z 5)) (u3.heap.size + 1) (List.replicate 160 0)) := by
          have q := blk_new (u3.alloc (.cells #[.int .u8 v.ctl, .int .u8 v.scy, .int .u8 v.scx, .int .u8 v.wy, .int .u8 v.wx, .int .u8 v.bgp, .int .u8 v.o0, .int .u8 v.o1, .slice v.va vn v.vc, .slice v.oa on v.oc] 24)) ((List.replicate 160 (0 : Int)).map (Value.int .u8)) 5
          rw [World.size_alloc] at q
          show Blk _ _ _ _
          rw [← HZ.out]
          exact q
        have K_5 := hid (K_3.out.trans A5.out)
        have V0_5 := hid (blk_kept A5.out V0_3.out)
        have XA_5 := hid (blk_kept A5.out XA_3.out)
        obtain ⟨d0, d1, d2, d3, d4, d5, d6, d7, d8, d9⟩ := ten18 V0_3.out
        have NV := N5.out
        clear N5
        go_wp2_with ((with_reducible refine at_st 22 ?_); refine wl_store rfl rfl rfl rfl NV (by kernel_rfl) rfl (Nat.le_of_ble_eq_true rfl) (fun u6 p6 => ?_); have XW_6 := hid (show Blk u6 u3.heap.size 24 [.int .u8 v.ctl, .int .u8 v.scy, .int .u8 v.scx, .int .u8 v.wy, .int .u8 v.wx, .int .u8 v.bgp, .int .u8 v.o0, .int .u8 v.o1, .slice v.va vn v.vc, .slice (some ⟨(u3.heap.size + 1), 0, none⟩) 160 160] from p6.blk); have V0_6 := hid (p6.other _ _ _ (by have o := ORD1.out; omega) V0_5.out); have XA_6 := hid (p6.other _ _ _ (by have o := ORD1.out; omega) XA_5.out); have XO_6 := hid (p6.other _ _ _ (by have o := ORD1.out; omega) XO_5.out); have K_6 := hid (p6.kept _ K_5.out (by have o := ORD1.out; omega)); clear p6; refine Hid.out ?_)
        refine hid ?_
        clear NV A5 d0 d1 d2 d3 d4 d5 d6 d7 d8 d9
        clear V0_5 XA_5 XO_5 K_5
        clear V0_3 XA_3 K_3
        obtain ⟨u7, nn, hrun, b7, k7, o7⟩ := copyA18 (g := (u3.heap.size + 1)) XO_6.out (vdIn_kept K_6.out HV.out).os
        rw [HON.out] at hrun
        have XO_7 := hid b7
        have K_7 := hid (k7 _ K_6.out (by have o := ORD1.out; omega))
        have V0_7 := hid (o7 _ _ _ (by have o := ORD1.out; omega) V0_6.out)
        have XA_7 := hid (o7 _ _ _ (by have o := ORD1.out; omega) XA_6.out)
        have XW_7 := hid (o7 _ _ _ (by have o := ORD1.out; omega) XW_6.out)
        have q9 : u6.cell? ⟨u3.heap.size, 9, none⟩ = some (.slice (some ⟨(u3.heap.size + 1), 0, none⟩) 160 160) := blk_cell XW_6.out 9
        have r9 : u6.cell? ⟨w.heap.size, 9, none⟩ = some (.slice v.oa on v.oc) := blk_cell V0_6.out 9
        have r0 : u7.cell? ⟨w.heap.size, 0, none⟩ = some (.int .u8 v.ctl) := blk_cell V0_7.out 0
        clear b7 k7 o7
        clear V0_6 XA_6 XW_6 XO_6 K_6
        have NV := XW_7.out
        clear XW_7
        go_wp2_with ((with_reducible refine at_st 5 ?_); refine wl_store rfl rfl rfl rfl NV (by kernel_rfl) rfl (Nat.le_of_ble_eq_true rfl) (fun u8 p8 => ?_); have XW_8 := hid (show Blk u8 u3.heap.size 24 [.int .u8 (bits .xor .u8 v.ctl 128), .int .u8 v.scy, .int .u8 v.scx, .int .u8 v.wy, .int .u8 v.wx, .int .u8 v.bgp, .int .u8 v.o0, .int .u8 v.o1, .slice v.va vn v.vc, .slice (some ⟨(u3.heap.size + 1), 0, none⟩) 160 160] from p8.blk); have V0_8 := hid (p8.other _ _ _ (by have o := ORD1.out; omega) V0_7.out); have XA_8 := hid (p8.other _ _ _ (by have o := ORD1.out; omega) XA_7.out); have XO_8 := hid (p8.other _ _ _ (by have o := ORD1.out; omega) XO_7.out); have K_8 := hid (p8.kept _ K_7.out (by have o := ORD1.out; omega)); clear p8; refine Hid.out ?_)
        refine hid ?_
        clear NV q9 r9 r0 hrun
        clear V0_7 XA_7 XO_7 K_7
        have S8 : Sl u8 (some ⟨(u3.heap.size + 1), 0, none⟩) 160 (oamL v.oz) := br_sl (rest := []) (show Blk _ _ _ _ by rw [List.append_nil]; exact XO_8.out) (oam_in HV.out.os.row.2.1) (by rw [oam_len]; omega) (by simp [maxLen])
        have LB := hid (pline18 { v with ctl := (bits .xor .u8 v.ctl 128), oa := some ⟨(u3.heap.size + 1), 0, none⟩, oc := 160, oz := (oamL v.oz) } y win u8 (vdIn_oam (vdIn_kept K_8.out HV.out) xb.1 xb.2 S8 (by rw [oam_len]; omega)) y0 y1 w0 w1)
        rw [show vdV { v with ctl := (bits .xor .u8 v.ctl 128), oa := some ⟨(u3.heap.size + 1), 0, none⟩, oc := 160, oz := (oamL v.oz) } = .agg #[.int .u8 (bits .xor .u8 v.ctl 128), .int .u8 v.scy, .int .u8 v.scx, .int .u8 v.wy, .int .u8 v.wx, .int .u8 v.bgp, .int .u8 v.o0, .int .u8 v.o1, .slice v.va vn v.vc, .slice (some ⟨(u3.heap.size + 1), 0, none⟩) 160 160] from vdV_eq _ HVN.out (oam_len v.oz), DW.out _ _, NW.out _ _] at LB
        clear S8
        have zo8 := blk_lt XO_8.out
        obtain ⟨d0, d1, d2, d3, d4, d5, d6, d7, d8, d9⟩ := ten18 XW_8.out
        go_wp2_with fail
        refine LB.out.mono ?_
        rintro e u9 ⟨⟨bb, rfl, z9, x9⟩, k1⟩
        have XB_9 := hid x9
        have K_9 := hid (K_8.out.trans k1)
        have XA_9 := hid (blk_kept k1 XA_8.out)
        have XW_9 := hid (blk_kept k1 XW_8.out)
        have XO_9 := hid (blk_kept k1 XO_8.out)
        have ORD2 : Hid (w.heap.size < ba ∧ ba < u3.heap.size ∧ u3.heap.size + 1 < bb ∧ bb < u9.heap.size) := ⟨ORD1.out.1, ORD1.out.2, by omega, blk_lt XB_9.out⟩
        clear k1 x9 z9 zo8 LB ORD1 d0 d1 d2 d3 d4 d5 d6 d7 d8 d9
        clear XA_8 XW_8 XO_8 K_8 V0_8
        have A11 : Hid (Kept u9 ((u9.alloc (.cells #[.int .u8 (bits .xor .u8 v.ctl 128), .int .u8 v.scy, .int .u8 v.scx, .int .u8 v.wy, .int .u8 v.wx, .int .u8 v.bgp, .int .u8 v.o0, .int .u8 v.o1, .slice v.va vn v.vc, .slice (some ⟨(u3.heap.size + 1), 0, none⟩) 160 160] 24)).alloc (.cells #[] 5))) := ((Kept.refl u9).alloc _).alloc _
        have XU_11 : Hid (Blk ((u9.alloc (.cells #[.int .u8 (bits .xor .u8 v.ctl 128), .int .u8 v.scy, .int .u8 v.scx, .int .u8 v.wy, .int .u8 v.wx, .int .u8 v.bgp, .int .u8 v.o0, .int .u8 v.o1, .slice v.va vn v.vc, .slice (some ⟨(u3.heap.size + 1), 0, none⟩) 160 160] 24)).alloc (.cells #[] 5)) u9.heap.size 24 [.int .u8 (bits .xor .u8 v.ctl 128), .int .u8 v.scy, .int .u8 v.scx, .int .u8 v.wy, .int .u8 v.wx, .int .u8 v.bgp, .int .u8 v.o0, .int .u8 v.o1, .slice v.va vn v.vc, .slice (some ⟨(u3.heap.size + 1), 0, none⟩) 160 160]) := blk_past (blk_new u9 _ _) _
        have E11 : Hid (((u9.alloc (.cells #[.int .u8 (bits .xor .u8 v.ctl 128), .int .u8 v.scy, .int .u8 v.scx, .int .u8 v.wy, .int .u8 v.wx, .int .u8 v.bgp, .int .u8 v.o0, .int .u8 v.o1, .slice v.va vn v.vc, .slice (some ⟨(u3.heap.size + 1), 0, none⟩) 160 160] 24)).alloc (.cells #[] 5)).ownsRow (u9.heap.size + 1) 5 1 (.slice (some ⟨u9.heap.size + 1, 0, none⟩) ([] : List Int).length 0) ([] : List Int).length (([] : List Int).map (Value.int .u8))) := by
          have q := own_empty (u9.alloc (.cells #[.int .u8 (bits .xor .u8 v.ctl 128), .int .u8 v.scy, .int .u8 v.scx, .int .u8 v.wy, .int .u8 v.wx, .int .u8 v.bgp, .int .u8 v.o0, .int .u8 v.o1, .slice v.va vn v.vc, .slice (some ⟨(u3.heap.size + 1), 0, none⟩) 160 160] 24)) (base := u9.heap.size + 1) (by rw [World.size_alloc]; omega)
          rw [World.size_alloc] at q
          exact q
        have S11 : Hid (Sl ((u9.alloc (.cells #[.int .u8 (bits .xor .u8 v.ctl 128), .int .u8 v.scy, .int .u8 v.scx, .int .u8 v.wy, .int .u8 v.wx, .int .u8 v.bgp, .int .u8 v.o0, .int .u8 v.o1, .slice v.va vn v.vc, .slice (some ⟨(u3.heap.size + 1), 0, none⟩) 160 160] 24)).alloc (.cells #[] 5)) (some ⟨(u3.heap.size + 1), 0, none⟩) 160 (oamL v.oz)) := sl_kept A11.out (br_sl (rest := []) (show Blk _ _ _ _ by rw [List.append_nil]; exact XO_9.out) (oam_in HV.out.os.row.2.1) (by rw [oam_len]; omega) (by simp [maxLen]))
        have K_11 := hid (K_9.out.trans A11.out)
        have XA_11 := hid (blk_kept A11.out XA_9.out)
        have XW_11 := hid (blk_kept A11.out XW_9.out)
        have XO_11 := hid (blk_kept A11.out XO_9.out)
        have XB_11 := hid (blk_kept A11.out XB_9.out)
        have z11 : ((u9.alloc (.cells #[.int .u8 (bits .xor .u8 v.ctl 128), .int .u8 v.scy, .int .u8 v.scx, .int .u8 v.wy, .int .u8 v.wx, .int .u8 v.bgp, .int .u8 v.o0, .int .u8 v.o1, .slice v.va vn v.vc, .slice (some ⟨(u3.heap.size + 1), 0, none⟩) 160 160] 24)).alloc (.cells #[] 5)).heap.size = u9.heap.size + 2 := by rw [World.size_alloc, World.size_alloc]
        have Z11 := hid z11
        obtain ⟨d0, d1, d2, d3, d4, d5, d6, d7, d8, d9⟩ := ten18 XW_9.out
        obtain ⟨f0, f1, f2, f3, f4, f5, f6, f7, f8, f9⟩ := ten18 XW_11.out
        clear z11
        go_wp2_with (at_builtin; (refine wl_append (L := []) (z := (oamL v.oz)) E11.out S11.out rfl rfl rfl rfl (oam_len v.oz).symm (by have q := Z11.out; omega) (by rw [oam_len]; simp) (fun v' u12 o12 g12 => ?_); rw [List.nil_append] at o12; have O12 := hid o12; have K_12 := hid (K_11.out.by g12 (fun q hq => by have o := ORD2.out; have e : u9.heap.size + 1 = q := (by simpa [Value.ownBlock] using hq); omega)); have XA_12 := hid (blk_by g12 XA_11.out (by have o := ORD2.out; intro e; have e2 : u9.heap.size + 1 = ba := (by simpa [Value.ownBlock] using e); omega)); have XW_12 := hid (blk_by g12 XW_11.out (by have o := ORD2.out; intro e; have e2 : u9.heap.size + 1 = u3.heap.size := (by simpa [Value.ownBlock] using e); omega)); have XO_12 := hid (blk_by g12 XO_11.out (by have o := ORD2.out; intro e; have e2 : u9.heap.size + 1 = (u3.heap.size + 1) := (by simpa [Value.ownBlock] using e); omega)); have XB_12 := hid (blk_by g12 XB_11.out (by have o := ORD2.out; intro e; have e2 : u9.heap.size + 1 = bb := (by simpa [Value.ownBlock] using e); omega)); have XU_12 := hid (blk_by g12 XU_11.out (by have o := ORD2.out; intro e; have e2 : u9.heap.size + 1 = u9.heap.size := (by simpa [Value.ownBlock] using e); omega)); clear o12 g12; refine Hid.out ?_))
        refine hid ?_
        obtain ⟨g2, cp, rest, e12, hg2, br12, l12, m12⟩ := own_br O12.out (by rw [oam_len]; omega)
        rw [oam_len] at e12 l12
        subst e12
        have XG_12 := hid br12
        have ORD3 : Hid (w.heap.size < ba ∧ ba < u3.heap.size ∧ u3.heap.size + 1 < bb ∧ bb < u9.heap.size ∧ u9.heap.size < g2) := ⟨ORD2.out.1, ORD2.out.2.1, ORD2.out.2.2.1, ORD2.out.2.2.2, by omega⟩
        clear br12 hg2 O12 ORD2 E11 S11 Z11 A11 d0 d1 d2 d3 d4 d5 d6 d7 d8 d9 f0 f1 f2 f3 f4 f5 f6 f7 f8 f9
        clear XA_11 XW_11 XO_11 XB_11 XU_11 K_11
        clear XA_9 XW_9 XO_9 XB_9 K_9
        have NV := XU_12.out
        clear XU_12
        go_wp2_with ((with_reducible refine at_st 22 ?_); refine wl_store rfl rfl rfl rfl NV (by kernel_rfl) rfl (Nat.le_of_ble_eq_true rfl) (fun u13 p13 => ?_); have XU_13 := hid (show Blk u13 u9.heap.size 24 [.int .u8 (bits .xor .u8 v.ctl 128), .int .u8 v.scy, .int .u8 v.scx, .int .u8 v.wy, .int .u8 v.wx, .int .u8 v.bgp, .int .u8 v.o0, .int .u8 v.o1, .slice v.va vn v.vc, .slice (some ⟨g2, 0, none⟩) 160 cp] from p13.blk); have XA_13 := hid (p13.other _ _ _ (by have o := ORD3.out; omega) XA_12.out); have XW_13 := hid (p13.other _ _ _ (by have o := ORD3.out; omega) XW_12.out); have XO_13 := hid (p13.other _ _ _ (by have o := ORD3.out; omega) XO_12.out); have XB_13 := hid (p13.other _ _ _ (by have o := ORD3.out; omega) XB_12.out); have XG_13 := hid (p13.other _ _ _ (by have o := ORD3.out; omega) XG_12.out); have K_13 := hid (p13.kept _ K_12.out (by have o := ORD3.out; omega)); clear p13; refine Hid.out ?_)
        refine hid ?_
        clear NV
        clear XA_12 XW_12 XO_12 XB_12 XG_12 K_12
        have n9 : u13.cell? ⟨u9.heap.size, 9, none⟩ = some (.slice (some ⟨g2, 0, none⟩) 160 cp) := blk_cell XU_13.out 9
        have NV := XG_13.out
        clear XG_13
        go_wp2_with ((with_reducible refine at_st 5 ?_); refine wl_store rfl rfl rfl rfl NV (by kernel_rfl) rfl (by rw [List.length_append, List.length_map, oam_len]; show k + 1 ≤ _; omega) (fun u14 p14 => ?_); have XG_14 := hid (show BR u14 g2 ((oamL v.oz).set k 0) rest by (show Blk _ _ _ _; rw [← br_set (rest := rest) 0 (show k < (oamL v.oz).length by rw [oam_len]; omega)]; exact p14.blk)); have XA_14 := hid (p14.other _ _ _ (by have o := ORD3.out; omega) XA_13.out); have XW_14 := hid (p14.other _ _ _ (by have o := ORD3.out; omega) XW_13.out); have XO_14 := hid (p14.other _ _ _ (by have o := ORD3.out; omega) XO_13.out); have XB_14 := hid (p14.other _ _ _ (by have o := ORD3.out; omega) XB_13.out); have XU_14 := hid (p14.other _ _ _ (by have o := ORD3.out; omega) XU_13.out); have K_14 := hid (p14.kept _ K_13.out (by have o := ORD3.out; omega)); clear p14; refine Hid.out ?_)
        refine hid ?_
        clear NV n9
        clear XA_13 XW_13 XO_13 XB_13 XU_13 K_13
        have m9 : u14.cell? ⟨u3.heap.size, 9, none⟩ = some (.slice (some ⟨(u3.heap.size + 1), 0, none⟩) 160 160) := blk_cell XW_14.out 9
        have mk : u14.cell? ⟨(u3.heap.size + 1), k, none⟩ = some (.int .u8 yk) := by rw [← HYK.out]; exact br_cell (rest := []) (show Blk _ _ _ _ by rw [List.append_nil]; exact XO_14.out) (by rw [oam_len]; omega)
        have mu : u14.cell? ⟨u9.heap.size, 9, none⟩ = some (.slice (some ⟨g2, 0, none⟩) 160 cp) := blk_cell XU_14.out 9
        have NV := XG_14.out
        clear XG_14
        go_wp2_with ((with_reducible refine at_st 5 ?_); refine wl_store rfl rfl rfl rfl NV (by kernel_rfl) rfl (by rw [List.length_append, List.length_map]; simp only [List.length_set, oam_len]; show k1 + 1 ≤ _; omega) (fun u15 p15 => ?_); have XG_15 := hid (show BR u15 g2 (((oamL v.oz).set k 0).set k1 to_) rest by (show Blk _ _ _ _; rw [← br_set (rest := rest) to_ (show k1 < ((oamL v.oz).set k 0).length by simp only [List.length_set, oam_len]; omega)]; exact p15.blk)); have XA_15 := hid (p15.other _ _ _ (by have o := ORD3.out; omega) XA_14.out); have XW_15 := hid (p15.other _ _ _ (by have o := ORD3.out; omega) XW_14.out); have XO_15 := hid (p15.other _ _ _ (by have o := ORD3.out; omega) XO_14.out); have XB_15 := hid (p15.other _ _ _ (by have o := ORD3.out; omega) XB_14.out); have XU_15 := hid (p15.other _ _ _ (by have o := ORD3.out; omega) XU_14.out); have K_15 := hid (p15.kept _ K_14.out (by have o := ORD3.out; omega)); clear p15; refine Hid.out ?_)
        refine hid ?_
        clear NV m9 mk mu
        clear XA_14 XW_14 XO_14 XB_14 XU_14 K_14
        have NV := XG_15.out
        clear XG_15
        have mu : u15.cell? ⟨u9.heap.size, 9, none⟩ = some (.slice (some ⟨g2, 0, none⟩) 160 cp) := blk_cell XU_15.out 9
        go_wp2_with ((with_reducible refine at_st 5 ?_); refine wl_store rfl rfl rfl rfl NV (by kernel_rfl) rfl (by rw [List.length_append, List.length_map]; simp only [List.length_set, oam_len]; show k2 + 1 ≤ _; omega) (fun u16 p16 => ?_); have XG_16 := hid (show BR u16 g2 ((((oamL v.oz).set k 0).set k1 to_).set k2 to_) rest by (show Blk _ _ _ _; rw [← br_set (rest := rest) to_ (show k2 < (((oamL v.oz).set k 0).set k1 to_).length by simp only [List.length_set, oam_len]; omega)]; exact p16.blk)); have XA_16 := hid (p16.other _ _ _ (by have o := ORD3.out; omega) XA_15.out); have XW_16 := hid (p16.other _ _ _ (by have o := ORD3.out; omega) XW_15.out); have XO_16 := hid (p16.other _ _ _ (by have o := ORD3.out; omega) XO_15.out); have XB_16 := hid (p16.other _ _ _ (by have o := ORD3.out; omega) XB_15.out); have XU_16 := hid (p16.other _ _ _ (by have o := ORD3.out; omega) XU_15.out); have K_16 := hid (p16.kept _ K_15.out (by have o := ORD3.out; omega)); clear p16; refine Hid.out ?_)
        refine hid ?_
        clear NV mu
        clear XA_15 XW_15 XO_15 XB_15 XU_15 K_15
        have NV := XG_16.out
        clear XG_16
        have mu : u16.cell? ⟨u9.heap.size, 9, none⟩ = some (.slice (some ⟨g2, 0, none⟩) 160 cp) := blk_cell XU_16.out 9
        go_wp2_with ((with_reducible refine at_st 5 ?_); refine wl_store rfl rfl rfl rfl NV (by kernel_rfl) rfl (by rw [List.length_append, List.length_map]; simp only [List.length_set, oam_len]; show k3 + 1 ≤ _; omega) (fun u17 p17 => ?_); have XG_17 := hid (show BR u17 g2 (((((oamL v.oz).set k 0).set k1 to_).set k2 to_).set k3 to_) rest by (show Blk _ _ _ _; rw [← br_set (rest := rest) to_ (show k3 < ((((oamL v.oz).set k 0).set k1 to_).set k2 to_).length by simp only [List.length_set, oam_len]; omega)]; exact p17.blk)); have XA_17 := hid (p17.other _ _ _ (by have o := ORD3.out; omega) XA_16.out); have XW_17 := hid (p17.other _ _ _ (by have o := ORD3.out; omega) XW_16.out); have XO_17 := hid (p17.other _ _ _ (by have o := ORD3.out; omega) XO_16.out); have XB_17 := hid (p17.other _ _ _ (by have o := ORD3.out; omega) XB_16.out); have XU_17 := hid (p17.other _ _ _ (by have o := ORD3.out; omega) XU_16.out); have K_17 := hid (p17.kept _ K_16.out (by have o := ORD3.out; omega)); clear p17; refine Hid.out ?_)
        refine hid ?_
        clear NV mu
        clear XA_16 XW_16 XO_16 XB_16 XU_16 K_16
        rw [HK1.out, HK2.out, HK3.out] at XG_17
        have XF : Hid (BR u17 g2 (farL (oamL v.oz) k to_) rest) := XG_17
        clear XG_17
        have XG_17 := XF
        clear XF
        have S17 : Sl u17 (some ⟨g2, 0, none⟩) cp (farL (oamL v.oz) k to_) := br_sl XG_17.out (far_in (oam_in HV.out.os.row.2.1) ⟨t0, t1⟩ k) (by rw [far_len, oam_len]; exact l12) m12
        have DU : dotL { v with ctl := (bits .xor .u8 v.ctl 128), oa := some ⟨g2, 0, none⟩, oc := cp, oz := (farL (oamL v.oz) k to_) } y win = dotL v y win := alike_dot (alike_xor v HV.out.c0 HV.out.c1 _ _ _) (objs_alike (alike_xor v HV.out.c0 HV.out.c1 _ _ _) ((show scanL (farL (oamL v.oz) k to_) y _ = scanL v.oz y _ by rw [HK.out, far_scan (oam_len v.oz) (oam_in HV.out.os.row.2.1) hq y0 to_ _ (by rw [← HK.out, HYK.out]; exact FAR.out), oam_scan]))) win
        have LC := hid (pline18 { v with ctl := (bits .xor .u8 v.ctl 128), oa := some ⟨g2, 0, none⟩, oc := cp, oz := (farL (oamL v.oz) k to_) } y win u17 (vdIn_oam (vdIn_kept K_17.out HV.out) xb.1 xb.2 S17 (by rw [far_len, oam_len]; omega)) y0 y1 w0 w1)
        rw [show vdV { v with ctl := (bits .xor .u8 v.ctl 128), oa := some ⟨g2, 0, none⟩, oc := cp, oz := (farL (oamL v.oz) k to_) } = .agg #[.int .u8 (bits .xor .u8 v.ctl 128), .int .u8 v.scy, .int .u8 v.scx, .int .u8 v.wy, .int .u8 v.wx, .int .u8 v.bgp, .int .u8 v.o0, .int .u8 v.o1, .slice v.va vn v.vc, .slice (some ⟨g2, 0, none⟩) 160 cp] from vdV_eq _ HVN.out (by show List.length (farL (oamL v.oz) k to_) = 160; rw [far_len, oam_len]), DU] at LC
        clear S17 DU
        have zg := blk_lt XG_17.out
        obtain ⟨d0, d1, d2, d3, d4, d5, d6, d7, d8, d9⟩ := ten18 XU_17.out
        go_wp2_with fail
        refine LC.out.mono ?_
        rintro e u18 ⟨⟨bc, rfl, z18, x18⟩, k1⟩
        have XC_18 := hid x18
        have K_18 := hid (K_17.out.trans k1)
        have XA_18 := hid (blk_kept k1 XA_17.out)
        have XW_18 := hid (blk_kept k1 XW_17.out)
        have XO_18 := hid (blk_kept k1 XO_17.out)
        have XB_18 := hid (blk_kept k1 XB_17.out)
        have ORD4 : Hid (w.heap.size < ba ∧ ba < u3.heap.size ∧ u3.heap.size + 1 < bb ∧ bb < u9.heap.size ∧ u9.heap.size < g2 ∧ g2 < bc) := ⟨ORD3.out.1, ORD3.out.2.1, ORD3.out.2.2.1, ORD3.out.2.2.2.1, ORD3.out.2.2.2.2, by omega⟩
        clear k1 x18 z18 zg LC ORD3 d0 d1 d2 d3 d4 d5 d6 d7 d8 d9
        clear XA_17 XW_17 XO_17 XB_17 XU_17 XG_17 K_17
        have n0 : u18.cell? ⟨u3.heap.size, 0, none⟩ = some (.int .u8 (bits .xor .u8 v.ctl 128)) := blk_cell XW_18.out 0
        have NV := XW_18.out
        clear XW_18
        go_wp2_with ((with_reducible refine at_st 5 ?_); refine wl_store rfl rfl rfl rfl NV (by kernel_rfl) rfl (Nat.le_of_ble_eq_true rfl) (fun u19 p19 => ?_); have XW_19 := hid (show Blk u19 u3.heap.size 24 [.int .u8 (bits .andNot .u8 (bits .xor .u8 v.ctl 128) 2), .int .u8 v.scy, .int .u8 v.scx, .int .u8 v.wy, .int .u8 v.wx, .int .u8 v.bgp, .int .u8 v.o0, .int .u8 v.o1, .slice v.va vn v.vc, .slice (some ⟨(u3.heap.size + 1), 0, none⟩) 160 160] from p19.blk); have XA_19 := hid (p19.other _ _ _ (by have o := ORD4.out; omega) XA_18.out); have XO_19 := hid (p19.other _ _ _ (by have o := ORD4.out; omega) XO_18.out); have XB_19 := hid (p19.other _ _ _ (by have o := ORD4.out; omega) XB_18.out); have XC_19 := hid (p19.other _ _ _ (by have o := ORD4.out; omega) XC_18.out); have K_19 := hid (p19.kept _ K_18.out (by have o := ORD4.out; omega)); clear p19; refine Hid.out ?_)
        refine hid ?_
        clear NV n0
        clear XA_18 XO_18 XB_18 XC_18 K_18
        have S19 : Sl u19 (some ⟨(u3.heap.size + 1), 0, none⟩) 160 (oamL v.oz) := br_sl (rest := []) (show Blk _ _ _ _ by rw [List.append_nil]; exact XO_19.out) (oam_in HV.out.os.row.2.1) (by rw [oam_len]; omega) (by simp [maxLen])
        have LD := hid (pline18 { v with ctl := (bits .andNot .u8 (bits .xor .u8 v.ctl 128) 2), oa := some ⟨(u3.heap.size + 1), 0, none⟩, oc := 160, oz := (oamL v.oz) } y win u19 (vdIn_oam (vdIn_kept K_19.out HV.out) nb.1 nb.2.1 S19 (by rw [oam_len]; omega)) y0 y1 w0 w1)
        have DD : dotL { v with ctl := (bits .andNot .u8 (bits .xor .u8 v.ctl 128) 2), oa := some ⟨(u3.heap.size + 1), 0, none⟩, oc := 160, oz := (oamL v.oz) } y win = dotL { v with ctl := (bits .andNot .u8 (bits .xor .u8 v.ctl 128) 2), oa := none, oc := 0, oz := [] } y win := alike_dot (v := { v with ctl := (bits .andNot .u8 (bits .xor .u8 v.ctl 128) 2), oa := none, oc := 0, oz := [] }) (v' := { v with ctl := (bits .andNot .u8 (bits .xor .u8 v.ctl 128) 2), oa := some ⟨(u3.heap.size + 1), 0, none⟩, oc := 160, oz := (oamL v.oz) }) ⟨rfl, rfl, rfl, rfl, rfl, rfl, rfl, rfl, rfl, rfl, rfl, rfl, rfl, rfl, rfl⟩ (by rw [objs_none (v := { v with ctl := (bits .andNot .u8 (bits .xor .u8 v.ctl 128) 2), oa := none, oc := 0, oz := [] }) nb.2.2, objs_none (v := { v with ctl := (bits .andNot .u8 (bits .xor .u8 v.ctl 128) 2), oa := some ⟨(u3.heap.size + 1), 0, none⟩, oc := 160, oz := (oamL v.oz) }) nb.2.2]) win
        rw [show vdV { v with ctl := (bits .andNot .u8 (bits .xor .u8 v.ctl 128) 2), oa := some ⟨(u3.heap.size + 1), 0, none⟩, oc := 160, oz := (oamL v.oz) } = .agg #[.int .u8 (bits .andNot .u8 (bits .xor .u8 v.ctl 128) 2), .int .u8 v.scy, .int .u8 v.scx, .int .u8 v.wy, .int .u8 v.wx, .int .u8 v.bgp, .int .u8 v.o0, .int .u8 v.o1, .slice v.va vn v.vc, .slice (some ⟨(u3.heap.size + 1), 0, none⟩) 160 160] from vdV_eq _ HVN.out (oam_len v.oz), DD] at LD
        clear S19 DD
        have zc := blk_lt XC_19.out
        obtain ⟨d0, d1, d2, d3, d4, d5, d6, d7, d8, d9⟩ := ten18 XW_19.out
        go_wp2_with fail
        refine LD.out.mono ?_
        rintro e u20 ⟨⟨bd, rfl, z20, x20⟩, k1⟩
        have XD_20 := hid x20
        have K_20 := hid (K_19.out.trans k1)
        have XA_20 := hid (blk_kept k1 XA_19.out)
        have XW_20 := hid (blk_kept k1 XW_19.out)
        have XB_20 := hid (blk_kept k1 XB_19.out)
        have XC_20 := hid (blk_kept k1 XC_19.out)
        have ORD5 : Hid (w.heap.size < ba ∧ ba < u3.heap.size ∧ u3.heap.size + 1 < bb ∧ bb < u9.heap.size ∧ u9.heap.size < g2 ∧ g2 < bc ∧ bc < bd) := ⟨ORD4.out.1, ORD4.out.2.1, ORD4.out.2.2.1, ORD4.out.2.2.2.1, ORD4.out.2.2.2.2.1, ORD4.out.2.2.2.2.2, by omega⟩
        clear k1 x20 z20 zc LD ORD4 d0 d1 d2 d3 d4 d5 d6 d7 d8 d9
        clear XA_19 XO_19 XW_19 XB_19 XC_19 K_19
        have NV := XW_20.out
        clear XW_20
        go_wp2_with ((with_reducible refine at_st 22 ?_); refine wl_store rfl rfl rfl rfl NV (by kernel_rfl) rfl (Nat.le_of_ble_eq_true rfl) (fun u21 p21 => ?_); have XW_21 := hid (show Blk u21 u3.heap.size 24 [.int .u8 (bits .andNot .u8 (bits .xor .u8 v.ctl 128) 2), .int .u8 v.scy, .int .u8 v.scx, .int .u8 v.wy, .int .u8 v.wx, .int .u8 v.bgp, .int .u8 v.o0, .int .u8 v.o1, .slice v.va vn v.vc, .slice none 0 0] from p21.blk); have XA_21 := hid (p21.other _ _ _ (by have o := ORD5.out; omega) XA_20.out); have XB_21 := hid (p21.other _ _ _ (by have o := ORD5.out; omega) XB_20.out); have XC_21 := hid (p21.other _ _ _ (by have o := ORD5.out; omega) XC_20.out); have XD_21 := hid (p21.other _ _ _ (by have o := ORD5.out; omega) XD_20.out); have K_21 := hid (p21.kept _ K_20.out (by have o := ORD5.out; omega)); clear p21; refine Hid.out ?_)
        refine hid ?_
        clear NV
        clear XA_20 XB_20 XC_20 XD_20 K_20
        have LE := hid (pline18 { v with ctl := (bits .andNot .u8 (bits .xor .u8 v.ctl 128) 2), oa := none, oc := 0, oz := [] } y win u21 (vdIn_oam (vdIn_kept K_21.out HV.out) nb.1 nb.2.1 (sl_nil u21) (by simp)) y0 y1 w0 w1)
        rw [show vdV { v with ctl := (bits .andNot .u8 (bits .xor .u8 v.ctl 128) 2), oa := none, oc := 0, oz := [] } = .agg #[.int .u8 (bits .andNot .u8 (bits .xor .u8 v.ctl 128) 2), .int .u8 v.scy, .int .u8 v.scx, .int .u8 v.wy, .int .u8 v.wx, .int .u8 v.bgp, .int .u8 v.o0, .int .u8 v.o1, .slice v.va vn v.vc, .slice none 0 0] from vdV_eq _ HVN.out rfl] at LE
        obtain ⟨d0, d1, d2, d3, d4, d5, d6, d7, d8, d9⟩ := ten18 XW_21.out
        go_wp2_with fail
        refine LE.out.mono ?_
        rintro e u22 ⟨⟨be, rfl, z22, x22⟩, k1⟩
        have XE_22 := hid x22
        have K_22 := hid (K_21.out.trans k1)
        have XA_22 := hid (blk_kept k1 XA_21.out)
        have XB_22 := hid (blk_kept k1 XB_21.out)
        have XC_22 := hid (blk_kept k1 XC_21.out)
        have XD_22 := hid (blk_kept k1 XD_21.out)
        clear k1 x22 z22 LE d0 d1 d2 d3 d4 d5 d6 d7 d8 d9
        have CA := conv_line18 XA_22.out
        have CB := conv_line18 XB_22.out
        have CC := conv_line18 XC_22.out
        have CD := conv_line18 XD_22.out
        have CE := conv_line18 XE_22.out
        have KE := K_22
        clear XA_21 XB_21 XC_21 XD_21 XW_21 K_21
        clear XA_22 XB_22 XC_22 XD_22 XE_22 K_22
        generalize strB (lineP v y win) = sv at *
        generalize strB (lineP { v with ctl := (bits .andNot .u8 (bits .xor .u8 v.ctl 128) 2), oa := none, oc := 0, oz := [] } y win) = se at *
        go_wp2
        go_ret
        exact ⟨rfl, KE.out⟩
      · have h4 : ¬ yk ≤ y := by omega
        go_enter Try.func3, Try.ntmps3
        go_wp2_with fail
        refine (S.out _).mono ?_
        rintro e u2 ⟨rfl, k1⟩
        have K_2 := hid (K_1.out.trans k1)
        have V0_2 := hid (blk_kept k1 V0_1.out)
        clear K_1 V0_1 k1
        have zv2 := blk_lt V0_2.out
        obtain ⟨d0, d1, d2, d3, d4, d5, d6, d7, d8, d9⟩ := ten18 V0_2.out
        go_wp2_with fail
        refine (A.out _ K_2.out).mono ?_
        rintro e u3 ⟨⟨ba, rfl, z3, x3⟩, k1⟩
        have XA_3 := hid x3
        have K_3 := hid (K_2.out.trans k1)
        have V0_3 := hid (blk_kept k1 V0_2.out)
        have ORD1 : Hid (w.heap.size < ba ∧ ba < u3.heap.size) := ⟨by omega, blk_lt XA_3.out⟩
        clear k1 x3 z3 zv2 d0 d1 d2 d3 d4 d5 d6 d7 d8 d9
        clear K_2 V0_2
        have N5 : Hid (Blk ((u3.alloc (.cells #[.int .u8 v.ctl, .int .u8 v.scy, .int .u8 v.scx, .int .u8 v.wy, .int .u8 v.wx, .int .u8 v.bgp, .int .u8 v.o0, .int .u8 v.o1, .slice v.va vn v.vc, .slice v.oa on v.oc] 24)).alloc (.cells Z 5)) u3.heap.size 24 [.int .u8 v.ctl, .int .u8 v.scy, .int .u8 v.scx, .int .u8 v.wy, .int .u8 v.wx, .int .u8 v.bgp, .int .u8 v.o0, .int .u8 v.o1, .slice v.va vn v.vc, .slice v.oa on v.oc]) := blk_past (blk_new u3 _ _) _
        have A5 : Hid (Kept u3 ((u3.alloc (.cells #[.int .u8 v.ctl, .int .u8 v.scy, .int .u8 v.scx, .int .u8 v.wy, .int .u8 v.wx, .int .u8 v.bgp, .int .u8 v.o0, .int .u8 v.o1, .slice v.va vn v.vc, .slice v.oa on v.oc] 24)).alloc (.cells Z 5))) := ((Kept.refl u3).alloc _).alloc _
        have XO_5 : Hid (BB ((u3.alloc (.cells #[.int .u8 v.ctl, .int .u8 v.scy, .int .u8 v.scx, .int .u8 v.wy, .int .u8 v.wx, .int .u8 v.bgp, .int .u8 v.o0, .int .u8 v.o1, .slice v.va vn v.vc, .slice v.oa on v.oc] 24)).alloc (.cells Z 5)) (u3.heap.size + 1) (List.replicate 160 0)) := by
          have q := blk_new (u3.alloc (.cells #[.int .u8 v.ctl, .int .u8 v.scy, .int .u8 v.scx, .int .u8 v.wy, .int .u8 v.wx, .int .u8 v.bgp, .int .u8 v.o0, .int .u8 v.o1, .slice v.va vn v.vc, .slice v.oa on v.oc] 24)) ((List.replicate 160 (0 : Int)).map (Value.int .u8)) 5
          rw [World.size_alloc] at q
          show Blk _ _ _ _
          rw [← HZ.out]
          exact q
        have K_5 := hid (K_3.out.trans A5.out)
        have V0_5 := hid (blk_kept A5.out V0_3.out)
        have XA_5 := hid (blk_kept A5.out XA_3.out)
        obtain ⟨d0, d1, d2, d3, d4, d5, d6, d7, d8, d9⟩ := ten18 V0_3.out
        have NV := N5.out
        clear N5
        go_wp2_with ((with_reducible refine at_st 22 ?_); refine wl_store rfl rfl rfl rfl NV (by kernel_rfl) rfl (Nat.le_of_ble_eq_true rfl) (fun u6 p6 => ?_); have XW_6 := hid (show Blk u6 u3.heap.size 24 [.int .u8 v.ctl, .int .u8 v.scy, .int .u8 v.scx, .int .u8 v.wy, .int .u8 v.wx, .int .u8 v.bgp, .int .u8 v.o0, .int .u8 v.o1, .slice v.va vn v.vc, .slice (some ⟨(u3.heap.size + 1), 0, none⟩) 160 160] from p6.blk); have V0_6 := hid (p6.other _ _ _ (by have o := ORD1.out; omega) V0_5.out); have XA_6 := hid (p6.other _ _ _ (by have o := ORD1.out; omega) XA_5.out); have XO_6 := hid (p6.other _ _ _ (by have o := ORD1.out; omega) XO_5.out); have K_6 := hid (p6.kept _ K_5.out (by have o := ORD1.out; omega)); clear p6; refine Hid.out ?_)
        refine hid ?_
        clear NV A5 d0 d1 d2 d3 d4 d5 d6 d7 d8 d9
        clear V0_5 XA_5 XO_5 K_5
        clear V0_3 XA_3 K_3
        obtain ⟨u7, nn, hrun, b7, k7, o7⟩ := copyA18 (g := (u3.heap.size + 1)) XO_6.out (vdIn_kept K_6.out HV.out).os
        rw [HON.out] at hrun
        have XO_7 := hid b7
        have K_7 := hid (k7 _ K_6.out (by have o := ORD1.out; omega))
        have V0_7 := hid (o7 _ _ _ (by have o := ORD1.out; omega) V0_6.out)
        have XA_7 := hid (o7 _ _ _ (by have o := ORD1.out; omega) XA_6.out)
        have XW_7 := hid (o7 _ _ _ (by have o := ORD1.out; omega) XW_6.out)
        have q9 : u6.cell? ⟨u3.heap.size, 9, none⟩ = some (.slice (some ⟨(u3.heap.size + 1), 0, none⟩) 160 160) := blk_cell XW_6.out 9
        have r9 : u6.cell? ⟨w.heap.size, 9, none⟩ = some (.slice v.oa on v.oc) := blk_cell V0_6.out 9
        have r0 : u7.cell? ⟨w.heap.size, 0, none⟩ = some (.int .u8 v.ctl) := blk_cell V0_7.out 0
        clear b7 k7 o7
        clear V0_6 XA_6 XW_6 XO_6 K_6
        have NV := XW_7.out
        clear XW_7
        go_wp2_with ((with_reducible refine at_st 5 ?_); refine wl_store rfl rfl rfl rfl NV (by kernel_rfl) rfl (Nat.le_of_ble_eq_true rfl) (fun u8 p8 => ?_); have XW_8 := hid (show Blk u8 u3.heap.size 24 [.int .u8 (bits .xor .u8 v.ctl 128), .int .u8 v.scy, .int .u8 v.scx, .int .u8 v.wy, .int .u8 v.wx, .int .u8 v.bgp, .int .u8 v.o0, .int .u8 v.o1, .slice v.va vn v.vc, .slice (some ⟨(u3.heap.size + 1), 0, none⟩) 160 160] from p8.blk); have V0_8 := hid (p8.other _ _ _ (by have o := ORD1.out; omega) V0_7.out); have XA_8 := hid (p8.other _ _ _ (by have o := ORD1.out; omega) XA_7.out); have XO_8 := hid (p8.other _ _ _ (by have o := ORD1.out; omega) XO_7.out); have K_8 := hid (p8.kept _ K_7.out (by have o := ORD1.out; omega)); clear p8; refine Hid.out ?_)
        refine hid ?_
        clear NV q9 r9 r0 hrun
        clear V0_7 XA_7 XO_7 K_7
        have S8 : Sl u8 (some ⟨(u3.heap.size + 1), 0, none⟩) 160 (oamL v.oz) := br_sl (rest := []) (show Blk _ _ _ _ by rw [List.append_nil]; exact XO_8.out) (oam_in HV.out.os.row.2.1) (by rw [oam_len]; omega) (by simp [maxLen])
        have LB := hid (pline18 { v with ctl := (bits .xor .u8 v.ctl 128), oa := some ⟨(u3.heap.size + 1), 0, none⟩, oc := 160, oz := (oamL v.oz) } y win u8 (vdIn_oam (vdIn_kept K_8.out HV.out) xb.1 xb.2 S8 (by rw [oam_len]; omega)) y0 y1 w0 w1)
        rw [show vdV { v with ctl := (bits .xor .u8 v.ctl 128), oa := some ⟨(u3.heap.size + 1), 0, none⟩, oc := 160, oz := (oamL v.oz) } = .agg #[.int .u8 (bits .xor .u8 v.ctl 128), .int .u8 v.scy, .int .u8 v.scx, .int .u8 v.wy, .int .u8 v.wx, .int .u8 v.bgp, .int .u8 v.o0, .int .u8 v.o1, .slice v.va vn v.vc, .slice (some ⟨(u3.heap.size + 1), 0, none⟩) 160 160] from vdV_eq _ HVN.out (oam_len v.oz), DW.out _ _, NW.out _ _] at LB
        clear S8
        have zo8 := blk_lt XO_8.out
        obtain ⟨d0, d1, d2, d3, d4, d5, d6, d7, d8, d9⟩ := ten18 XW_8.out
        go_wp2_with fail
        refine LB.out.mono ?_
        rintro e u9 ⟨⟨bb, rfl, z9, x9⟩, k1⟩
        have XB_9 := hid x9
        have K_9 := hid (K_8.out.trans k1)
        have XA_9 := hid (blk_kept k1 XA_8.out)
        have XW_9 := hid (blk_kept k1 XW_8.out)
        have XO_9 := hid (blk_kept k1 XO_8.out)
        have ORD2 : Hid (w.heap.size < ba ∧ ba < u3.heap.size ∧ u3.heap.size + 1 < bb ∧ bb < u9.heap.size) := ⟨ORD1.out.1, ORD1.out.2, by omega, blk_lt XB_9.out⟩
        clear k1 x9 z9 zo8 LB ORD1 d0 d1 d2 d3 d4 d5 d6 d7 d8 d9
        clear XA_8 XW_8 XO_8 K_8 V0_8
        have A11 : Hid (Kept u9 ((u9.alloc (.cells #[.int .u8 (bits .xor .u8 v.ctl 128), .int .u8 v.scy, .int .u8 v.scx, .int .u8 v.wy, .int .u8 v.wx, .int .u8 v.bgp, .int .u8 v.o0, .int .u8 v.o1, .slice v.va vn v.vc, .slice (some ⟨(u3.heap.size + 1), 0, none⟩) 160 160] 24)).alloc (.cells #[] 5))) := ((Kept.refl u9).alloc _).alloc _
        have XU_11 : Hid (Blk ((u9.alloc (.cells #[.int .u8 (bits .xor .u8 v.ctl 128), .int .u8 v.scy, .int .u8 v.scx, .int .u8 v.wy, .int .u8 v.wx, .int .u8 v.bgp, .int .u8 v.o0, .int .u8 v.o1, .slice v.va vn v.vc, .slice (some ⟨(u3.heap.size + 1), 0, none⟩) 160 160] 24)).alloc (.cells #[] 5)) u9.heap.size 24 [.int .u8 (bits .xor .u8 v.ctl 128), .int .u8 v.scy, .int .u8 v.scx, .int .u8 v.wy, .int .u8 v.wx, .int .u8 v.bgp, .int .u8 v.o0, .int .u8 v.o1, .slice v.va vn v.vc, .slice (some ⟨(u3.heap.size + 1), 0, none⟩) 160 160]) := blk_past (blk_new u9 _ _) _
        have E11 : Hid (((u9.alloc (.cells #[.int .u8 (bits .xor .u8 v.ctl 128), .int .u8 v.scy, .int .u8 v.scx, .int .u8 v.wy, .int .u8 v.wx, .int .u8 v.bgp, .int .u8 v.o0, .int .u8 v.o1, .slice v.va vn v.vc, .slice (some ⟨(u3.heap.size + 1), 0, none⟩) 160 160] 24)).alloc (.cells #[] 5)).ownsRow (u9.heap.size + 1) 5 1 (.slice (some ⟨u9.heap.size + 1, 0, none⟩) ([] : List Int).length 0) ([] : List Int).length (([] : List Int).map (Value.int .u8))) := by
          have q := own_empty (u9.alloc (.cells #[.int .u8 (bits .xor .u8 v.ctl 128), .int .u8 v.scy, .int .u8 v.scx, .int .u8 v.wy, .int .u8 v.wx, .int .u8 v.bgp, .int .u8 v.o0, .int .u8 v.o1, .slice v.va vn v.vc, .slice (some ⟨(u3.heap.size + 1), 0, none⟩) 160 160] 24)) (base := u9.heap.size + 1) (by rw [World.size_alloc]; omega)
          rw [World.size_alloc] at q
          exact q
        have S11 : Hid (Sl ((u9.alloc (.cells #[.int .u8 (bits .xor .u8 v.ctl 128), .int .u8 v.scy, .int .u8 v.scx, .int .u8 v.wy, .int .u8 v.wx, .int .u8 v.bgp, .int .u8 v.o0, .int .u8 v.o1, .slice v.va vn v.vc, .slice (some ⟨(u3.heap.size + 1), 0, none⟩) 160 160] 24)).alloc (.cells #[] 5)) (some ⟨(u3.heap.size + 1), 0, none⟩) 160 (oamL v.oz)) := sl_kept A11.out (br_sl (rest := []) (show Blk _ _ _ _ by rw [List.append_nil]; exact XO_9.out) (oam_in HV.out.os.row.2.1) (by rw [oam_len]; omega) (by simp [maxLen]))
        have K_11 := hid (K_9.out.trans A11.out)
        have XA_11 := hid (blk_kept A11.out XA_9.out)
        have XW_11 := hid (blk_kept A11.out XW_9.out)
        have XO_11 := hid (blk_kept A11.out XO_9.out)
        have XB_11 := hid (blk_kept A11.out XB_9.out)
        have z11 : ((u9.alloc (.cells #[.int .u8 (bits .xor .u8 v.ctl 128), .int .u8 v.scy, .int .u8 v.scx, .int .u8 v.wy, .int .u8 v.wx, .int .u8 v.bgp, .int .u8 v.o0, .int .u8 v.o1, .slice v.va vn v.vc, .slice (some ⟨(u3.heap.size + 1), 0, none⟩) 160 160] 24)).alloc (.cells #[] 5)).heap.size = u9.heap.size + 2 := by rw [World.size_alloc, World.size_alloc]
        have Z11 := hid z11
        obtain ⟨d0, d1, d2, d3, d4, d5, d6, d7, d8, d9⟩ := ten18 XW_9.out
        obtain ⟨f0, f1, f2, f3, f4, f5, f6, f7, f8, f9⟩ := ten18 XW_11.out
        clear z11
        go_wp2_with (at_builtin; (refine wl_append (L := []) (z := (oamL v.oz)) E11.out S11.out rfl rfl rfl rfl (oam_len v.oz).symm (by have q := Z11.out; omega) (by rw [oam_len]; simp) (fun v' u12 o12 g12 => ?_); rw [List.nil_append] at o12; have O12 := hid o12; have K_12 := hid (K_11.out.by g12 (fun q hq => by have o := ORD2.out; have e : u9.heap.size + 1 = q := (by simpa [Value.ownBlock] using hq); omega)); have XA_12 := hid (blk_by g12 XA_11.out (by have o := ORD2.out; intro e; have e2 : u9.heap.size + 1 = ba := (by simpa [Value.ownBlock] using e); omega)); have XW_12 := hid (blk_by g12 XW_11.out (by have o := ORD2.out; intro e; have e2 : u9.heap.size + 1 = u3.heap.size := (by simpa [Value.ownBlock] using e); omega)); have XO_12 := hid (blk_by g12 XO_11.out (by have o := ORD2.out; intro e; have e2 : u9.heap.size + 1 = (u3.heap.size + 1) := (by simpa [Value.ownBlock] using e); omega)); have XB_12 := hid (blk_by g12 XB_11.out (by have o := ORD2.out; intro e; have e2 : u9.heap.size + 1 = bb := (by simpa [Value.ownBlock] using e); omega)); have XU_12 := hid (blk_by g12 XU_11.out (by have o := ORD2.out; intro e; have e2 : u9.heap.size + 1 = u9.heap.size := (by simpa [Value.ownBlock] using e); omega)); clear o12 g12; refine Hid.out ?_))
        refine hid ?_
        obtain ⟨g2, cp, rest, e12, hg2, br12, l12, m12⟩ := own_br O12.out (by rw [oam_len]; omega)
        rw [oam_len] at e12 l12
        subst e12
        have XG_12 := hid br12
        have ORD3 : Hid (w.heap.size < ba ∧ ba < u3.heap.size ∧ u3.heap.size + 1 < bb ∧ bb < u9.heap.size ∧ u9.heap.size < g2) := ⟨ORD2.out.1, ORD2.out.2.1, ORD2.out.2.2.1, ORD2.out.2.2.2, by omega⟩
        clear br12 hg2 O12 ORD2 E11 S11 Z11 A11 d0 d1 d2 d3 d4 d5 d6 d7 d8 d9 f0 f1 f2 f3 f4 f5 f6 f7 f8 f9
        clear XA_11 XW_11 XO_11 XB_11 XU_11 K_11
        clear XA_9 XW_9 XO_9 XB_9 K_9
        have NV := XU_12.out
        clear XU_12
        go_wp2_with ((with_reducible refine at_st 22 ?_); refine wl_store rfl rfl rfl rfl NV (by kernel_rfl) rfl (Nat.le_of_ble_eq_true rfl) (fun u13 p13 => ?_); have XU_13 := hid (show Blk u13 u9.heap.size 24 [.int .u8 (bits .xor .u8 v.ctl 128), .int .u8 v.scy, .int .u8 v.scx, .int .u8 v.wy, .int .u8 v.wx, .int .u8 v.bgp, .int .u8 v.o0, .int .u8 v.o1, .slice v.va vn v.vc, .slice (some ⟨g2, 0, none⟩) 160 cp] from p13.blk); have XA_13 := hid (p13.other _ _ _ (by have o := ORD3.out; omega) XA_12.out); have XW_13 := hid (p13.other _ _ _ (by have o := ORD3.out; omega) XW_12.out); have XO_13 := hid (p13.other _ _ _ (by have o := ORD3.out; omega) XO_12.out); have XB_13 := hid (p13.other _ _ _ (by have o := ORD3.out; omega) XB_12.out); have XG_13 := hid (p13.other _ _ _ (by have o := ORD3.out; omega) XG_12.out); have K_13 := hid (p13.kept _ K_12.out (by have o := ORD3.out; omega)); clear p13; refine Hid.out ?_)
        refine hid ?_
        clear NV
        clear XA_12 XW_12 XO_12 XB_12 XG_12 K_12
        have n9 : u13.cell? ⟨u9.heap.size, 9, none⟩ = some (.slice (some ⟨g2, 0, none⟩) 160 cp) := blk_cell XU_13.out 9
        have NV := XG_13.out
        clear XG_13
        go_wp2_with ((with_reducible refine at_st 5 ?_); refine wl_store rfl rfl rfl rfl NV (by kernel_rfl) rfl (by rw [List.length_append, List.length_map, oam_len]; show k + 1 ≤ _; omega) (fun u14 p14 => ?_); have XG_14 := hid (show BR u14 g2 ((oamL v.oz).set k 0) rest by (show Blk _ _ _ _; rw [← br_set (rest := rest) 0 (show k < (oamL v.oz).length by rw [oam_len]; omega)]; exact p14.blk)); have XA_14 := hid (p14.other _ _ _ (by have o := ORD3.out; omega) XA_13.out); have XW_14 := hid (p14.other _ _ _ (by have o := ORD3.out; omega) XW_13.out); have XO_14 := hid (p14.other _ _ _ (by have o := ORD3.out; omega) XO_13.out); have XB_14 := hid (p14.other _ _ _ (by have o := ORD3.out; omega) XB_13.out); have XU_14 := hid (p14.other _ _ _ (by have o := ORD3.out; omega) XU_13.out); have K_14 := hid (p14.kept _ K_13.out (by have o := ORD3.out; omega)); clear p14; refine Hid.out ?_)
        refine hid ?_
        clear NV n9
        clear XA_13 XW_13 XO_13 XB_13 XU_13 K_13
        have m9 : u14.cell? ⟨u3.heap.size, 9, none⟩ = some (.slice (some ⟨(u3.heap.size + 1), 0, none⟩) 160 160) := blk_cell XW_14.out 9
        have mk : u14.cell? ⟨(u3.heap.size + 1), k, none⟩ = some (.int .u8 yk) := by rw [← HYK.out]; exact br_cell (rest := []) (show Blk _ _ _ _ by rw [List.append_nil]; exact XO_14.out) (by rw [oam_len]; omega)
        have mu : u14.cell? ⟨u9.heap.size, 9, none⟩ = some (.slice (some ⟨g2, 0, none⟩) 160 cp) := blk_cell XU_14.out 9
        go_wp2_with fail
        refine wp_region_held_drew (S := (fun w' => w'.cell? ⟨u9.heap.size, 9, none⟩ = some (.slice (some ⟨g2, 0, none⟩) 160 cp) ∧ w'.cell? ⟨u3.heap.size, 9, none⟩ = some (.slice (some ⟨(u3.heap.size + 1), 0, none⟩) 160 160) ∧ w'.cell? ⟨(u3.heap.size + 1), k, none⟩ = some (.int .u8 yk))) (by kernel_rfl) (by go_keep) (fun hHeld => ?_)
        refine wpAnyH_take (i := 0) (v := ?_) rfl (by kernel_rfl) (by kernel_rfl) (by kernel_rfl) (fun _ _ _ h => h) (Or.inl ⟨by rfl, ?_⟩) (by assumption) ?_
        rotate_left
        · intro w hSw
          (try dsimp only at hSw)
          obtain ⟨s0, s1, s2⟩ := hSw
          go_simp
          try with_reducible rfl
        simp only [Act.put, List.getElem_toArray, List.getElem_cons_succ, List.getElem_cons_zero, List.setIfInBounds_toArray, List.set_cons_zero, List.set_cons_succ]
        refine wpAnyH_take (i := 1) (v := ?_) rfl (by kernel_rfl) (by kernel_rfl) (by kernel_rfl) (fun _ _ _ h => h) (Or.inl ⟨by rfl, ?_⟩) (by assumption) ?_
        rotate_left
        · intro w hSw
          (try dsimp only at hSw)
          obtain ⟨s0, s1, s2⟩ := hSw
          go_simp
          try with_reducible rfl
        simp only [Act.put, List.getElem_toArray, List.getElem_cons_succ, List.getElem_cons_zero, List.setIfInBounds_toArray, List.set_cons_zero, List.set_cons_succ]
        refine wpAnyH_take (i := 2) (v := ?_) rfl (by kernel_rfl) (by kernel_rfl) (by kernel_rfl) (fun _ _ _ h => h) (Or.inl ⟨by rfl, ?_⟩) (by assumption) ?_
        rotate_left
        · intro w hSw
          (try dsimp only at hSw)
          obtain ⟨s0, s1, s2⟩ := hSw
          go_simp
          try with_reducible rfl
        simp only [Act.put, List.getElem_toArray, List.getElem_cons_succ, List.getElem_cons_zero, List.setIfInBounds_toArray, List.set_cons_zero, List.set_cons_succ]
        refine wpAnyH_take (i := 3) (v := ?_) rfl (by kernel_rfl) (by kernel_rfl) (by kernel_rfl) (fun _ _ _ h => h) (Or.inl ⟨by rfl, ?_⟩) (by assumption) ?_
        rotate_left
        · intro w hSw
          (try dsimp only at hSw)
          obtain ⟨s0, s1, s2⟩ := hSw
          go_simp
          try with_reducible rfl
        simp only [Act.put, List.getElem_toArray, List.getElem_cons_succ, List.getElem_cons_zero, List.setIfInBounds_toArray, List.set_cons_zero, List.set_cons_succ]
        refine wpAnyH_take (i := 4) (v := ?_) rfl (by kernel_rfl) (by kernel_rfl) (by kernel_rfl) (fun _ _ _ h => h) (Or.inl ⟨by rfl, ?_⟩) (by assumption) ?_
        rotate_left
        · intro w hSw
          (try dsimp only at hSw)
          obtain ⟨s0, s1, s2⟩ := hSw
          go_simp
          try with_reducible rfl
        simp only [Act.put, List.getElem_toArray, List.getElem_cons_succ, List.getElem_cons_zero, List.setIfInBounds_toArray, List.set_cons_zero, List.set_cons_succ]
        refine wpAnyH_take (i := 5) (v := ?_) rfl (by kernel_rfl) (by kernel_rfl) (by kernel_rfl) (fun _ _ _ h => h) (Or.inl ⟨by rfl, ?_⟩) (by assumption) ?_
        rotate_left
        · intro w hSw
          (try dsimp only at hSw)
          obtain ⟨s0, s1, s2⟩ := hSw
          go_simp
          try with_reducible rfl
        simp only [Act.put, List.getElem_toArray, List.getElem_cons_succ, List.getElem_cons_zero, List.setIfInBounds_toArray, List.set_cons_zero, List.set_cons_succ]
        refine wpAnyH_take (i := 6) (v := ?_) rfl (by kernel_rfl) (by kernel_rfl) (by kernel_rfl) (fun _ _ _ h => h) (Or.inl ⟨by rfl, ?_⟩) (by assumption) ?_
        rotate_left
        · intro w hSw
          (try dsimp only at hSw)
          obtain ⟨s0, s1, s2⟩ := hSw
          go_simp
          try with_reducible rfl
        simp only [Act.put, List.getElem_toArray, List.getElem_cons_succ, List.getElem_cons_zero, List.setIfInBounds_toArray, List.set_cons_zero, List.set_cons_succ]
        refine wpAnyH_take (i := 7) (v := ?_) rfl (by kernel_rfl) (by kernel_rfl) (by kernel_rfl) (fun _ _ _ h => h) (Or.inl ⟨by rfl, ?_⟩) (by assumption) ?_
        rotate_left
        · intro w hSw
          (try dsimp only at hSw)
          obtain ⟨s0, s1, s2⟩ := hSw
          go_simp
          try with_reducible rfl
        simp only [Act.put, List.getElem_toArray, List.getElem_cons_succ, List.getElem_cons_zero, List.setIfInBounds_toArray, List.set_cons_zero, List.set_cons_succ]
        refine wpAnyH_take (i := 8) (v := ?_) rfl (by kernel_rfl) (by kernel_rfl) (by kernel_rfl) (fun _ _ _ h => h) (Or.inl ⟨by rfl, ?_⟩) (by assumption) ?_
        rotate_left
        · intro w hSw
          (try dsimp only at hSw)
          obtain ⟨s0, s1, s2⟩ := hSw
          go_simp
          try with_reducible rfl
        simp only [Act.put, List.getElem_toArray, List.getElem_cons_succ, List.getElem_cons_zero, List.setIfInBounds_toArray, List.set_cons_zero, List.set_cons_succ]
        refine wpAnyH_ready (rs := [9]) (by kernel_rfl) (by simp) ?_
        refine AllReadyH.cons rfl (fun K hK => ?_) AllReadyH.nil
        refine wp_st18 (blk_drew XG_14.out) rfl rfl rfl (by kernel_rfl) rfl (by rw [List.length_append, List.length_map]; simp only [List.length_set, oam_len]; show k + 1 ≤ _; omega) (fun u17 p17 => ?_)
        have XG_17 : Hid (BR u17 g2 (oamL v.oz) rest) := by
          show Blk _ _ _ _
          rw [← set_back (show k < (oamL v.oz).length by rw [oam_len]; omega), HYK.out, ← br_set (rest := rest) yk (show k < ((oamL v.oz).set k 0).length by simp only [List.length_set, oam_len]; omega)]
          exact p17.blk
        have XA_17 := hid (p17.other _ _ _ (by have o := ORD3.out; omega) (blk_drew XA_14.out))
        have XW_17 := hid (p17.other _ _ _ (by have o := ORD3.out; omega) (blk_drew XW_14.out))
        have XO_17 := hid (p17.other _ _ _ (by have o := ORD3.out; omega) (blk_drew XO_14.out))
        have XB_17 := hid (p17.other _ _ _ (by have o := ORD3.out; omega) (blk_drew XB_14.out))
        have XU_17 := hid (p17.other _ _ _ (by have o := ORD3.out; omega) (blk_drew XU_14.out))
        have K_17 := hid (p17.kept _ K_14.out.drew (by have o := ORD3.out; omega))
        have t9 : u17.cell? ⟨u9.heap.size, 9, none⟩ = some (.slice (some ⟨g2, 0, none⟩) 160 cp) := blk_cell XU_17.out 9
        have t8 : u17.cell? ⟨u3.heap.size, 9, none⟩ = some (.slice (some ⟨(u3.heap.size + 1), 0, none⟩) 160 160) := blk_cell XW_17.out 9
        have tk : u17.cell? ⟨(u3.heap.size + 1), k, none⟩ = some (.int .u8 yk) := by rw [← HYK.out]; exact br_cell (rest := []) (show Blk _ _ _ _ by rw [List.append_nil]; exact XO_17.out) (by rw [oam_len]; omega)
        clear p17
        refine hK.out _ _ ⟨t9, t8, tk⟩ (fun hHeld => ?_)
        clear hK K
        try simp only [Act.put, List.getElem_toArray, List.getElem_cons_succ, List.getElem_cons_zero, List.setIfInBounds_toArray, List.set_cons_zero, List.set_cons_succ]
        refine wpAnyH_done (by kernel_rfl) ?_ _
        clear hHeld t9 t8 tk m9 mk mu
        clear XA_14 XW_14 XO_14 XB_14 XU_14 XG_14 K_14
        have S17 : Sl u17 (some ⟨g2, 0, none⟩) cp (oamL v.oz) := br_sl XG_17.out (oam_in HV.out.os.row.2.1) (by rw [oam_len]; exact l12) m12
        have DU : dotL { v with ctl := (bits .xor .u8 v.ctl 128), oa := some ⟨g2, 0, none⟩, oc := cp, oz := (oamL v.oz) } y win = dotL v y win := alike_dot (alike_xor v HV.out.c0 HV.out.c1 _ _ _) (objs_alike (alike_xor v HV.out.c0 HV.out.c1 _ _ _) (oam_scan v.oz y _)) win
        have LC := hid (pline18 { v with ctl := (bits .xor .u8 v.ctl 128), oa := some ⟨g2, 0, none⟩, oc := cp, oz := (oamL v.oz) } y win u17 (vdIn_oam (vdIn_kept K_17.out HV.out) xb.1 xb.2 S17 (by rw [oam_len]; omega)) y0 y1 w0 w1)
        rw [show vdV { v with ctl := (bits .xor .u8 v.ctl 128), oa := some ⟨g2, 0, none⟩, oc := cp, oz := (oamL v.oz) } = .agg #[.int .u8 (bits .xor .u8 v.ctl 128), .int .u8 v.scy, .int .u8 v.scx, .int .u8 v.wy, .int .u8 v.wx, .int .u8 v.bgp, .int .u8 v.o0, .int .u8 v.o1, .slice v.va vn v.vc, .slice (some ⟨g2, 0, none⟩) 160 cp] from vdV_eq _ HVN.out (by show List.length (oamL v.oz) = 160; rw [oam_len]), DU] at LC
        clear S17 DU
        have zg := blk_lt XG_17.out
        obtain ⟨d0, d1, d2, d3, d4, d5, d6, d7, d8, d9⟩ := ten18 XU_17.out
        go_wp2_with fail
        refine LC.out.mono ?_
        rintro e u18 ⟨⟨bc, rfl, z18, x18⟩, k1⟩
        have XC_18 := hid x18
        have K_18 := hid (K_17.out.trans k1)
        have XA_18 := hid (blk_kept k1 XA_17.out)
        have XW_18 := hid (blk_kept k1 XW_17.out)
        have XO_18 := hid (blk_kept k1 XO_17.out)
        have XB_18 := hid (blk_kept k1 XB_17.out)
        have ORD4 : Hid (w.heap.size < ba ∧ ba < u3.heap.size ∧ u3.heap.size + 1 < bb ∧ bb < u9.heap.size ∧ u9.heap.size < g2 ∧ g2 < bc) := ⟨ORD3.out.1, ORD3.out.2.1, ORD3.out.2.2.1, ORD3.out.2.2.2.1, ORD3.out.2.2.2.2, by omega⟩
        clear k1 x18 z18 zg LC ORD3 d0 d1 d2 d3 d4 d5 d6 d7 d8 d9
        clear XA_17 XW_17 XO_17 XB_17 XU_17 XG_17 K_17
        have n0 : u18.cell? ⟨u3.heap.size, 0, none⟩ = some (.int .u8 (bits .xor .u8 v.ctl 128)) := blk_cell XW_18.out 0
        have NV := XW_18.out
        clear XW_18
        go_wp2_with ((with_reducible refine at_st 5 ?_); refine wl_store rfl rfl rfl rfl NV (by kernel_rfl) rfl (Nat.le_of_ble_eq_true rfl) (fun u19 p19 => ?_); have XW_19 := hid (show Blk u19 u3.heap.size 24 [.int .u8 (bits .andNot .u8 (bits .xor .u8 v.ctl 128) 2), .int .u8 v.scy, .int .u8 v.scx, .int .u8 v.wy, .int .u8 v.wx, .int .u8 v.bgp, .int .u8 v.o0, .int .u8 v.o1, .slice v.va vn v.vc, .slice (some ⟨(u3.heap.size + 1), 0, none⟩) 160 160] from p19.blk); have XA_19 := hid (p19.other _ _ _ (by have o := ORD4.out; omega) XA_18.out); have XO_19 := hid (p19.other _ _ _ (by have o := ORD4.out; omega) XO_18.out); have XB_19 := hid (p19.other _ _ _ (by have o := ORD4.out; omega) XB_18.out); have XC_19 := hid (p19.other _ _ _ (by have o := ORD4.out; omega) XC_18.out); have K_19 := hid (p19.kept _ K_18.out (by have o := ORD4.out; omega)); clear p19; refine Hid.out ?_)
        refine hid ?_
        clear NV n0
        clear XA_18 XO_18 XB_18 XC_18 K_18
        have S19 : Sl u19 (some ⟨(u3.heap.size + 1), 0, none⟩) 160 (oamL v.oz) := br_sl (rest := []) (show Blk _ _ _ _ by rw [List.append_nil]; exact XO_19.out) (oam_in HV.out.os.row.2.1) (by rw [oam_len]; omega) (by simp [maxLen])
        have LD := hid (pline18 { v with ctl := (bits .andNot .u8 (bits .xor .u8 v.ctl 128) 2), oa := some ⟨(u3.heap.size + 1), 0, none⟩, oc := 160, oz := (oamL v.oz) } y win u19 (vdIn_oam (vdIn_kept K_19.out HV.out) nb.1 nb.2.1 S19 (by rw [oam_len]; omega)) y0 y1 w0 w1)
        have DD : dotL { v with ctl := (bits .andNot .u8 (bits .xor .u8 v.ctl 128) 2), oa := some ⟨(u3.heap.size + 1), 0, none⟩, oc := 160, oz := (oamL v.oz) } y win = dotL { v with ctl := (bits .andNot .u8 (bits .xor .u8 v.ctl 128) 2), oa := none, oc := 0, oz := [] } y win := alike_dot (v := { v with ctl := (bits .andNot .u8 (bits .xor .u8 v.ctl 128) 2), oa := none, oc := 0, oz := [] }) (v' := { v with ctl := (bits .andNot .u8 (bits .xor .u8 v.ctl 128) 2), oa := some ⟨(u3.heap.size + 1), 0, none⟩, oc := 160, oz := (oamL v.oz) }) ⟨rfl, rfl, rfl, rfl, rfl, rfl, rfl, rfl, rfl, rfl, rfl, rfl, rfl, rfl, rfl⟩ (by rw [objs_none (v := { v with ctl := (bits .andNot .u8 (bits .xor .u8 v.ctl 128) 2), oa := none, oc := 0, oz := [] }) nb.2.2, objs_none (v := { v with ctl := (bits .andNot .u8 (bits .xor .u8 v.ctl 128) 2), oa := some ⟨(u3.heap.size + 1), 0, none⟩, oc := 160, oz := (oamL v.oz) }) nb.2.2]) win
        rw [show vdV { v with ctl := (bits .andNot .u8 (bits .xor .u8 v.ctl 128) 2), oa := some ⟨(u3.heap.size + 1), 0, none⟩, oc := 160, oz := (oamL v.oz) } = .agg #[.int .u8 (bits .andNot .u8 (bits .xor .u8 v.ctl 128) 2), .int .u8 v.scy, .int .u8 v.scx, .int .u8 v.wy, .int .u8 v.wx, .int .u8 v.bgp, .int .u8 v.o0, .int .u8 v.o1, .slice v.va vn v.vc, .slice (some ⟨(u3.heap.size + 1), 0, none⟩) 160 160] from vdV_eq _ HVN.out (oam_len v.oz), DD] at LD
        clear S19 DD
        have zc := blk_lt XC_19.out
        obtain ⟨d0, d1, d2, d3, d4, d5, d6, d7, d8, d9⟩ := ten18 XW_19.out
        go_wp2_with fail
        refine LD.out.mono ?_
        rintro e u20 ⟨⟨bd, rfl, z20, x20⟩, k1⟩
        have XD_20 := hid x20
        have K_20 := hid (K_19.out.trans k1)
        have XA_20 := hid (blk_kept k1 XA_19.out)
        have XW_20 := hid (blk_kept k1 XW_19.out)
        have XB_20 := hid (blk_kept k1 XB_19.out)
        have XC_20 := hid (blk_kept k1 XC_19.out)
        have ORD5 : Hid (w.heap.size < ba ∧ ba < u3.heap.size ∧ u3.heap.size + 1 < bb ∧ bb < u9.heap.size ∧ u9.heap.size < g2 ∧ g2 < bc ∧ bc < bd) := ⟨ORD4.out.1, ORD4.out.2.1, ORD4.out.2.2.1, ORD4.out.2.2.2.1, ORD4.out.2.2.2.2.1, ORD4.out.2.2.2.2.2, by omega⟩
        clear k1 x20 z20 zc LD ORD4 d0 d1 d2 d3 d4 d5 d6 d7 d8 d9
        clear XA_19 XO_19 XW_19 XB_19 XC_19 K_19
        have NV := XW_20.out
        clear XW_20
        go_wp2_with ((with_reducible refine at_st 22 ?_); refine wl_store rfl rfl rfl rfl NV (by kernel_rfl) rfl (Nat.le_of_ble_eq_true rfl) (fun u21 p21 => ?_); have XW_21 := hid (show Blk u21 u3.heap.size 24 [.int .u8 (bits .andNot .u8 (bits .xor .u8 v.ctl 128) 2), .int .u8 v.scy, .int .u8 v.scx, .int .u8 v.wy, .int .u8 v.wx, .int .u8 v.bgp, .int .u8 v.o0, .int .u8 v.o1, .slice v.va vn v.vc, .slice none 0 0] from p21.blk); have XA_21 := hid (p21.other _ _ _ (by have o := ORD5.out; omega) XA_20.out); have XB_21 := hid (p21.other _ _ _ (by have o := ORD5.out; omega) XB_20.out); have XC_21 := hid (p21.other _ _ _ (by have o := ORD5.out; omega) XC_20.out); have XD_21 := hid (p21.other _ _ _ (by have o := ORD5.out; omega) XD_20.out); have K_21 := hid (p21.kept _ K_20.out (by have o := ORD5.out; omega)); clear p21; refine Hid.out ?_)
        refine hid ?_
        clear NV
        clear XA_20 XB_20 XC_20 XD_20 K_20
        have LE := hid (pline18 { v with ctl := (bits .andNot .u8 (bits .xor .u8 v.ctl 128) 2), oa := none, oc := 0, oz := [] } y win u21 (vdIn_oam (vdIn_kept K_21.out HV.out) nb.1 nb.2.1 (sl_nil u21) (by simp)) y0 y1 w0 w1)
        rw [show vdV { v with ctl := (bits .andNot .u8 (bits .xor .u8 v.ctl 128) 2), oa := none, oc := 0, oz := [] } = .agg #[.int .u8 (bits .andNot .u8 (bits .xor .u8 v.ctl 128) 2), .int .u8 v.scy, .int .u8 v.scx, .int .u8 v.wy, .int .u8 v.wx, .int .u8 v.bgp, .int .u8 v.o0, .int .u8 v.o1, .slice v.va vn v.vc, .slice none 0 0] from vdV_eq _ HVN.out rfl] at LE
        obtain ⟨d0, d1, d2, d3, d4, d5, d6, d7, d8, d9⟩ := ten18 XW_21.out
        go_wp2_with fail
        refine LE.out.mono ?_
        rintro e u22 ⟨⟨be, rfl, z22, x22⟩, k1⟩
        have XE_22 := hid x22
        have K_22 := hid (K_21.out.trans k1)
        have XA_22 := hid (blk_kept k1 XA_21.out)
        have XB_22 := hid (blk_kept k1 XB_21.out)
        have XC_22 := hid (blk_kept k1 XC_21.out)
        have XD_22 := hid (blk_kept k1 XD_21.out)
        clear k1 x22 z22 LE d0 d1 d2 d3 d4 d5 d6 d7 d8 d9
        have CA := conv_line18 XA_22.out
        have CB := conv_line18 XB_22.out
        have CC := conv_line18 XC_22.out
        have CD := conv_line18 XD_22.out
        have CE := conv_line18 XE_22.out
        have KE := K_22
        clear XA_21 XB_21 XC_21 XD_21 XW_21 K_21
        clear XA_22 XB_22 XC_22 XD_22 XE_22 K_22
        generalize strB (lineP v y win) = sv at *
        generalize strB (lineP { v with ctl := (bits .andNot .u8 (bits .xor .u8 v.ctl 128) 2), oa := none, oc := 0, oz := [] } y win) = se at *
        go_wp2
        go_ret
        exact ⟨rfl, KE.out⟩
end Go.Proofs.Ytecgpdjgbdobbab
