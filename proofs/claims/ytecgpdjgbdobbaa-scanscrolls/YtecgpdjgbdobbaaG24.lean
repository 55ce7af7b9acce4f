/- The document's objects and dots. -/
import Derived.Test.YtecgpdjgbdobbaaG23
import Derived.Test.YtecgpdjgbdobbaaG18
namespace Go.Proofs.Ytecgpdjgbdobbaa
open Go.RowKit
set_option linter.unusedVariables false
set_option linter.unusedSimpArgs false

set_option maxRecDepth 100000 in
set_option maxHeartbeats 4000000 in
theorem robj18 (v : Vd) (L : List Ob) (a : Option Addr) (cap : Nat) (x : Nat) (y : Int) (w : World) (hv : VdIn w v) (h : SlO w a cap L) (hl : L.length ≤ 1000) (hx : x < 160) (y0 : 0 ≤ y) (y1 : y ≤ 255) :
    Calls Try.prog 44 #[vdV v, .slice a L.length cap, .int .i64 (x : Int), .int .u8 y] w fun e w' => e = .returned (.tuple #[obV (seenP v (x : Int) y L).1, .int .u8 (seenP v (x : Int) y L).2]) ∧ Kept w w' := by
  have FG := hid (fun q => slO_at h q)
  have C2 := hid (fun u k => rctl18 v 2 u (vdIn_kept k hv))
  obtain ⟨n, hn⟩ : ∃ n : Nat, L.length = n := ⟨_, rfl⟩
  have HN := hid hn
  rw [hn] at hl FG ⊢
  obtain ⟨t, ht⟩ : ∃ t, bitOf v.ctl 2 = t := ⟨_, rfl⟩
  have HT := hid ht
  rw [ht] at C2
  have hz := hv.vs.row.2.1
  have R0 := hid hv.vs.row
  have e6 : IntKind.i64.wrap y = y := by rw [IntKind.wrap_i64]; omega
  obtain ⟨vn, hvn⟩ : ∃ n, v.vz.length = n := ⟨_, rfl⟩
  obtain ⟨on, hon⟩ : ∃ n, v.oz.length = n := ⟨_, rfl⟩
  have HVN := hid hvn
  have VV : vdV v = .agg #[.int .u8 v.ctl, .int .u8 v.scy, .int .u8 v.scx, .int .u8 v.wy, .int .u8 v.wx, .int .u8 v.bgp, .int .u8 v.o0, .int .u8 v.o1, .slice v.va vn v.vc, .slice v.oa on v.oc] := by unfold vdV; rw [hvn, hon]
  rw [VV] at C2 ⊢
  clear hvn hon VV hn h hv ht
  have K1 : Hid (Kept w ((w.alloc (.cells #[.int .u8 v.ctl, .int .u8 v.scy, .int .u8 v.scx, .int .u8 v.wy, .int .u8 v.wx, .int .u8 v.bgp, .int .u8 v.o0, .int .u8 v.o1, .slice v.va vn v.vc, .slice v.oa on v.oc] 24)).alloc (.cells #[.int .u8 0, .int .u8 0, .int .u8 0, .int .u8 0, .int .u8 0] 62))) := ((Kept.refl w).alloc _).alloc _
  have B1 : Hid (Blk ((w.alloc (.cells #[.int .u8 v.ctl, .int .u8 v.scy, .int .u8 v.scx, .int .u8 v.wy, .int .u8 v.wx, .int .u8 v.bgp, .int .u8 v.o0, .int .u8 v.o1, .slice v.va vn v.vc, .slice v.oa on v.oc] 24)).alloc (.cells #[.int .u8 0, .int .u8 0, .int .u8 0, .int .u8 0, .int .u8 0] 62)) w.heap.size 24 [.int .u8 v.ctl, .int .u8 v.scy, .int .u8 v.scx, .int .u8 v.wy, .int .u8 v.wx, .int .u8 v.bgp, .int .u8 v.o0, .int .u8 v.o1, .slice v.va vn v.vc, .slice v.oa on v.oc]) := blk_past (blk_new w _ _) _
  have Z1 : Hid (Blk ((w.alloc (.cells #[.int .u8 v.ctl, .int .u8 v.scy, .int .u8 v.scx, .int .u8 v.wy, .int .u8 v.wx, .int .u8 v.bgp, .int .u8 v.o0, .int .u8 v.o1, .slice v.va vn v.vc, .slice v.oa on v.oc] 24)).alloc (.cells #[.int .u8 0, .int .u8 0, .int .u8 0, .int .u8 0, .int .u8 0] 62)) (w.heap.size + 1) 62 [.int .u8 0, .int .u8 0, .int .u8 0, .int .u8 0, .int .u8 0]) := by have q := blk_new (w.alloc (.cells #[.int .u8 v.ctl, .int .u8 v.scy, .int .u8 v.scx, .int .u8 v.wy, .int .u8 v.wx, .int .u8 v.bgp, .int .u8 v.o0, .int .u8 v.o1, .slice v.va vn v.vc, .slice v.oa on v.oc] 24)) [.int .u8 0, .int .u8 0, .int .u8 0, .int .u8 0, .int .u8 0] 62; rw [World.size_alloc] at q; exact q
  go_enter Try.func44, Try.ntmps44
  obtain ⟨d0, d1, d2, d3, d4, d5, d6, d7, d8, d9⟩ := ten18 B1.out
  go_wp2_with fail
  refine (C2.out _ K1.out).mono ?_
  rintro e u1 ⟨rfl, k1⟩
  have K2 := hid (K1.out.trans k1)
  have B2 := hid (blk_kept k1 B1.out)
  have Z2 := hid (blk_kept k1 Z1.out)
  clear k1 K1 B1 Z1
  clear d0 d1 d2 d3 d4 d5 d6 d7 d8 d9
  go_wp2_with fail
  go_loopw [11] (fun s8 wr => ∃ j : Nat, j ≤ n ∧ s8 = .int .i64 (j : Int) ∧ Hid (seenP v (x : Int) y L = seenP v (x : Int) y (L.drop j)) ∧ Blk wr (w.heap.size + 1) 62 [.int .u8 0, .int .u8 0, .int .u8 0, .int .u8 0, .int .u8 0] ∧ Blk wr w.heap.size 24 [.int .u8 v.ctl, .int .u8 v.scy, .int .u8 v.scx, .int .u8 v.wy, .int .u8 v.wx, .int .u8 v.bgp, .int .u8 v.o0, .int .u8 v.o1, .slice v.va vn v.vc, .slice v.oa on v.oc] ∧ Kept w wr) (fun s8 _ => n - (intOf s8).toNat)
  case atStart => exact ⟨0, Nat.zero_le _, rfl, rfl, Z2.out, B2.out, K2.out⟩
  case round =>
    obtain ⟨j, hj, rfl, HS, hb1, hb2, hk⟩ := hrel
    have K4 := hid hk
    have Z4 := hid hb1
    have B4 := hid hb2
    clear hb1 hb2 hk K2 B2 Z2
    by_cases hlt : j < n
    · have g1 : decide ((j : Int) < (n : Int)) = true := decide_eq_true (by omega)
      have g3 : (j : Int) < (n : Int) := by omega
      obtain ⟨xx, rfl, hxx, hc⟩ := FG.out (by omega)
      obtain ⟨o, ho⟩ : ∃ o, L.getD j default = o := ⟨_, rfl⟩
      have dj := drop_at (L := L) (j := j) (by rw [HN.out]; exact hlt)
      have OC := hid (hc j hlt)
      rw [ho] at dj OC
      have COL := hid (fun u => rcol16 o (x : Int) u)
      have ROW := hid (fun u => rrow16 o y t u)
      have tb := row_bd o y t
      have PL := hid (fun u => rplace17 (tileR o y t) (rowR o y t) false u tb.1 tb.2)
      have pb := place_bd tb.1 tb.2 false (rowR o y t)
      have lo_ : oloP v o y = atP v.vz (placeP (tileR o y t) false (rowR o y t)) := by unfold oloP; rw [HT.out]
      have hi_ : ohiP v o y = atP v.vz (placeP (tileR o y t) false (rowR o y t) + 1) := by unfold ohiP; rw [HT.out]
      have A2 := hid (fun u h2 => rat17 v.va v.vc v.vz (placeP (tileR o y t) false (rowR o y t)) u h2)
      have A3 := hid (fun u h2 => rat17 v.va v.vc v.vz (placeP (tileR o y t) false (rowR o y t) + 1) u h2)
      have l1 := at_bd hz (placeP (tileR o y t) false (rowR o y t))
      have l2 := at_bd hz (placeP (tileR o y t) false (rowR o y t) + 1)
      rw [← lo_] at A2 l1
      rw [← hi_] at A3 l2
      rw [HVN.out] at A2 A3
      generalize placeP (tileR o y t) false (rowR o y t) = p at *
      have e4 : IntKind.i64.wrap (p + 1) = p + 1 := by rw [IntKind.wrap_i64]; omega
      have PX := hid (fun u => rpix17 (oloP v o y) (ohiP v o y) (colI o (x : Int)) u l1.1 l1.2 l2.1 l2.2)
      rw [show pixP (oloP v o y) (ohiP v o y) (colI o (x : Int)) = oxP v o (x : Int) y from rfl] at PX
      have QY := hid (fun q => (show seenP v (x : Int) y (L.drop j) = (o, oxP v o (x : Int) y) by rw [dj]; exact seen_yes q))
      have QN := hid (fun q => (show seenP v (x : Int) y (L.drop j) = seenP v (x : Int) y (L.drop (j + 1)) by rw [dj]; exact seen_no q))
      have ISP := hid (show isP v o (x : Int) y = (colOn o (x : Int) && !(oxP v o (x : Int) y == 0)) from rfl)
      have ob := ox_bd v o (x : Int) y
      clear dj ho hc l1 l2 tb pb lo_ hi_
      generalize isP v o (x : Int) y = isp at *
      generalize oxP v o (x : Int) y = px at *
      generalize oloP v o y = lo at *
      generalize ohiP v o y = hi at *
      generalize colI o (x : Int) = ci at *
      generalize colOn o (x : Int) = con at *
      generalize tileR o y t = tr at *
      generalize rowR o y t = rr at *
      generalize onP o y t = oo at *
      obtain ⟨⟨oy, ly⟩, ⟨ox, lx⟩, ⟨ot, lt⟩, ⟨oatt, la⟩, ⟨onn, ln⟩⟩ := o
      simp only [obV, b8] at COL ROW
      cases con
      · obtain ⟨o0, o1, o2, o3, o4⟩ := oat_kept K4.out (by rw [addFB]; exact hxx) OC.out
        simp only [b8] at o0 o1 o2 o3 o4
        go_wp2_with fail
        refine (COL.out _).mono ?_
        rintro e q1 ⟨rfl, k1⟩
        have K5 := hid (K4.out.trans k1)
        have B5 := hid (blk_kept k1 B4.out)
        have Z5 := hid (blk_kept k1 Z4.out)
        clear k1 K4 B4 Z4
        clear o0 o1 o2 o3 o4
        obtain ⟨o0, o1, o2, o3, o4⟩ := oat_kept K5.out (by rw [addFB]; exact hxx) OC.out
        simp only [b8] at o0 o1 o2 o3 o4
        go_wp2_with fail
        refine (ROW.out _).mono ?_
        rintro e q2 ⟨rfl, k1⟩
        have K6 := hid (K5.out.trans k1)
        have B6 := hid (blk_kept k1 B5.out)
        have Z6 := hid (blk_kept k1 Z5.out)
        clear k1 K5 B5 Z5
        clear o0 o1 o2 o3 o4
        go_wp2_with fail
        refine (PL.out _).mono ?_
        rintro e ux ⟨rfl, rfl⟩
        go_wp2_with fail
        obtain ⟨d0, d1, d2, d3, d4, d5, d6, d7, d8, d9⟩ := ten18 B6.out
        refine wp_region_held_drew (S := (fun w' => w'.cell? ⟨w.heap.size, 0, none⟩ = some (.int .u8 v.ctl) ∧ w'.cell? ⟨w.heap.size, 1, none⟩ = some (.int .u8 v.scy) ∧ w'.cell? ⟨w.heap.size, 2, none⟩ = some (.int .u8 v.scx) ∧ w'.cell? ⟨w.heap.size, 3, none⟩ = some (.int .u8 v.wy) ∧ w'.cell? ⟨w.heap.size, 4, none⟩ = some (.int .u8 v.wx) ∧ w'.cell? ⟨w.heap.size, 5, none⟩ = some (.int .u8 v.bgp) ∧ w'.cell? ⟨w.heap.size, 6, none⟩ = some (.int .u8 v.o0) ∧ w'.cell? ⟨w.heap.size, 7, none⟩ = some (.int .u8 v.o1) ∧ w'.cell? ⟨w.heap.size, 8, none⟩ = some (.slice v.va vn v.vc) ∧ w'.cell? ⟨w.heap.size, 9, none⟩ = some (.slice v.oa on v.oc))) (by kernel_rfl) (by go_keep) (fun hHeld => ?_)
        clear d0 d1 d2 d3 d4 d5 d6 d7 d8 d9
        have K7 := hid K6.out.drew
        have B7 := hid (blk_drew B6.out)
        have Z7 := hid (blk_drew Z6.out)
        clear K6 B6 Z6
        obtain ⟨d0, d1, d2, d3, d4, d5, d6, d7, d8, d9⟩ := ten18 B7.out
        refine wpAnyH_take (i := 0) (v := ?_) rfl (by kernel_rfl) (by kernel_rfl) (by kernel_rfl) (fun _ _ _ h => h) (Or.inl ⟨by rfl, ?_⟩) (by assumption) ?_
        rotate_left
        · intro w hSw
          (try dsimp only at hSw)
          obtain ⟨s0, s1, s2, s3, s4, s5, s6, s7, s8, s9⟩ := hSw
          go_simp
          try with_reducible rfl
        simp only [Act.put, List.getElem_toArray, List.getElem_cons_succ, List.getElem_cons_zero, List.setIfInBounds_toArray, List.set_cons_zero, List.set_cons_succ]
        refine wpAnyH_take (i := 1) (v := ?_) rfl (by kernel_rfl) (by kernel_rfl) (by kernel_rfl) (fun _ _ _ h => h) (Or.inl ⟨by rfl, ?_⟩) (by assumption) ?_
        rotate_left
        · intro w hSw
          (try dsimp only at hSw)
          obtain ⟨s0, s1, s2, s3, s4, s5, s6, s7, s8, s9⟩ := hSw
          go_simp
          try with_reducible rfl
        simp only [Act.put, List.getElem_toArray, List.getElem_cons_succ, List.getElem_cons_zero, List.setIfInBounds_toArray, List.set_cons_zero, List.set_cons_succ]
        refine wpAnyH_take (i := 2) (v := ?_) rfl (by kernel_rfl) (by kernel_rfl) (by kernel_rfl) (fun _ _ _ h => h) (Or.inl ⟨by rfl, ?_⟩) (by assumption) ?_
        rotate_left
        · intro w hSw
          (try dsimp only at hSw)
          obtain ⟨s0, s1, s2, s3, s4, s5, s6, s7, s8, s9⟩ := hSw
          go_simp
          try with_reducible rfl
        simp only [Act.put, List.getElem_toArray, List.getElem_cons_succ, List.getElem_cons_zero, List.setIfInBounds_toArray, List.set_cons_zero, List.set_cons_succ]
        refine wpAnyH_take (i := 4) (v := ?_) rfl (by kernel_rfl) (by kernel_rfl) (by kernel_rfl) (fun _ _ _ h => h) (Or.inl ⟨by rfl, ?_⟩) (by assumption) ?_
        rotate_left
        · intro w hSw
          (try dsimp only at hSw)
          obtain ⟨s0, s1, s2, s3, s4, s5, s6, s7, s8, s9⟩ := hSw
          go_simp
          try with_reducible rfl
        simp only [Act.put, List.getElem_toArray, List.getElem_cons_succ, List.getElem_cons_zero, List.setIfInBounds_toArray, List.set_cons_zero, List.set_cons_succ]
        refine wpAnyH_take (i := 5) (v := ?_) rfl (by kernel_rfl) (by kernel_rfl) (by kernel_rfl) (fun _ _ _ h => h) (Or.inl ⟨by rfl, ?_⟩) (by assumption) ?_
        rotate_left
        · intro w hSw
          (try dsimp only at hSw)
          obtain ⟨s0, s1, s2, s3, s4, s5, s6, s7, s8, s9⟩ := hSw
          go_simp
          try with_reducible rfl
        simp only [Act.put, List.getElem_toArray, List.getElem_cons_succ, List.getElem_cons_zero, List.setIfInBounds_toArray, List.set_cons_zero, List.set_cons_succ]
        refine wpAnyH_take (i := 6) (v := ?_) rfl (by kernel_rfl) (by kernel_rfl) (by kernel_rfl) (fun _ _ _ h => h) (Or.inl ⟨by rfl, ?_⟩) (by assumption) ?_
        rotate_left
        · intro w hSw
          (try dsimp only at hSw)
          obtain ⟨s0, s1, s2, s3, s4, s5, s6, s7, s8, s9⟩ := hSw
          go_simp
          try with_reducible rfl
        simp only [Act.put, List.getElem_toArray, List.getElem_cons_succ, List.getElem_cons_zero, List.setIfInBounds_toArray, List.set_cons_zero, List.set_cons_succ]
        refine wpAnyH_take (i := 7) (v := ?_) rfl (by kernel_rfl) (by kernel_rfl) (by kernel_rfl) (fun _ _ _ h => h) (Or.inl ⟨by rfl, ?_⟩) (by assumption) ?_
        rotate_left
        · intro w hSw
          (try dsimp only at hSw)
          obtain ⟨s0, s1, s2, s3, s4, s5, s6, s7, s8, s9⟩ := hSw
          go_simp
          try with_reducible rfl
        simp only [Act.put, List.getElem_toArray, List.getElem_cons_succ, List.getElem_cons_zero, List.setIfInBounds_toArray, List.set_cons_zero, List.set_cons_succ]
        refine wpAnyH_take (i := 9) (v := ?_) rfl (by kernel_rfl) (by kernel_rfl) (by kernel_rfl) (fun _ _ _ h => h) (Or.inl ⟨by rfl, ?_⟩) (by assumption) ?_
        rotate_left
        · intro w hSw
          (try dsimp only at hSw)
          obtain ⟨s0, s1, s2, s3, s4, s5, s6, s7, s8, s9⟩ := hSw
          go_simp
          try with_reducible rfl
        simp only [Act.put, List.getElem_toArray, List.getElem_cons_succ, List.getElem_cons_zero, List.setIfInBounds_toArray, List.set_cons_zero, List.set_cons_succ]
        refine wpAnyH_ready (rs := [3]) (by kernel_rfl) (by simp) ?_
        refine AllReadyH.cons rfl (fun K hK => ?_) AllReadyH.nil
        go_simp
        refine (A2.out _ (row_kept K7.out R0.out)).mono ?_
        rintro e q3 ⟨rfl, k1⟩
        have K8 := hid (K7.out.trans k1)
        have B8 := hid (blk_kept k1 B7.out)
        have Z8 := hid (blk_kept k1 Z7.out)
        clear k1 K7 B7 Z7
        clear d0 d1 d2 d3 d4 d5 d6 d7 d8 d9
        obtain ⟨d0, d1, d2, d3, d4, d5, d6, d7, d8, d9⟩ := ten18 B8.out
        refine hK.out _ _ (by go_keep) (fun hHeld => ?_)
        clear hK K
        try simp only [Act.put, List.getElem_toArray, List.getElem_cons_succ, List.getElem_cons_zero, List.setIfInBounds_toArray, List.set_cons_zero, List.set_cons_succ]
        refine wpAnyH_ready (rs := [8]) (by kernel_rfl) (by simp) ?_
        refine AllReadyH.cons rfl (fun K hK => ?_) AllReadyH.nil
        go_simp
        refine (A3.out _ (row_kept K8.out R0.out)).mono ?_
        rintro e q4 ⟨rfl, k1⟩
        have K9 := hid (K8.out.trans k1)
        have B9 := hid (blk_kept k1 B8.out)
        have Z9 := hid (blk_kept k1 Z8.out)
        clear k1 K8 B8 Z8
        clear d0 d1 d2 d3 d4 d5 d6 d7 d8 d9
        obtain ⟨d0, d1, d2, d3, d4, d5, d6, d7, d8, d9⟩ := ten18 B9.out
        refine hK.out _ _ (by go_keep) (fun hHeld => ?_)
        clear hK K
        try simp only [Act.put, List.getElem_toArray, List.getElem_cons_succ, List.getElem_cons_zero, List.setIfInBounds_toArray, List.set_cons_zero, List.set_cons_succ]
        refine wpAnyH_ready (rs := [10]) (by kernel_rfl) (by simp) ?_
        refine AllReadyH.cons rfl (fun K hK => ?_) AllReadyH.nil
        go_simp
        refine (PX.out _).mono ?_
        rintro e q5 ⟨rfl, k1⟩
        have K10 := hid (K9.out.trans k1)
        have B10 := hid (blk_kept k1 B9.out)
        have Z10 := hid (blk_kept k1 Z9.out)
        clear k1 K9 B9 Z9
        clear d0 d1 d2 d3 d4 d5 d6 d7 d8 d9
        obtain ⟨d0, d1, d2, d3, d4, d5, d6, d7, d8, d9⟩ := ten18 B10.out
        refine hK.out _ _ (by go_keep) (fun hHeld => ?_)
        clear hK K
        try simp only [Act.put, List.getElem_toArray, List.getElem_cons_succ, List.getElem_cons_zero, List.setIfInBounds_toArray, List.set_cons_zero, List.set_cons_succ]
        refine wpAnyH_take (i := 11) (v := ?_) rfl (by kernel_rfl) (by kernel_rfl) (by kernel_rfl) (fun _ _ _ h => h) (Or.inl ⟨by rfl, ?_⟩) (by assumption) ?_
        rotate_left
        · intro w hSw
          (try dsimp only at hSw)
          obtain ⟨s0, s1, s2, s3, s4, s5, s6, s7, s8, s9⟩ := hSw
          go_simp
          try with_reducible rfl
        simp only [Act.put, List.getElem_toArray, List.getElem_cons_succ, List.getElem_cons_zero, List.setIfInBounds_toArray, List.set_cons_zero, List.set_cons_succ]
        refine wpAnyH_done (by kernel_rfl) ?_ _
        clear hHeld
        clear d0 d1 d2 d3 d4 d5 d6 d7 d8 d9
        have IF : isp = false := by rw [ISP.out]; rfl
        go_wp2_with fail
        go_roundw
        case rel => exact ⟨j + 1, by omega, by first | go_num | rfl, by show _ = _; rw [HS.out, QN.out IF], Z10.out, B10.out, K10.out⟩
        case measure => first | omega | (simp; omega) | (simp [intOf]; omega)
      · by_cases hp : px = 0
        · subst hp
          obtain ⟨o0, o1, o2, o3, o4⟩ := oat_kept K4.out (by rw [addFB]; exact hxx) OC.out
          simp only [b8] at o0 o1 o2 o3 o4
          go_wp2_with fail
          refine (COL.out _).mono ?_
          rintro e q1 ⟨rfl, k1⟩
          have K5 := hid (K4.out.trans k1)
          have B5 := hid (blk_kept k1 B4.out)
          have Z5 := hid (blk_kept k1 Z4.out)
          clear k1 K4 B4 Z4
          clear o0 o1 o2 o3 o4
          obtain ⟨o0, o1, o2, o3, o4⟩ := oat_kept K5.out (by rw [addFB]; exact hxx) OC.out
          simp only [b8] at o0 o1 o2 o3 o4
          go_wp2_with fail
          refine (ROW.out _).mono ?_
          rintro e q2 ⟨rfl, k1⟩
          have K6 := hid (K5.out.trans k1)
          have B6 := hid (blk_kept k1 B5.out)
          have Z6 := hid (blk_kept k1 Z5.out)
          clear k1 K5 B5 Z5
          clear o0 o1 o2 o3 o4
          go_wp2_with fail
          refine (PL.out _).mono ?_
          rintro e ux ⟨rfl, rfl⟩
          go_wp2_with fail
          obtain ⟨d0, d1, d2, d3, d4, d5, d6, d7, d8, d9⟩ := ten18 B6.out
          refine wp_region_held_drew (S := (fun w' => w'.cell? ⟨w.heap.size, 0, none⟩ = some (.int .u8 v.ctl) ∧ w'.cell? ⟨w.heap.size, 1, none⟩ = some (.int .u8 v.scy) ∧ w'.cell? ⟨w.heap.size, 2, none⟩ = some (.int .u8 v.scx) ∧ w'.cell? ⟨w.heap.size, 3, none⟩ = some (.int .u8 v.wy) ∧ w'.cell? ⟨w.heap.size, 4, none⟩ = some (.int .u8 v.wx) ∧ w'.cell? ⟨w.heap.size, 5, none⟩ = some (.int .u8 v.bgp) ∧ w'.cell? ⟨w.heap.size, 6, none⟩ = some (.int .u8 v.o0) ∧ w'.cell? ⟨w.heap.size, 7, none⟩ = some (.int .u8 v.o1) ∧ w'.cell? ⟨w.heap.size, 8, none⟩ = some (.slice v.va vn v.vc) ∧ w'.cell? ⟨w.heap.size, 9, none⟩ = some (.slice v.oa on v.oc))) (by kernel_rfl) (by go_keep) (fun hHeld => ?_)
          clear d0 d1 d2 d3 d4 d5 d6 d7 d8 d9
          have K7 := hid K6.out.drew
          have B7 := hid (blk_drew B6.out)
          have Z7 := hid (blk_drew Z6.out)
          clear K6 B6 Z6
          obtain ⟨d0, d1, d2, d3, d4, d5, d6, d7, d8, d9⟩ := ten18 B7.out
          refine wpAnyH_take (i := 0) (v := ?_) rfl (by kernel_rfl) (by kernel_rfl) (by kernel_rfl) (fun _ _ _ h => h) (Or.inl ⟨by rfl, ?_⟩) (by assumption) ?_
          rotate_left
          · intro w hSw
            (try dsimp only at hSw)
            obtain ⟨s0, s1, s2, s3, s4, s5, s6, s7, s8, s9⟩ := hSw
            go_simp
            try with_reducible rfl
          simp only [Act.put, List.getElem_toArray, List.getElem_cons_succ, List.getElem_cons_zero, List.setIfInBounds_toArray, List.set_cons_zero, List.set_cons_succ]
          refine wpAnyH_take (i := 1) (v := ?_) rfl (by kernel_rfl) (by kernel_rfl) (by kernel_rfl) (fun _ _ _ h => h) (Or.inl ⟨by rfl, ?_⟩) (by assumption) ?_
          rotate_left
          · intro w hSw
            (try dsimp only at hSw)
            obtain ⟨s0, s1, s2, s3, s4, s5, s6, s7, s8, s9⟩ := hSw
            go_simp
            try with_reducible rfl
          simp only [Act.put, List.getElem_toArray, List.getElem_cons_succ, List.getElem_cons_zero, List.setIfInBounds_toArray, List.set_cons_zero, List.set_cons_succ]
          refine wpAnyH_take (i := 2) (v := ?_) rfl (by kernel_rfl) (by kernel_rfl) (by kernel_rfl) (fun _ _ _ h => h) (Or.inl ⟨by rfl, ?_⟩) (by assumption) ?_
          rotate_left
          · intro w hSw
            (try dsimp only at hSw)
            obtain ⟨s0, s1, s2, s3, s4, s5, s6, s7, s8, s9⟩ := hSw
            go_simp
            try with_reducible rfl
          simp only [Act.put, List.getElem_toArray, List.getElem_cons_succ, List.getElem_cons_zero, List.setIfInBounds_toArray, List.set_cons_zero, List.set_cons_succ]
          refine wpAnyH_take (i := 4) (v := ?_) rfl (by kernel_rfl) (by kernel_rfl) (by kernel_rfl) (fun _ _ _ h => h) (Or.inl ⟨by rfl, ?_⟩) (by assumption) ?_
          rotate_left
          · intro w hSw
            (try dsimp only at hSw)
            obtain ⟨s0, s1, s2, s3, s4, s5, s6, s7, s8, s9⟩ := hSw
            go_simp
            try with_reducible rfl
          simp only [Act.put, List.getElem_toArray, List.getElem_cons_succ, List.getElem_cons_zero, List.setIfInBounds_toArray, List.set_cons_zero, List.set_cons_succ]
          refine wpAnyH_take (i := 5) (v := ?_) rfl (by kernel_rfl) (by kernel_rfl) (by kernel_rfl) (fun _ _ _ h => h) (Or.inl ⟨by rfl, ?_⟩) (by assumption) ?_
          rotate_left
          · intro w hSw
            (try dsimp only at hSw)
            obtain ⟨s0, s1, s2, s3, s4, s5, s6, s7, s8, s9⟩ := hSw
            go_simp
            try with_reducible rfl
          simp only [Act.put, List.getElem_toArray, List.getElem_cons_succ, List.getElem_cons_zero, List.setIfInBounds_toArray, List.set_cons_zero, List.set_cons_succ]
          refine wpAnyH_take (i := 6) (v := ?_) rfl (by kernel_rfl) (by kernel_rfl) (by kernel_rfl) (fun _ _ _ h => h) (Or.inl ⟨by rfl, ?_⟩) (by assumption) ?_
          rotate_left
          · intro w hSw
            (try dsimp only at hSw)
            obtain ⟨s0, s1, s2, s3, s4, s5, s6, s7, s8, s9⟩ := hSw
            go_simp
            try with_reducible rfl
          simp only [Act.put, List.getElem_toArray, List.getElem_cons_succ, List.getElem_cons_zero, List.setIfInBounds_toArray, List.set_cons_zero, List.set_cons_succ]
          refine wpAnyH_take (i := 7) (v := ?_) rfl (by kernel_rfl) (by kernel_rfl) (by kernel_rfl) (fun _ _ _ h => h) (Or.inl ⟨by rfl, ?_⟩) (by assumption) ?_
          rotate_left
          · intro w hSw
            (try dsimp only at hSw)
            obtain ⟨s0, s1, s2, s3, s4, s5, s6, s7, s8, s9⟩ := hSw
            go_simp
            try with_reducible rfl
          simp only [Act.put, List.getElem_toArray, List.getElem_cons_succ, List.getElem_cons_zero, List.setIfInBounds_toArray, List.set_cons_zero, List.set_cons_succ]
          refine wpAnyH_take (i := 9) (v := ?_) rfl (by kernel_rfl) (by kernel_rfl) (by kernel_rfl) (fun _ _ _ h => h) (Or.inl ⟨by rfl, ?_⟩) (by assumption) ?_
          rotate_left
          · intro w hSw
            (try dsimp only at hSw)
            obtain ⟨s0, s1, s2, s3, s4, s5, s6, s7, s8, s9⟩ := hSw
            go_simp
            try with_reducible rfl
          simp only [Act.put, List.getElem_toArray, List.getElem_cons_succ, List.getElem_cons_zero, List.setIfInBounds_toArray, List.set_cons_zero, List.set_cons_succ]
          refine wpAnyH_ready (rs := [3]) (by kernel_rfl) (by simp) ?_
          refine AllReadyH.cons rfl (fun K hK => ?_) AllReadyH.nil
          go_simp
          refine (A2.out _ (row_kept K7.out R0.out)).mono ?_
          rintro e q3 ⟨rfl, k1⟩
          have K8 := hid (K7.out.trans k1)
          have B8 := hid (blk_kept k1 B7.out)
          have Z8 := hid (blk_kept k1 Z7.out)
          clear k1 K7 B7 Z7
          clear d0 d1 d2 d3 d4 d5 d6 d7 d8 d9
          obtain ⟨d0, d1, d2, d3, d4, d5, d6, d7, d8, d9⟩ := ten18 B8.out
          refine hK.out _ _ (by go_keep) (fun hHeld => ?_)
          clear hK K
          try simp only [Act.put, List.getElem_toArray, List.getElem_cons_succ, List.getElem_cons_zero, List.setIfInBounds_toArray, List.set_cons_zero, List.set_cons_succ]
          refine wpAnyH_ready (rs := [8]) (by kernel_rfl) (by simp) ?_
          refine AllReadyH.cons rfl (fun K hK => ?_) AllReadyH.nil
          go_simp
          refine (A3.out _ (row_kept K8.out R0.out)).mono ?_
          rintro e q4 ⟨rfl, k1⟩
          have K9 := hid (K8.out.trans k1)
          have B9 := hid (blk_kept k1 B8.out)
          have Z9 := hid (blk_kept k1 Z8.out)
          clear k1 K8 B8 Z8
          clear d0 d1 d2 d3 d4 d5 d6 d7 d8 d9
          obtain ⟨d0, d1, d2, d3, d4, d5, d6, d7, d8, d9⟩ := ten18 B9.out
          refine hK.out _ _ (by go_keep) (fun hHeld => ?_)
          clear hK K
          try simp only [Act.put, List.getElem_toArray, List.getElem_cons_succ, List.getElem_cons_zero, List.setIfInBounds_toArray, List.set_cons_zero, List.set_cons_succ]
          refine wpAnyH_ready (rs := [10]) (by kernel_rfl) (by simp) ?_
          refine AllReadyH.cons rfl (fun K hK => ?_) AllReadyH.nil
          go_simp
          refine (PX.out _).mono ?_
          rintro e q5 ⟨rfl, k1⟩
          have K10 := hid (K9.out.trans k1)
          have B10 := hid (blk_kept k1 B9.out)
          have Z10 := hid (blk_kept k1 Z9.out)
          clear k1 K9 B9 Z9
          clear d0 d1 d2 d3 d4 d5 d6 d7 d8 d9
          obtain ⟨d0, d1, d2, d3, d4, d5, d6, d7, d8, d9⟩ := ten18 B10.out
          refine hK.out _ _ (by go_keep) (fun hHeld => ?_)
          clear hK K
          try simp only [Act.put, List.getElem_toArray, List.getElem_cons_succ, List.getElem_cons_zero, List.setIfInBounds_toArray, List.set_cons_zero, List.set_cons_succ]
          refine wpAnyH_take (i := 11) (v := ?_) rfl (by kernel_rfl) (by kernel_rfl) (by kernel_rfl) (fun _ _ _ h => h) (Or.inl ⟨by rfl, ?_⟩) (by assumption) ?_
          rotate_left
          · intro w hSw
            (try dsimp only at hSw)
            obtain ⟨s0, s1, s2, s3, s4, s5, s6, s7, s8, s9⟩ := hSw
            go_simp
            try with_reducible rfl
          simp only [Act.put, List.getElem_toArray, List.getElem_cons_succ, List.getElem_cons_zero, List.setIfInBounds_toArray, List.set_cons_zero, List.set_cons_succ]
          refine wpAnyH_done (by kernel_rfl) ?_ _
          clear hHeld
          clear d0 d1 d2 d3 d4 d5 d6 d7 d8 d9
          have IF : isp = false := by rw [ISP.out]; rfl
          go_wp2_with fail
          go_roundw
          case rel => exact ⟨j + 1, by omega, by first | go_num | rfl, by show _ = _; rw [HS.out, QN.out IF], Z10.out, B10.out, K10.out⟩
          case measure => first | omega | (simp; omega) | (simp [intOf]; omega)
        · have g5 : (px == 0) = false := by simpa using hp
          have IT : isp = true := by rw [ISP.out, g5]; rfl
          have RES : Hid (seenP v (x : Int) y L = (⟨⟨oy, ly⟩, ⟨ox, lx⟩, ⟨ot, lt⟩, ⟨oatt, la⟩, ⟨onn, ln⟩⟩, px)) := by show _ = _; rw [HS.out, QY.out IT]
          obtain ⟨o0, o1, o2, o3, o4⟩ := oat_kept K4.out (by rw [addFB]; exact hxx) OC.out
          simp only [b8] at o0 o1 o2 o3 o4
          go_wp2_with fail
          refine (COL.out _).mono ?_
          rintro e q1 ⟨rfl, k1⟩
          have K5 := hid (K4.out.trans k1)
          have B5 := hid (blk_kept k1 B4.out)
          have Z5 := hid (blk_kept k1 Z4.out)
          clear k1 K4 B4 Z4
          clear o0 o1 o2 o3 o4
          obtain ⟨o0, o1, o2, o3, o4⟩ := oat_kept K5.out (by rw [addFB]; exact hxx) OC.out
          simp only [b8] at o0 o1 o2 o3 o4
          go_wp2_with fail
          refine (ROW.out _).mono ?_
          rintro e q2 ⟨rfl, k1⟩
          have K6 := hid (K5.out.trans k1)
          have B6 := hid (blk_kept k1 B5.out)
          have Z6 := hid (blk_kept k1 Z5.out)
          clear k1 K5 B5 Z5
          clear o0 o1 o2 o3 o4
          go_wp2_with fail
          refine (PL.out _).mono ?_
          rintro e ux ⟨rfl, rfl⟩
          go_wp2_with fail
          obtain ⟨d0, d1, d2, d3, d4, d5, d6, d7, d8, d9⟩ := ten18 B6.out
          refine wp_region_held_drew (S := (fun w' => w'.cell? ⟨w.heap.size, 0, none⟩ = some (.int .u8 v.ctl) ∧ w'.cell? ⟨w.heap.size, 1, none⟩ = some (.int .u8 v.scy) ∧ w'.cell? ⟨w.heap.size, 2, none⟩ = some (.int .u8 v.scx) ∧ w'.cell? ⟨w.heap.size, 3, none⟩ = some (.int .u8 v.wy) ∧ w'.cell? ⟨w.heap.size, 4, none⟩ = some (.int .u8 v.wx) ∧ w'.cell? ⟨w.heap.size, 5, none⟩ = some (.int .u8 v.bgp) ∧ w'.cell? ⟨w.heap.size, 6, none⟩ = some (.int .u8 v.o0) ∧ w'.cell? ⟨w.heap.size, 7, none⟩ = some (.int .u8 v.o1) ∧ w'.cell? ⟨w.heap.size, 8, none⟩ = some (.slice v.va vn v.vc) ∧ w'.cell? ⟨w.heap.size, 9, none⟩ = some (.slice v.oa on v.oc))) (by kernel_rfl) (by go_keep) (fun hHeld => ?_)
          clear d0 d1 d2 d3 d4 d5 d6 d7 d8 d9
          have K7 := hid K6.out.drew
          have B7 := hid (blk_drew B6.out)
          have Z7 := hid (blk_drew Z6.out)
          clear K6 B6 Z6
          obtain ⟨d0, d1, d2, d3, d4, d5, d6, d7, d8, d9⟩ := ten18 B7.out
          refine wpAnyH_take (i := 0) (v := ?_) rfl (by kernel_rfl) (by kernel_rfl) (by kernel_rfl) (fun _ _ _ h => h) (Or.inl ⟨by rfl, ?_⟩) (by assumption) ?_
          rotate_left
          · intro w hSw
            (try dsimp only at hSw)
            obtain ⟨s0, s1, s2, s3, s4, s5, s6, s7, s8, s9⟩ := hSw
            go_simp
            try with_reducible rfl
          simp only [Act.put, List.getElem_toArray, List.getElem_cons_succ, List.getElem_cons_zero, List.setIfInBounds_toArray, List.set_cons_zero, List.set_cons_succ]
          refine wpAnyH_take (i := 1) (v := ?_) rfl (by kernel_rfl) (by kernel_rfl) (by kernel_rfl) (fun _ _ _ h => h) (Or.inl ⟨by rfl, ?_⟩) (by assumption) ?_
          rotate_left
          · intro w hSw
            (try dsimp only at hSw)
            obtain ⟨s0, s1, s2, s3, s4, s5, s6, s7, s8, s9⟩ := hSw
            go_simp
            try with_reducible rfl
          simp only [Act.put, List.getElem_toArray, List.getElem_cons_succ, List.getElem_cons_zero, List.setIfInBounds_toArray, List.set_cons_zero, List.set_cons_succ]
          refine wpAnyH_take (i := 2) (v := ?_) rfl (by kernel_rfl) (by kernel_rfl) (by kernel_rfl) (fun _ _ _ h => h) (Or.inl ⟨by rfl, ?_⟩) (by assumption) ?_
          rotate_left
          · intro w hSw
            (try dsimp only at hSw)
            obtain ⟨s0, s1, s2, s3, s4, s5, s6, s7, s8, s9⟩ := hSw
            go_simp
            try with_reducible rfl
          simp only [Act.put, List.getElem_toArray, List.getElem_cons_succ, List.getElem_cons_zero, List.setIfInBounds_toArray, List.set_cons_zero, List.set_cons_succ]
          refine wpAnyH_take (i := 4) (v := ?_) rfl (by kernel_rfl) (by kernel_rfl) (by kernel_rfl) (fun _ _ _ h => h) (Or.inl ⟨by rfl, ?_⟩) (by assumption) ?_
          rotate_left
          · intro w hSw
            (try dsimp only at hSw)
            obtain ⟨s0, s1, s2, s3, s4, s5, s6, s7, s8, s9⟩ := hSw
            go_simp
            try with_reducible rfl
          simp only [Act.put, List.getElem_toArray, List.getElem_cons_succ, List.getElem_cons_zero, List.setIfInBounds_toArray, List.set_cons_zero, List.set_cons_succ]
          refine wpAnyH_take (i := 5) (v := ?_) rfl (by kernel_rfl) (by kernel_rfl) (by kernel_rfl) (fun _ _ _ h => h) (Or.inl ⟨by rfl, ?_⟩) (by assumption) ?_
          rotate_left
          · intro w hSw
            (try dsimp only at hSw)
            obtain ⟨s0, s1, s2, s3, s4, s5, s6, s7, s8, s9⟩ := hSw
            go_simp
            try with_reducible rfl
          simp only [Act.put, List.getElem_toArray, List.getElem_cons_succ, List.getElem_cons_zero, List.setIfInBounds_toArray, List.set_cons_zero, List.set_cons_succ]
          refine wpAnyH_take (i := 6) (v := ?_) rfl (by kernel_rfl) (by kernel_rfl) (by kernel_rfl) (fun _ _ _ h => h) (Or.inl ⟨by rfl, ?_⟩) (by assumption) ?_
          rotate_left
          · intro w hSw
            (try dsimp only at hSw)
            obtain ⟨s0, s1, s2, s3, s4, s5, s6, s7, s8, s9⟩ := hSw
            go_simp
            try with_reducible rfl
          simp only [Act.put, List.getElem_toArray, List.getElem_cons_succ, List.getElem_cons_zero, List.setIfInBounds_toArray, List.set_cons_zero, List.set_cons_succ]
          refine wpAnyH_take (i := 7) (v := ?_) rfl (by kernel_rfl) (by kernel_rfl) (by kernel_rfl) (fun _ _ _ h => h) (Or.inl ⟨by rfl, ?_⟩) (by assumption) ?_
          rotate_left
          · intro w hSw
            (try dsimp only at hSw)
            obtain ⟨s0, s1, s2, s3, s4, s5, s6, s7, s8, s9⟩ := hSw
            go_simp
            try with_reducible rfl
          simp only [Act.put, List.getElem_toArray, List.getElem_cons_succ, List.getElem_cons_zero, List.setIfInBounds_toArray, List.set_cons_zero, List.set_cons_succ]
          refine wpAnyH_take (i := 9) (v := ?_) rfl (by kernel_rfl) (by kernel_rfl) (by kernel_rfl) (fun _ _ _ h => h) (Or.inl ⟨by rfl, ?_⟩) (by assumption) ?_
          rotate_left
          · intro w hSw
            (try dsimp only at hSw)
            obtain ⟨s0, s1, s2, s3, s4, s5, s6, s7, s8, s9⟩ := hSw
            go_simp
            try with_reducible rfl
          simp only [Act.put, List.getElem_toArray, List.getElem_cons_succ, List.getElem_cons_zero, List.setIfInBounds_toArray, List.set_cons_zero, List.set_cons_succ]
          refine wpAnyH_ready (rs := [3]) (by kernel_rfl) (by simp) ?_
          refine AllReadyH.cons rfl (fun K hK => ?_) AllReadyH.nil
          go_simp
          refine (A2.out _ (row_kept K7.out R0.out)).mono ?_
          rintro e q3 ⟨rfl, k1⟩
          have K8 := hid (K7.out.trans k1)
          have B8 := hid (blk_kept k1 B7.out)
          have Z8 := hid (blk_kept k1 Z7.out)
          clear k1 K7 B7 Z7
          clear d0 d1 d2 d3 d4 d5 d6 d7 d8 d9
          obtain ⟨d0, d1, d2, d3, d4, d5, d6, d7, d8, d9⟩ := ten18 B8.out
          refine hK.out _ _ (by go_keep) (fun hHeld => ?_)
          clear hK K
          try simp only [Act.put, List.getElem_toArray, List.getElem_cons_succ, List.getElem_cons_zero, List.setIfInBounds_toArray, List.set_cons_zero, List.set_cons_succ]
          refine wpAnyH_ready (rs := [8]) (by kernel_rfl) (by simp) ?_
          refine AllReadyH.cons rfl (fun K hK => ?_) AllReadyH.nil
          go_simp
          refine (A3.out _ (row_kept K8.out R0.out)).mono ?_
          rintro e q4 ⟨rfl, k1⟩
          have K9 := hid (K8.out.trans k1)
          have B9 := hid (blk_kept k1 B8.out)
          have Z9 := hid (blk_kept k1 Z8.out)
          clear k1 K8 B8 Z8
          clear d0 d1 d2 d3 d4 d5 d6 d7 d8 d9
          obtain ⟨d0, d1, d2, d3, d4, d5, d6, d7, d8, d9⟩ := ten18 B9.out
          refine hK.out _ _ (by go_keep) (fun hHeld => ?_)
          clear hK K
          try simp only [Act.put, List.getElem_toArray, List.getElem_cons_succ, List.getElem_cons_zero, List.setIfInBounds_toArray, List.set_cons_zero, List.set_cons_succ]
          refine wpAnyH_ready (rs := [10]) (by kernel_rfl) (by simp) ?_
          refine AllReadyH.cons rfl (fun K hK => ?_) AllReadyH.nil
          go_simp
          refine (PX.out _).mono ?_
          rintro e q5 ⟨rfl, k1⟩
          have K10 := hid (K9.out.trans k1)
          have B10 := hid (blk_kept k1 B9.out)
          have Z10 := hid (blk_kept k1 Z9.out)
          clear k1 K9 B9 Z9
          clear d0 d1 d2 d3 d4 d5 d6 d7 d8 d9
          obtain ⟨d0, d1, d2, d3, d4, d5, d6, d7, d8, d9⟩ := ten18 B10.out
          refine hK.out _ _ (by go_keep) (fun hHeld => ?_)
          clear hK K
          try simp only [Act.put, List.getElem_toArray, List.getElem_cons_succ, List.getElem_cons_zero, List.setIfInBounds_toArray, List.set_cons_zero, List.set_cons_succ]
          refine wpAnyH_take (i := 11) (v := ?_) rfl (by kernel_rfl) (by kernel_rfl) (by kernel_rfl) (fun _ _ _ h => h) (Or.inl ⟨by rfl, ?_⟩) (by assumption) ?_
          rotate_left
          · intro w hSw
            (try dsimp only at hSw)
            obtain ⟨s0, s1, s2, s3, s4, s5, s6, s7, s8, s9⟩ := hSw
            go_simp
            try with_reducible rfl
          simp only [Act.put, List.getElem_toArray, List.getElem_cons_succ, List.getElem_cons_zero, List.setIfInBounds_toArray, List.set_cons_zero, List.set_cons_succ]
          refine wpAnyH_done (by kernel_rfl) ?_ _
          clear hHeld
          clear d0 d1 d2 d3 d4 d5 d6 d7 d8 d9
          obtain ⟨o0, o1, o2, o3, o4⟩ := oat_kept K10.out (by rw [addFB]; exact hxx) OC.out
          simp only [b8] at o0 o1 o2 o3 o4
          have BR := Z10.out
          clear Z10
          go_wp2_with (((with_reducible refine at_st 62 ?_); refine wl_store rfl rfl rfl rfl BR (by kernel_rfl) rfl (Nat.le_of_ble_eq_true rfl) (fun v3 p3 => ?_); have B3 : Blk v3 (w.heap.size + 1) 62 [.int .u8 (oy : Int), .int .u8 (ox : Int), .int .u8 (ot : Int), .int .u8 (oatt : Int), .int .u8 (onn : Int)] := p3.blk; have K3 := hid (p3.kept _ K10.out (Nat.le_succ _)); clear p3))
          refine bodyPost_ret (res_cell2 Try.results44 rfl B3 Try.underlying62 rfl (by kernel_rfl)) rfl ⟨?_, K3.out⟩
          rw [RES.out]; rfl
    · have je : j = n := by omega
      subst je
      have g1 : decide ((j : Int) < (j : Int)) = false := decide_eq_false (by omega)
      have g3 : ¬ (j : Int) < (j : Int) := by omega
      have BR := Z4.out
      have RES : Hid (seenP v (x : Int) y L = (ob0, 0)) := by show _ = _; rw [HS.out, List.drop_eq_nil_of_le (by rw [HN.out]; omega)]; rfl
      clear Z4
      go_wp2_with (((with_reducible refine at_st 62 ?_); refine wl_store rfl rfl rfl rfl BR (by kernel_rfl) rfl (Nat.le_of_ble_eq_true rfl) (fun v3 p3 => ?_); have B3 : Blk v3 (w.heap.size + 1) 62 [.int .u8 0, .int .u8 0, .int .u8 0, .int .u8 0, .int .u8 0] := p3.blk; have K3 := hid (p3.kept _ K4.out (Nat.le_succ _)); clear p3))
      refine bodyPost_ret (res_cell2 Try.results44 rfl B3 Try.underlying62 rfl (by kernel_rfl)) rfl ⟨?_, K3.out⟩
      rw [RES.out]; rfl
set_option maxRecDepth 100000 in
set_option maxHeartbeats 4000000 in
theorem rdot18 (v : Vd) (L : List Ob) (a : Option Addr) (cap : Nat) (x : Nat) (y win : Int) (w : World) (hv : VdIn w v) (h : SlO w a cap L) (hl : L.length ≤ 1000) (hx : x < 160) (y0 : 0 ≤ y) (y1 : y ≤ 255) (w0 : 0 ≤ win) (w1 : win ≤ 255) :
    Calls Try.prog 27 #[vdV v, .slice a L.length cap, .int .i64 (x : Int), .int .u8 y, .int .u8 win] w fun e w' => e = .returned (.int .u8 (dotP v L (x : Int) y win)) ∧ Kept w w' := by
  have C0 := hid (fun u k => rctl18 v 0 u (vdIn_kept k hv))
  have GR := hid (fun u k => rgro18 v x y win u (vdIn_kept k hv) hx y0 y1 w0 w1)
  have OJ := hid (fun u k => robj18 v L a cap x y u (vdIn_kept k hv) (slO_kept k h) hl hx y0 y1)
  have sb := seen_bd v (x : Int) y L
  have gb := gro_bd v (x : Int) y win
  unfold dotP
  generalize seenP v (x : Int) y L = sn at *
  generalize groP v (x : Int) y win = gr at *
  generalize L.length = n at *
  obtain ⟨o, c⟩ := sn
  simp only at sb OJ ⊢
  unfold palP
  have S1X := hid (fun u => rshade17 v.o1 c u hv.q0 hv.q1 sb.1 (by omega))
  have S0X := hid (fun u => rshade17 v.o0 c u hv.p0 hv.p1 sb.1 (by omega))
  have SB := hid (fun u => rshade17 v.bgp gr u hv.b0 hv.b1 gb.1 (by omega))
  have B7 := hid (fun u => rbit_any (o.2.2.2.1.val : Int) 7 u (by omega) (by omega))
  have B4X := hid (fun u => rbit_any (o.2.2.2.1.val : Int) 4 u (by omega) (by omega))
  generalize bitOf (o.2.2.2.1.val : Int) 7 = b7 at *
  generalize bitOf (o.2.2.2.1.val : Int) 4 = b4 at *
  clear hv h
  obtain ⟨⟨oy, ly⟩, ⟨ox, lx⟩, ⟨ot, lt⟩, ⟨oatt, la⟩, ⟨onn, ln⟩⟩ := o
  simp only [obV, b8] at OJ B7 B4X
  obtain ⟨vn, hvn⟩ : ∃ n, v.vz.length = n := ⟨_, rfl⟩
  obtain ⟨on, hon⟩ : ∃ n, v.oz.length = n := ⟨_, rfl⟩
  have VV : vdV v = .agg #[.int .u8 v.ctl, .int .u8 v.scy, .int .u8 v.scx, .int .u8 v.wy, .int .u8 v.wx, .int .u8 v.bgp, .int .u8 v.o0, .int .u8 v.o1, .slice v.va vn v.vc, .slice v.oa on v.oc] := by unfold vdV; rw [hvn, hon]
  rw [VV] at C0 GR OJ ⊢
  clear hvn hon VV
  have K1 : Hid (Kept w (w.alloc (.cells #[.int .u8 v.ctl, .int .u8 v.scy, .int .u8 v.scx, .int .u8 v.wy, .int .u8 v.wx, .int .u8 v.bgp, .int .u8 v.o0, .int .u8 v.o1, .slice v.va vn v.vc, .slice v.oa on v.oc] 24))) := (Kept.refl w).alloc _
  have B1 : Hid (Blk (w.alloc (.cells #[.int .u8 v.ctl, .int .u8 v.scy, .int .u8 v.scx, .int .u8 v.wy, .int .u8 v.wx, .int .u8 v.bgp, .int .u8 v.o0, .int .u8 v.o1, .slice v.va vn v.vc, .slice v.oa on v.oc] 24)) w.heap.size 24 [.int .u8 v.ctl, .int .u8 v.scy, .int .u8 v.scx, .int .u8 v.wy, .int .u8 v.wx, .int .u8 v.bgp, .int .u8 v.o0, .int .u8 v.o1, .slice v.va vn v.vc, .slice v.oa on v.oc]) := blk_new w _ _
  by_cases hc : c = 0
  · subst hc
    simp only [beq_self_eq_true, Bool.not_true, Bool.false_and, Bool.false_eq_true, if_false]
    cases q0 : bitOf v.ctl 0
    · rw [q0] at C0
      simp only [Bool.false_eq_true, if_false]
      clear q0
      go_enter Try.func27, Try.ntmps27
      obtain ⟨d0, d1, d2, d3, d4, d5, d6, d7, d8, d9⟩ := ten18 B1.out
      go_wp2_with fail
      refine (GR.out _ K1.out).mono ?_
      rintro e u1 ⟨rfl, k1⟩
      have K2 := hid (K1.out.trans k1)
      have B2 := hid (blk_kept k1 B1.out)
      clear k1 K1 B1 d0 d1 d2 d3 d4 d5 d6 d7 d8 d9
      obtain ⟨d0, d1, d2, d3, d4, d5, d6, d7, d8, d9⟩ := ten18 B2.out
      go_wp2_with fail
      refine (OJ.out _ K2.out).mono ?_
      rintro e u2 ⟨rfl, k1⟩
      have K3 := hid (K2.out.trans k1)
      have B3 := hid (blk_kept k1 B2.out)
      clear k1 K2 B2 d0 d1 d2 d3 d4 d5 d6 d7 d8 d9
      have A3 := hid ((Kept.refl u2).alloc (.cells #[.int .u8 (oy : Int), .int .u8 (ox : Int), .int .u8 (ot : Int), .int .u8 (oatt : Int), .int .u8 (onn : Int)] 62))
      have K4 := hid (K3.out.trans A3.out)
      have B4 := hid (blk_kept A3.out B3.out)
      have o3 : (u2.alloc (.cells #[.int .u8 (oy : Int), .int .u8 (ox : Int), .int .u8 (ot : Int), .int .u8 (oatt : Int), .int .u8 (onn : Int)] 62)).cell? ⟨u2.heap.size, 3, none⟩ = some (.int .u8 (oatt : Int)) := blk_cell (blk_new u2 [.int .u8 (oy : Int), .int .u8 (ox : Int), .int .u8 (ot : Int), .int .u8 (oatt : Int), .int .u8 (onn : Int)] 62) 3
      clear A3 K3 B3
      obtain ⟨d0, d1, d2, d3, d4, d5, d6, d7, d8, d9⟩ := ten18 B4.out
      go_wp2_with fail
      refine (B7.out _).mono ?_
      rintro e ux ⟨rfl, rfl⟩
      go_wp2_with fail
      refine (C0.out _ K4.out).mono ?_
      rintro e u5 ⟨rfl, k1⟩
      have K5 := hid (K4.out.trans k1)
      have B5 := hid (blk_kept k1 B4.out)
      clear k1 K4 B4 d0 d1 d2 d3 d4 d5 d6 d7 d8 d9
      obtain ⟨d0, d1, d2, d3, d4, d5, d6, d7, d8, d9⟩ := ten18 B5.out
      go_wp2
      go_ret
      exact ⟨rfl, K5.out⟩
    · rw [q0] at C0
      simp only [if_true]
      clear q0
      go_enter Try.func27, Try.ntmps27
      obtain ⟨d0, d1, d2, d3, d4, d5, d6, d7, d8, d9⟩ := ten18 B1.out
      go_wp2_with fail
      refine (GR.out _ K1.out).mono ?_
      rintro e u1 ⟨rfl, k1⟩
      have K2 := hid (K1.out.trans k1)
      have B2 := hid (blk_kept k1 B1.out)
      clear k1 K1 B1 d0 d1 d2 d3 d4 d5 d6 d7 d8 d9
      obtain ⟨d0, d1, d2, d3, d4, d5, d6, d7, d8, d9⟩ := ten18 B2.out
      go_wp2_with fail
      refine (OJ.out _ K2.out).mono ?_
      rintro e u2 ⟨rfl, k1⟩
      have K3 := hid (K2.out.trans k1)
      have B3 := hid (blk_kept k1 B2.out)
      clear k1 K2 B2 d0 d1 d2 d3 d4 d5 d6 d7 d8 d9
      have A3 := hid ((Kept.refl u2).alloc (.cells #[.int .u8 (oy : Int), .int .u8 (ox : Int), .int .u8 (ot : Int), .int .u8 (oatt : Int), .int .u8 (onn : Int)] 62))
      have K4 := hid (K3.out.trans A3.out)
      have B4 := hid (blk_kept A3.out B3.out)
      have o3 : (u2.alloc (.cells #[.int .u8 (oy : Int), .int .u8 (ox : Int), .int .u8 (ot : Int), .int .u8 (oatt : Int), .int .u8 (onn : Int)] 62)).cell? ⟨u2.heap.size, 3, none⟩ = some (.int .u8 (oatt : Int)) := blk_cell (blk_new u2 [.int .u8 (oy : Int), .int .u8 (ox : Int), .int .u8 (ot : Int), .int .u8 (oatt : Int), .int .u8 (onn : Int)] 62) 3
      clear A3 K3 B3
      obtain ⟨d0, d1, d2, d3, d4, d5, d6, d7, d8, d9⟩ := ten18 B4.out
      go_wp2_with fail
      refine (B7.out _).mono ?_
      rintro e ux ⟨rfl, rfl⟩
      go_wp2_with fail
      refine (C0.out _ K4.out).mono ?_
      rintro e u5 ⟨rfl, k1⟩
      have K5 := hid (K4.out.trans k1)
      have B5 := hid (blk_kept k1 B4.out)
      clear k1 K4 B4 d0 d1 d2 d3 d4 d5 d6 d7 d8 d9
      obtain ⟨d0, d1, d2, d3, d4, d5, d6, d7, d8, d9⟩ := ten18 B5.out
      go_wp2_with fail
      refine (SB.out _).mono ?_
      rintro e ux ⟨rfl, rfl⟩
      go_wp2
      go_ret
      exact ⟨rfl, K5.out⟩
  · have g1 : (c == 0) = false := by simpa using hc
    simp only [g1, Bool.not_false, Bool.true_and]
    cases b7
    · simp only [Bool.not_false, Bool.true_or, if_true]
      cases b4
      · have SX := S0X
        go_enter Try.func27, Try.ntmps27
        obtain ⟨d0, d1, d2, d3, d4, d5, d6, d7, d8, d9⟩ := ten18 B1.out
        go_wp2_with fail
        refine (GR.out _ K1.out).mono ?_
        rintro e u1 ⟨rfl, k1⟩
        have K2 := hid (K1.out.trans k1)
        have B2 := hid (blk_kept k1 B1.out)
        clear k1 K1 B1 d0 d1 d2 d3 d4 d5 d6 d7 d8 d9
        obtain ⟨d0, d1, d2, d3, d4, d5, d6, d7, d8, d9⟩ := ten18 B2.out
        go_wp2_with fail
        refine (OJ.out _ K2.out).mono ?_
        rintro e u2 ⟨rfl, k1⟩
        have K3 := hid (K2.out.trans k1)
        have B3 := hid (blk_kept k1 B2.out)
        clear k1 K2 B2 d0 d1 d2 d3 d4 d5 d6 d7 d8 d9
        have A3 := hid ((Kept.refl u2).alloc (.cells #[.int .u8 (oy : Int), .int .u8 (ox : Int), .int .u8 (ot : Int), .int .u8 (oatt : Int), .int .u8 (onn : Int)] 62))
        have K4 := hid (K3.out.trans A3.out)
        have B4 := hid (blk_kept A3.out B3.out)
        have o3 : (u2.alloc (.cells #[.int .u8 (oy : Int), .int .u8 (ox : Int), .int .u8 (ot : Int), .int .u8 (oatt : Int), .int .u8 (onn : Int)] 62)).cell? ⟨u2.heap.size, 3, none⟩ = some (.int .u8 (oatt : Int)) := blk_cell (blk_new u2 [.int .u8 (oy : Int), .int .u8 (ox : Int), .int .u8 (ot : Int), .int .u8 (oatt : Int), .int .u8 (onn : Int)] 62) 3
        clear A3 K3 B3
        obtain ⟨d0, d1, d2, d3, d4, d5, d6, d7, d8, d9⟩ := ten18 B4.out
        go_wp2_with fail
        refine (B7.out _).mono ?_
        rintro e ux ⟨rfl, rfl⟩
        go_wp2_with fail
        refine (B4X.out _).mono ?_
        rintro e ux ⟨rfl, rfl⟩
        go_wp2_with fail
        refine (SX.out _).mono ?_
        rintro e ux ⟨rfl, rfl⟩
        go_wp2
        go_ret
        exact ⟨rfl, K4.out⟩
      · have SX := S1X
        go_enter Try.func27, Try.ntmps27
        obtain ⟨d0, d1, d2, d3, d4, d5, d6, d7, d8, d9⟩ := ten18 B1.out
        go_wp2_with fail
        refine (GR.out _ K1.out).mono ?_
        rintro e u1 ⟨rfl, k1⟩
        have K2 := hid (K1.out.trans k1)
        have B2 := hid (blk_kept k1 B1.out)
        clear k1 K1 B1 d0 d1 d2 d3 d4 d5 d6 d7 d8 d9
        obtain ⟨d0, d1, d2, d3, d4, d5, d6, d7, d8, d9⟩ := ten18 B2.out
        go_wp2_with fail
        refine (OJ.out _ K2.out).mono ?_
        rintro e u2 ⟨rfl, k1⟩
        have K3 := hid (K2.out.trans k1)
        have B3 := hid (blk_kept k1 B2.out)
        clear k1 K2 B2 d0 d1 d2 d3 d4 d5 d6 d7 d8 d9
        have A3 := hid ((Kept.refl u2).alloc (.cells #[.int .u8 (oy : Int), .int .u8 (ox : Int), .int .u8 (ot : Int), .int .u8 (oatt : Int), .int .u8 (onn : Int)] 62))
        have K4 := hid (K3.out.trans A3.out)
        have B4 := hid (blk_kept A3.out B3.out)
        have o3 : (u2.alloc (.cells #[.int .u8 (oy : Int), .int .u8 (ox : Int), .int .u8 (ot : Int), .int .u8 (oatt : Int), .int .u8 (onn : Int)] 62)).cell? ⟨u2.heap.size, 3, none⟩ = some (.int .u8 (oatt : Int)) := blk_cell (blk_new u2 [.int .u8 (oy : Int), .int .u8 (ox : Int), .int .u8 (ot : Int), .int .u8 (oatt : Int), .int .u8 (onn : Int)] 62) 3
        clear A3 K3 B3
        obtain ⟨d0, d1, d2, d3, d4, d5, d6, d7, d8, d9⟩ := ten18 B4.out
        go_wp2_with fail
        refine (B7.out _).mono ?_
        rintro e ux ⟨rfl, rfl⟩
        go_wp2_with fail
        refine (B4X.out _).mono ?_
        rintro e ux ⟨rfl, rfl⟩
        go_wp2_with fail
        refine (SX.out _).mono ?_
        rintro e ux ⟨rfl, rfl⟩
        go_wp2
        go_ret
        exact ⟨rfl, K4.out⟩
    · by_cases hg : gr = 0
      · subst hg
        simp only [beq_self_eq_true, Bool.or_true, if_true]
        cases b4
        · have SX := S0X
          go_enter Try.func27, Try.ntmps27
          obtain ⟨d0, d1, d2, d3, d4, d5, d6, d7, d8, d9⟩ := ten18 B1.out
          go_wp2_with fail
          refine (GR.out _ K1.out).mono ?_
          rintro e u1 ⟨rfl, k1⟩
          have K2 := hid (K1.out.trans k1)
          have B2 := hid (blk_kept k1 B1.out)
          clear k1 K1 B1 d0 d1 d2 d3 d4 d5 d6 d7 d8 d9
          obtain ⟨d0, d1, d2, d3, d4, d5, d6, d7, d8, d9⟩ := ten18 B2.out
          go_wp2_with fail
          refine (OJ.out _ K2.out).mono ?_
          rintro e u2 ⟨rfl, k1⟩
          have K3 := hid (K2.out.trans k1)
          have B3 := hid (blk_kept k1 B2.out)
          clear k1 K2 B2 d0 d1 d2 d3 d4 d5 d6 d7 d8 d9
          have A3 := hid ((Kept.refl u2).alloc (.cells #[.int .u8 (oy : Int), .int .u8 (ox : Int), .int .u8 (ot : Int), .int .u8 (oatt : Int), .int .u8 (onn : Int)] 62))
          have K4 := hid (K3.out.trans A3.out)
          have B4 := hid (blk_kept A3.out B3.out)
          have o3 : (u2.alloc (.cells #[.int .u8 (oy : Int), .int .u8 (ox : Int), .int .u8 (ot : Int), .int .u8 (oatt : Int), .int .u8 (onn : Int)] 62)).cell? ⟨u2.heap.size, 3, none⟩ = some (.int .u8 (oatt : Int)) := blk_cell (blk_new u2 [.int .u8 (oy : Int), .int .u8 (ox : Int), .int .u8 (ot : Int), .int .u8 (oatt : Int), .int .u8 (onn : Int)] 62) 3
          clear A3 K3 B3
          obtain ⟨d0, d1, d2, d3, d4, d5, d6, d7, d8, d9⟩ := ten18 B4.out
          go_wp2_with fail
          refine (B7.out _).mono ?_
          rintro e ux ⟨rfl, rfl⟩
          go_wp2_with fail
          refine (B4X.out _).mono ?_
          rintro e ux ⟨rfl, rfl⟩
          go_wp2_with fail
          refine (SX.out _).mono ?_
          rintro e ux ⟨rfl, rfl⟩
          go_wp2
          go_ret
          exact ⟨rfl, K4.out⟩
        · have SX := S1X
          go_enter Try.func27, Try.ntmps27
          obtain ⟨d0, d1, d2, d3, d4, d5, d6, d7, d8, d9⟩ := ten18 B1.out
          go_wp2_with fail
          refine (GR.out _ K1.out).mono ?_
          rintro e u1 ⟨rfl, k1⟩
          have K2 := hid (K1.out.trans k1)
          have B2 := hid (blk_kept k1 B1.out)
          clear k1 K1 B1 d0 d1 d2 d3 d4 d5 d6 d7 d8 d9
          obtain ⟨d0, d1, d2, d3, d4, d5, d6, d7, d8, d9⟩ := ten18 B2.out
          go_wp2_with fail
          refine (OJ.out _ K2.out).mono ?_
          rintro e u2 ⟨rfl, k1⟩
          have K3 := hid (K2.out.trans k1)
          have B3 := hid (blk_kept k1 B2.out)
          clear k1 K2 B2 d0 d1 d2 d3 d4 d5 d6 d7 d8 d9
          have A3 := hid ((Kept.refl u2).alloc (.cells #[.int .u8 (oy : Int), .int .u8 (ox : Int), .int .u8 (ot : Int), .int .u8 (oatt : Int), .int .u8 (onn : Int)] 62))
          have K4 := hid (K3.out.trans A3.out)
          have B4 := hid (blk_kept A3.out B3.out)
          have o3 : (u2.alloc (.cells #[.int .u8 (oy : Int), .int .u8 (ox : Int), .int .u8 (ot : Int), .int .u8 (oatt : Int), .int .u8 (onn : Int)] 62)).cell? ⟨u2.heap.size, 3, none⟩ = some (.int .u8 (oatt : Int)) := blk_cell (blk_new u2 [.int .u8 (oy : Int), .int .u8 (ox : Int), .int .u8 (ot : Int), .int .u8 (oatt : Int), .int .u8 (onn : Int)] 62) 3
          clear A3 K3 B3
          obtain ⟨d0, d1, d2, d3, d4, d5, d6, d7, d8, d9⟩ := ten18 B4.out
          go_wp2_with fail
          refine (B7.out _).mono ?_
          rintro e ux ⟨rfl, rfl⟩
          go_wp2_with fail
          refine (B4X.out _).mono ?_
          rintro e ux ⟨rfl, rfl⟩
          go_wp2_with fail
          refine (SX.out _).mono ?_
          rintro e ux ⟨rfl, rfl⟩
          go_wp2
          go_ret
          exact ⟨rfl, K4.out⟩
      · have g2 : (gr == 0) = false := by simpa using hg
        simp only [Bool.not_true, g2, Bool.or_false, Bool.false_eq_true, if_false]
        cases q0 : bitOf v.ctl 0
        · rw [q0] at C0
          simp only [Bool.false_eq_true, if_false]
          clear q0
          go_enter Try.func27, Try.ntmps27
          obtain ⟨d0, d1, d2, d3, d4, d5, d6, d7, d8, d9⟩ := ten18 B1.out
          go_wp2_with fail
          refine (GR.out _ K1.out).mono ?_
          rintro e u1 ⟨rfl, k1⟩
          have K2 := hid (K1.out.trans k1)
          have B2 := hid (blk_kept k1 B1.out)
          clear k1 K1 B1 d0 d1 d2 d3 d4 d5 d6 d7 d8 d9
          obtain ⟨d0, d1, d2, d3, d4, d5, d6, d7, d8, d9⟩ := ten18 B2.out
          go_wp2_with fail
          refine (OJ.out _ K2.out).mono ?_
          rintro e u2 ⟨rfl, k1⟩
          have K3 := hid (K2.out.trans k1)
          have B3 := hid (blk_kept k1 B2.out)
          clear k1 K2 B2 d0 d1 d2 d3 d4 d5 d6 d7 d8 d9
          have A3 := hid ((Kept.refl u2).alloc (.cells #[.int .u8 (oy : Int), .int .u8 (ox : Int), .int .u8 (ot : Int), .int .u8 (oatt : Int), .int .u8 (onn : Int)] 62))
          have K4 := hid (K3.out.trans A3.out)
          have B4 := hid (blk_kept A3.out B3.out)
          have o3 : (u2.alloc (.cells #[.int .u8 (oy : Int), .int .u8 (ox : Int), .int .u8 (ot : Int), .int .u8 (oatt : Int), .int .u8 (onn : Int)] 62)).cell? ⟨u2.heap.size, 3, none⟩ = some (.int .u8 (oatt : Int)) := blk_cell (blk_new u2 [.int .u8 (oy : Int), .int .u8 (ox : Int), .int .u8 (ot : Int), .int .u8 (oatt : Int), .int .u8 (onn : Int)] 62) 3
          clear A3 K3 B3
          obtain ⟨d0, d1, d2, d3, d4, d5, d6, d7, d8, d9⟩ := ten18 B4.out
          go_wp2_with fail
          refine (B7.out _).mono ?_
          rintro e ux ⟨rfl, rfl⟩
          go_wp2_with fail
          refine (C0.out _ K4.out).mono ?_
          rintro e u5 ⟨rfl, k1⟩
          have K5 := hid (K4.out.trans k1)
          have B5 := hid (blk_kept k1 B4.out)
          clear k1 K4 B4 d0 d1 d2 d3 d4 d5 d6 d7 d8 d9
          obtain ⟨d0, d1, d2, d3, d4, d5, d6, d7, d8, d9⟩ := ten18 B5.out
          go_wp2
          go_ret
          exact ⟨rfl, K5.out⟩
        · rw [q0] at C0
          simp only [if_true]
          clear q0
          go_enter Try.func27, Try.ntmps27
          obtain ⟨d0, d1, d2, d3, d4, d5, d6, d7, d8, d9⟩ := ten18 B1.out
          go_wp2_with fail
          refine (GR.out _ K1.out).mono ?_
          rintro e u1 ⟨rfl, k1⟩
          have K2 := hid (K1.out.trans k1)
          have B2 := hid (blk_kept k1 B1.out)
          clear k1 K1 B1 d0 d1 d2 d3 d4 d5 d6 d7 d8 d9
          obtain ⟨d0, d1, d2, d3, d4, d5, d6, d7, d8, d9⟩ := ten18 B2.out
          go_wp2_with fail
          refine (OJ.out _ K2.out).mono ?_
          rintro e u2 ⟨rfl, k1⟩
          have K3 := hid (K2.out.trans k1)
          have B3 := hid (blk_kept k1 B2.out)
          clear k1 K2 B2 d0 d1 d2 d3 d4 d5 d6 d7 d8 d9
          have A3 := hid ((Kept.refl u2).alloc (.cells #[.int .u8 (oy : Int), .int .u8 (ox : Int), .int .u8 (ot : Int), .int .u8 (oatt : Int), .int .u8 (onn : Int)] 62))
          have K4 := hid (K3.out.trans A3.out)
          have B4 := hid (blk_kept A3.out B3.out)
          have o3 : (u2.alloc (.cells #[.int .u8 (oy : Int), .int .u8 (ox : Int), .int .u8 (ot : Int), .int .u8 (oatt : Int), .int .u8 (onn : Int)] 62)).cell? ⟨u2.heap.size, 3, none⟩ = some (.int .u8 (oatt : Int)) := blk_cell (blk_new u2 [.int .u8 (oy : Int), .int .u8 (ox : Int), .int .u8 (ot : Int), .int .u8 (oatt : Int), .int .u8 (onn : Int)] 62) 3
          clear A3 K3 B3
          obtain ⟨d0, d1, d2, d3, d4, d5, d6, d7, d8, d9⟩ := ten18 B4.out
          go_wp2_with fail
          refine (B7.out _).mono ?_
          rintro e ux ⟨rfl, rfl⟩
          go_wp2_with fail
          refine (C0.out _ K4.out).mono ?_
          rintro e u5 ⟨rfl, k1⟩
          have K5 := hid (K4.out.trans k1)
          have B5 := hid (blk_kept k1 B4.out)
          clear k1 K4 B4 d0 d1 d2 d3 d4 d5 d6 d7 d8 d9
          obtain ⟨d0, d1, d2, d3, d4, d5, d6, d7, d8, d9⟩ := ten18 B5.out
          go_wp2_with fail
          refine (SB.out _).mono ?_
          rintro e ux ⟨rfl, rfl⟩
          go_wp2
          go_ret
          exact ⟨rfl, K5.out⟩
end Go.Proofs.Ytecgpdjgbdobbaa
