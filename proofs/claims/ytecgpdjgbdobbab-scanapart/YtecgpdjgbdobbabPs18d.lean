/- Which object is seen at a place; colors are made shades. -/
import Derived.Test.YtecgpdjgbdobbabPs18c
namespace Go.Proofs.Ytecgpdjgbdobbab
open Go.RowKit
set_option linter.unusedVariables false
set_option linter.unusedSimpArgs false

theorem spl_at (v : Vd) (y : Int) (L : List Ob) {j : Nat} (h : j < L.length) : (L.map (spG v y)).getD j default = spG v y (L.getD j default) := by
  rw [List.getD_eq_getElem?_getD, List.getD_eq_getElem?_getD, List.getElem?_map, List.getElem?_eq_getElem h]; rfl
set_option maxRecDepth 100000 in
set_option maxHeartbeats 4000000 in
theorem pfirst18 (v : Vd) (y : Int) (L : List Ob) (a : Option Addr) (cap : Nat) (x : Nat) (w : World) (h : SlS w a cap (L.map (spG v y))) (hz : ∀ z ∈ v.vz, InByte z) (hl : L.length ≤ 1000) (hx : x < 160) :
    Calls Try.prog 22 #[.slice a L.length cap, .int .i64 (x : Int)] w fun e w' => e = .returned (.tuple #[obV (seenP v (x : Int) y L).1, .int .u8 (seenP v (x : Int) y L).2]) ∧ Kept w w' := by
  have FG := hid (fun q => slS_at h q)
  obtain ⟨n, hn⟩ : ∃ n : Nat, L.length = n := ⟨_, rfl⟩
  have HN := hid hn
  rw [hn] at hl ⊢
  rw [List.length_map, hn] at FG
  have BW : Hid (Blk (w.alloc (.cells #[.int .u8 0, .int .u8 0, .int .u8 0, .int .u8 0, .int .u8 0] 52)) w.heap.size 52 [.int .u8 0, .int .u8 0, .int .u8 0, .int .u8 0, .int .u8 0]) := blk_new w _ _
  clear hn h
  go_enter Try.func22, Try.ntmps22
  go_wp2
  go_loopw [13] (fun s8 wr => ∃ j : Nat, j ≤ n ∧ s8 = .int .i64 (j : Int) ∧ Hid (seenP v (x : Int) y L = seenP v (x : Int) y (L.drop j)) ∧ Blk wr w.heap.size 52 [.int .u8 0, .int .u8 0, .int .u8 0, .int .u8 0, .int .u8 0] ∧ Kept w wr) (fun s8 _ => n - (intOf s8).toNat)
  case atStart => exact ⟨0, Nat.zero_le _, rfl, rfl, BW.out, (Kept.refl w).alloc _⟩
  case round =>
    obtain ⟨j, hj, rfl, HS, hb, hk⟩ := hrel
    have KK := hid hk
    have BB := hid hb
    clear hb BW
    by_cases hlt : j < n
    · have g1 : decide ((j : Int) < (n : Int)) = true := decide_eq_true (by omega)
      have g3 : (j : Int) < (n : Int) := by omega
      obtain ⟨xx, rfl, hx5, hc⟩ := FG.out (by omega)
      have O := sat_kept hk (by rw [addFB]; exact hx5) (hc j hlt)
      obtain ⟨o, ho⟩ : ∃ o, L.getD j default = o := ⟨_, rfl⟩
      have dj := drop_at (L := L) (j := j) (by rw [HN.out]; exact hlt)
      rw [spl_at v y L (by rw [HN.out]; exact hlt), ho] at O
      rw [ho] at dj
      have COL := hid (fun u => pcol16 o (x : Int) u)
      have lob := at_bd hz (placeP (tileR o y (bitOf v.ctl 2)) false (rowR o y (bitOf v.ctl 2)))
      have hib := at_bd hz (placeP (tileR o y (bitOf v.ctl 2)) false (rowR o y (bitOf v.ctl 2)) + 1)
      have PX := hid (fun u => ppix17 (oloP v o y) (ohiP v o y) (colI o (x : Int)) u lob.1 lob.2 hib.1 hib.2)
      rw [show pixP (oloP v o y) (ohiP v o y) (colI o (x : Int)) = oxP v o (x : Int) y from rfl] at PX
      have QY := hid (fun q => (show seenP v (x : Int) y (L.drop j) = (o, oxP v o (x : Int) y) by rw [dj]; exact seen_yes q))
      have QN := hid (fun q => (show seenP v (x : Int) y (L.drop j) = seenP v (x : Int) y (L.drop (j + 1)) by rw [dj]; exact seen_no q))
      have ISP := hid (show isP v o (x : Int) y = (colOn o (x : Int) && !(oxP v o (x : Int) y == 0)) from rfl)
      have ob := ox_bd v o (x : Int) y
      clear lob hib dj ho hc
      generalize isP v o (x : Int) y = isp at *
      generalize oxP v o (x : Int) y = px at *
      simp only [spG] at O
      generalize oloP v o y = lo at *
      generalize ohiP v o y = hi at *
      generalize colI o (x : Int) = ci at *
      generalize colOn o (x : Int) = con at *
      obtain ⟨⟨oy, ly⟩, ⟨ox, lx⟩, ⟨ot, lt⟩, ⟨oatt, la⟩, ⟨onn, ln⟩⟩ := o
      obtain ⟨d0, d1, d2, d3, d4, d5, d6⟩ := O
      simp only [b8] at d0 d1 d2 d3 d4 d5 d6
      simp only [obV, b8] at COL
      have X5 := hid (blk_new wr [.int .u8 (oy : Int), .int .u8 (ox : Int), .int .u8 (ot : Int), .int .u8 (oatt : Int), .int .u8 (onn : Int), .int .u8 lo, .int .u8 hi] 69)
      have A5 := hid ((Kept.refl wr).alloc (.cells #[.int .u8 (oy : Int), .int .u8 (ox : Int), .int .u8 (ot : Int), .int .u8 (oatt : Int), .int .u8 (onn : Int), .int .u8 lo, .int .u8 hi] 69))
      have BZ := hid (blk_kept A5.out BB.out)
      have K5 := hid (KK.out.trans A5.out)
      clear BB KK
      cases con
      · go_wp2_with fail
        refine (COL.out _).mono ?_
        rintro e u6 ⟨rfl, k6⟩
        have K6 := hid (K5.out.trans k6)
        have B6 := hid (blk_kept k6 BZ.out)
        have X6 := hid (blk_kept k6 X5.out)
        clear k6 K5 BZ X5 A5 d0 d1 d2 d3 d4 d5 d6
        have IF : isp = false := by rw [ISP.out]; rfl
        go_wp2_with fail
        go_roundw
        case rel => exact ⟨j + 1, by omega, by first | go_num | rfl, by show _ = _; rw [HS.out, QN.out IF], B6.out, K6.out⟩
        case measure => first | omega | (simp; omega) | (simp [intOf]; omega)
      · by_cases hp : px = 0
        · subst hp
          go_wp2_with fail
          refine (COL.out _).mono ?_
          rintro e u6 ⟨rfl, k6⟩
          have K6 := hid (K5.out.trans k6)
          have B6 := hid (blk_kept k6 BZ.out)
          have X6 := hid (blk_kept k6 X5.out)
          clear k6 K5 BZ X5 A5 d0 d1 d2 d3 d4 d5 d6
          have x0 : u6.cell? ⟨wr.heap.size, 0, none⟩ = some (.int .u8 (oy : Int)) := blk_cell X6.out 0
          have x1 : u6.cell? ⟨wr.heap.size, 1, none⟩ = some (.int .u8 (ox : Int)) := blk_cell X6.out 1
          have x2 : u6.cell? ⟨wr.heap.size, 2, none⟩ = some (.int .u8 (ot : Int)) := blk_cell X6.out 2
          have x3 : u6.cell? ⟨wr.heap.size, 3, none⟩ = some (.int .u8 (oatt : Int)) := blk_cell X6.out 3
          have x4 : u6.cell? ⟨wr.heap.size, 4, none⟩ = some (.int .u8 (onn : Int)) := blk_cell X6.out 4
          have x5 : u6.cell? ⟨wr.heap.size, 5, none⟩ = some (.int .u8 lo) := blk_cell X6.out 5
          have x6 : u6.cell? ⟨wr.heap.size, 6, none⟩ = some (.int .u8 hi) := blk_cell X6.out 6
          go_wp2_with fail
          refine (PX.out _).mono ?_
          rintro e u7 ⟨rfl, k7⟩
          have K7 := hid (K6.out.trans k7)
          have B7 := hid (blk_kept k7 B6.out)
          have X7 := hid (blk_kept k7 X6.out)
          clear k7 K6 B6 X6 x0 x1 x2 x3 x4 x5 x6
          have IF : isp = false := by rw [ISP.out]; rfl
          go_wp2_with fail
          go_roundw
          case rel => exact ⟨j + 1, by omega, by first | go_num | rfl, by show _ = _; rw [HS.out, QN.out IF], B7.out, K7.out⟩
          case measure => first | omega | (simp; omega) | (simp [intOf]; omega)
        · have g5 : (px == 0) = false := by simpa using hp
          have IT : isp = true := by rw [ISP.out, g5]; rfl
          have RES : Hid (seenP v (x : Int) y L = (⟨⟨oy, ly⟩, ⟨ox, lx⟩, ⟨ot, lt⟩, ⟨oatt, la⟩, ⟨onn, ln⟩⟩, px)) := by show _ = _; rw [HS.out, QY.out IT]
          go_wp2_with fail
          refine (COL.out _).mono ?_
          rintro e u6 ⟨rfl, k6⟩
          have K6 := hid (K5.out.trans k6)
          have B6 := hid (blk_kept k6 BZ.out)
          have X6 := hid (blk_kept k6 X5.out)
          clear k6 K5 BZ X5 A5 d0 d1 d2 d3 d4 d5 d6
          have x0 : u6.cell? ⟨wr.heap.size, 0, none⟩ = some (.int .u8 (oy : Int)) := blk_cell X6.out 0
          have x1 : u6.cell? ⟨wr.heap.size, 1, none⟩ = some (.int .u8 (ox : Int)) := blk_cell X6.out 1
          have x2 : u6.cell? ⟨wr.heap.size, 2, none⟩ = some (.int .u8 (ot : Int)) := blk_cell X6.out 2
          have x3 : u6.cell? ⟨wr.heap.size, 3, none⟩ = some (.int .u8 (oatt : Int)) := blk_cell X6.out 3
          have x4 : u6.cell? ⟨wr.heap.size, 4, none⟩ = some (.int .u8 (onn : Int)) := blk_cell X6.out 4
          have x5 : u6.cell? ⟨wr.heap.size, 5, none⟩ = some (.int .u8 lo) := blk_cell X6.out 5
          have x6 : u6.cell? ⟨wr.heap.size, 6, none⟩ = some (.int .u8 hi) := blk_cell X6.out 6
          go_wp2_with fail
          refine (PX.out _).mono ?_
          rintro e u7 ⟨rfl, k7⟩
          have K7 := hid (K6.out.trans k7)
          have B7 := hid (blk_kept k7 B6.out)
          have X7 := hid (blk_kept k7 X6.out)
          clear k7 K6 B6 X6 x0 x1 x2 x3 x4 x5 x6
          have x0 : u7.cell? ⟨wr.heap.size, 0, none⟩ = some (.int .u8 (oy : Int)) := blk_cell X7.out 0
          have x1 : u7.cell? ⟨wr.heap.size, 1, none⟩ = some (.int .u8 (ox : Int)) := blk_cell X7.out 1
          have x2 : u7.cell? ⟨wr.heap.size, 2, none⟩ = some (.int .u8 (ot : Int)) := blk_cell X7.out 2
          have x3 : u7.cell? ⟨wr.heap.size, 3, none⟩ = some (.int .u8 (oatt : Int)) := blk_cell X7.out 3
          have x4 : u7.cell? ⟨wr.heap.size, 4, none⟩ = some (.int .u8 (onn : Int)) := blk_cell X7.out 4
          have x5 : u7.cell? ⟨wr.heap.size, 5, none⟩ = some (.int .u8 lo) := blk_cell X7.out 5
          have x6 : u7.cell? ⟨wr.heap.size, 6, none⟩ = some (.int .u8 hi) := blk_cell X7.out 6
          have BR := B7.out
          clear B7
          go_wp2_with (((with_reducible refine at_st 52 ?_); refine wl_store rfl rfl rfl rfl BR (by kernel_rfl) rfl (Nat.le_of_ble_eq_true rfl) (fun v3 p3 => ?_); have B3 : Blk v3 w.heap.size 52 [.int .u8 (oy : Int), .int .u8 (ox : Int), .int .u8 (ot : Int), .int .u8 (oatt : Int), .int .u8 (onn : Int)] := p3.blk; have K3 := hid (p3.kept _ K7.out (Nat.le_refl _)); clear p3))
          refine bodyPost_ret (res_cell2 Try.results22 rfl B3 Try.underlying52 rfl (by kernel_rfl)) rfl ⟨?_, K3.out⟩
          rw [RES.out]; rfl
    · have je : j = n := by omega
      subst je
      have g1 : decide ((j : Int) < (j : Int)) = false := decide_eq_false (by omega)
      have g3 : ¬ (j : Int) < (j : Int) := by omega
      have BR := BB.out
      have RES : Hid (seenP v (x : Int) y L = (ob0, 0)) := by show _ = _; rw [HS.out, List.drop_eq_nil_of_le (by rw [HN.out]; omega)]; rfl
      clear BB
      go_wp2_with (((with_reducible refine at_st 52 ?_); refine wl_store rfl rfl rfl rfl BR (by kernel_rfl) rfl (Nat.le_of_ble_eq_true rfl) (fun v3 p3 => ?_); have B3 : Blk v3 w.heap.size 52 [.int .u8 0, .int .u8 0, .int .u8 0, .int .u8 0, .int .u8 0] := p3.blk; have K3 := hid (p3.kept _ KK.out (Nat.le_refl _)); clear p3))
      refine bodyPost_ret (res_cell2 Try.results22 rfl B3 Try.underlying52 rfl (by kernel_rfl)) rfl ⟨?_, K3.out⟩
      rw [RES.out]; rfl
/-- What the last part makes of a color. -/
def toneP (v : Vd) (L : List Ob) (paper : Int) (x y bel : Int) : Int :=
  if (!((seenP v x y L).2 == 0)) && (!bitOf (seenP v x y L).1.2.2.2.1.val 7 || bel == 0) then shadeP (palP v (seenP v x y L).1) (seenP v x y L).2 else shadeP paper bel
set_option maxRecDepth 100000 in
set_option maxHeartbeats 4000000 in
theorem pshc18 (v : Vd) (y : Int) (L : List Ob) (a : Option Addr) (cap : Nat) (paper : Int) (x : Nat) (bel : Int) (bs bp bv : Nat) (w : World) (hv : VdIn w v) (hl : L.length ≤ 1000) (hx : x < 160) (h : SlS w a cap (L.map (spG v y)))
    (p0 : 0 ≤ paper) (p1 : paper ≤ 255) (b0 : 0 ≤ bel) (b1 : bel ≤ 3) (hS : Blk w bs 49 [.slice a L.length cap]) (hP : Blk w bp 5 [.int .u8 paper]) (hB : Blk w bv 24 (vdC v)) :
    Calls Try.prog 21 #[.int .i64 (x : Int), .int .u8 bel, .pointer (some ⟨bs, 0, none⟩), .pointer (some ⟨bp, 0, none⟩), .pointer (some ⟨bv, 0, none⟩)] w fun e w' => e = .returned (.int .u8 (toneP v L paper (x : Int) y bel)) ∧ Kept w w' := by
  have FI := hid (pfirst18 v y L a cap x w h hv.vs.row.2.1 hl hx)
  have s0 : w.cell? ⟨bs, 0, none⟩ = some (.slice a L.length cap) := blk_cell hS 0
  have sb := seen_bd v (x : Int) y L
  unfold toneP
  generalize seenP v (x : Int) y L = sn at *
  obtain ⟨o, c⟩ := sn
  simp only at sb FI ⊢
  have PA := hid (fun u k => ppal18 v o u (vdIn_kept k hv))
  have pq : 0 ≤ palP v o ∧ palP v o ≤ 255 := by have := hv.p0; have := hv.p1; have := hv.q0; have := hv.q1; unfold palP; split <;> omega
  have SS := hid (fun u => pshade17 (palP v o) c u pq.1 pq.2 sb.1 (by omega))
  have SP := hid (fun u => pshade17 paper bel u p0 p1 b0 (by omega))
  have B7 := hid (fun u => bit_any (o.2.2.2.1.val : Int) 7 u (by omega) (by omega))
  generalize shadeP (palP v o) c = sv at *
  generalize palP v o = pl at *
  generalize shadeP paper bel = pv at *
  generalize bitOf (o.2.2.2.1.val : Int) 7 = b7 at *
  generalize L.length = n at *
  have PB := hid hP
  clear h hS hP hv
  obtain ⟨⟨oy, ly⟩, ⟨ox, lx⟩, ⟨ot, lt⟩, ⟨oatt, la⟩, ⟨onn, ln⟩⟩ := o
  simp only [obV, b8] at FI B7 PA
  obtain ⟨ctl, scy, scx, wy, wx, bgp, o0, o1, va, vc, vz, oa, oc, oz⟩ := v
  simp only [vdV, vdC] at *
  obtain ⟨vn, hvn⟩ : ∃ n, vz.length = n := ⟨_, rfl⟩
  obtain ⟨on, hon⟩ : ∃ n, oz.length = n := ⟨_, rfl⟩
  rw [hvn, hon] at PA hB
  clear hvn hon
  have VB := hid hB
  clear hB
  by_cases hc : c = 0
  · subst hc
    simp only [beq_self_eq_true, Bool.not_true, Bool.false_and, Bool.false_eq_true, if_false]
    go_enter Try.func21, Try.ntmps21
    go_wp2_with fail
    refine FI.out.mono ?_
    rintro e u1 ⟨rfl, k1⟩
    have K1 := hid (k1.trans ((Kept.refl u1).alloc (.cells #[.int .u8 (oy : Int), .int .u8 (ox : Int), .int .u8 (ot : Int), .int .u8 (oatt : Int), .int .u8 (onn : Int)] 52)))
    have O1 := hid (blk_new u1 [.int .u8 (oy : Int), .int .u8 (ox : Int), .int .u8 (ot : Int), .int .u8 (oatt : Int), .int .u8 (onn : Int)] 52)
    have V1 := hid (blk_kept K1.out VB.out)
    have P1 := hid (blk_kept K1.out PB.out)
    have q3 : (u1.alloc (.cells #[.int .u8 (oy : Int), .int .u8 (ox : Int), .int .u8 (ot : Int), .int .u8 (oatt : Int), .int .u8 (onn : Int)] 52)).cell? ⟨u1.heap.size, 3, none⟩ = some (.int .u8 (oatt : Int)) := blk_cell O1.out 3
    have pc : (u1.alloc (.cells #[.int .u8 (oy : Int), .int .u8 (ox : Int), .int .u8 (ot : Int), .int .u8 (oatt : Int), .int .u8 (onn : Int)] 52)).cell? ⟨bp, 0, none⟩ = some (.int .u8 paper) := blk_cell P1.out 0
    clear k1
    go_wp2_with fail
    refine (SP.out _).mono ?_
    rintro e u2 ⟨rfl, rfl⟩
    go_wp2
    go_ret
    exact ⟨rfl, K1.out⟩
  · have g1 : (c == 0) = false := by simpa using hc
    simp only [g1, Bool.not_false, Bool.true_and]
    by_cases hb : bel = 0
    · subst hb
      simp only [beq_self_eq_true, Bool.or_true, if_true]
      go_enter Try.func21, Try.ntmps21
      go_wp2_with fail
      refine FI.out.mono ?_
      rintro e u1 ⟨rfl, k1⟩
      have K1 := hid (k1.trans ((Kept.refl u1).alloc (.cells #[.int .u8 (oy : Int), .int .u8 (ox : Int), .int .u8 (ot : Int), .int .u8 (oatt : Int), .int .u8 (onn : Int)] 52)))
      have O1 := hid (blk_new u1 [.int .u8 (oy : Int), .int .u8 (ox : Int), .int .u8 (ot : Int), .int .u8 (oatt : Int), .int .u8 (onn : Int)] 52)
      have V1 := hid (blk_kept K1.out VB.out)
      have P1 := hid (blk_kept K1.out PB.out)
      have q3 : (u1.alloc (.cells #[.int .u8 (oy : Int), .int .u8 (ox : Int), .int .u8 (ot : Int), .int .u8 (oatt : Int), .int .u8 (onn : Int)] 52)).cell? ⟨u1.heap.size, 3, none⟩ = some (.int .u8 (oatt : Int)) := blk_cell O1.out 3
      have pc : (u1.alloc (.cells #[.int .u8 (oy : Int), .int .u8 (ox : Int), .int .u8 (ot : Int), .int .u8 (oatt : Int), .int .u8 (onn : Int)] 52)).cell? ⟨bp, 0, none⟩ = some (.int .u8 paper) := blk_cell P1.out 0
      clear k1
      obtain ⟨f0, f1, f2, f3, f4, f5, f6, f7, f8, f9⟩ := ten18 V1.out
      have i0 : (u1.alloc (.cells #[.int .u8 (oy : Int), .int .u8 (ox : Int), .int .u8 (ot : Int), .int .u8 (oatt : Int), .int .u8 (onn : Int)] 52)).cell? ⟨u1.heap.size, 0, none⟩ = some (.int .u8 (oy : Int)) := blk_cell O1.out 0
      have i1 : (u1.alloc (.cells #[.int .u8 (oy : Int), .int .u8 (ox : Int), .int .u8 (ot : Int), .int .u8 (oatt : Int), .int .u8 (onn : Int)] 52)).cell? ⟨u1.heap.size, 1, none⟩ = some (.int .u8 (ox : Int)) := blk_cell O1.out 1
      have i2 : (u1.alloc (.cells #[.int .u8 (oy : Int), .int .u8 (ox : Int), .int .u8 (ot : Int), .int .u8 (oatt : Int), .int .u8 (onn : Int)] 52)).cell? ⟨u1.heap.size, 2, none⟩ = some (.int .u8 (ot : Int)) := blk_cell O1.out 2
      have i4 : (u1.alloc (.cells #[.int .u8 (oy : Int), .int .u8 (ox : Int), .int .u8 (ot : Int), .int .u8 (oatt : Int), .int .u8 (onn : Int)] 52)).cell? ⟨u1.heap.size, 4, none⟩ = some (.int .u8 (onn : Int)) := blk_cell O1.out 4
      go_wp2_with fail
      refine (PA.out _ K1.out).mono ?_
      rintro e u3 ⟨rfl, k3⟩
      have K3 := hid (K1.out.trans k3)
      clear k3
      go_wp2_with fail
      refine (SS.out _).mono ?_
      rintro e u4 ⟨rfl, rfl⟩
      go_wp2
      go_ret
      exact ⟨rfl, K3.out⟩
    · have g2 : (bel == 0) = false := by simpa using hb
      cases b7
      · simp only [Bool.not_false, Bool.true_or, if_true]
        go_enter Try.func21, Try.ntmps21
        go_wp2_with fail
        refine FI.out.mono ?_
        rintro e u1 ⟨rfl, k1⟩
        have K1 := hid (k1.trans ((Kept.refl u1).alloc (.cells #[.int .u8 (oy : Int), .int .u8 (ox : Int), .int .u8 (ot : Int), .int .u8 (oatt : Int), .int .u8 (onn : Int)] 52)))
        have O1 := hid (blk_new u1 [.int .u8 (oy : Int), .int .u8 (ox : Int), .int .u8 (ot : Int), .int .u8 (oatt : Int), .int .u8 (onn : Int)] 52)
        have V1 := hid (blk_kept K1.out VB.out)
        have P1 := hid (blk_kept K1.out PB.out)
        have q3 : (u1.alloc (.cells #[.int .u8 (oy : Int), .int .u8 (ox : Int), .int .u8 (ot : Int), .int .u8 (oatt : Int), .int .u8 (onn : Int)] 52)).cell? ⟨u1.heap.size, 3, none⟩ = some (.int .u8 (oatt : Int)) := blk_cell O1.out 3
        have pc : (u1.alloc (.cells #[.int .u8 (oy : Int), .int .u8 (ox : Int), .int .u8 (ot : Int), .int .u8 (oatt : Int), .int .u8 (onn : Int)] 52)).cell? ⟨bp, 0, none⟩ = some (.int .u8 paper) := blk_cell P1.out 0
        clear k1
        go_wp2_with fail
        refine (B7.out _).mono ?_
        rintro e u2 ⟨rfl, rfl⟩
        obtain ⟨f0, f1, f2, f3, f4, f5, f6, f7, f8, f9⟩ := ten18 V1.out
        have i0 : (u1.alloc (.cells #[.int .u8 (oy : Int), .int .u8 (ox : Int), .int .u8 (ot : Int), .int .u8 (oatt : Int), .int .u8 (onn : Int)] 52)).cell? ⟨u1.heap.size, 0, none⟩ = some (.int .u8 (oy : Int)) := blk_cell O1.out 0
        have i1 : (u1.alloc (.cells #[.int .u8 (oy : Int), .int .u8 (ox : Int), .int .u8 (ot : Int), .int .u8 (oatt : Int), .int .u8 (onn : Int)] 52)).cell? ⟨u1.heap.size, 1, none⟩ = some (.int .u8 (ox : Int)) := blk_cell O1.out 1
        have i2 : (u1.alloc (.cells #[.int .u8 (oy : Int), .int .u8 (ox : Int), .int .u8 (ot : Int), .int .u8 (oatt : Int), .int .u8 (onn : Int)] 52)).cell? ⟨u1.heap.size, 2, none⟩ = some (.int .u8 (ot : Int)) := blk_cell O1.out 2
        have i4 : (u1.alloc (.cells #[.int .u8 (oy : Int), .int .u8 (ox : Int), .int .u8 (ot : Int), .int .u8 (oatt : Int), .int .u8 (onn : Int)] 52)).cell? ⟨u1.heap.size, 4, none⟩ = some (.int .u8 (onn : Int)) := blk_cell O1.out 4
        go_wp2_with fail
        refine (PA.out _ K1.out).mono ?_
        rintro e u3 ⟨rfl, k3⟩
        have K3 := hid (K1.out.trans k3)
        clear k3
        go_wp2_with fail
        refine (SS.out _).mono ?_
        rintro e u4 ⟨rfl, rfl⟩
        go_wp2
        go_ret
        exact ⟨rfl, K3.out⟩
      · simp only [Bool.not_true, g2, Bool.or_false, Bool.false_eq_true, if_false]
        go_enter Try.func21, Try.ntmps21
        go_wp2_with fail
        refine FI.out.mono ?_
        rintro e u1 ⟨rfl, k1⟩
        have K1 := hid (k1.trans ((Kept.refl u1).alloc (.cells #[.int .u8 (oy : Int), .int .u8 (ox : Int), .int .u8 (ot : Int), .int .u8 (oatt : Int), .int .u8 (onn : Int)] 52)))
        have O1 := hid (blk_new u1 [.int .u8 (oy : Int), .int .u8 (ox : Int), .int .u8 (ot : Int), .int .u8 (oatt : Int), .int .u8 (onn : Int)] 52)
        have V1 := hid (blk_kept K1.out VB.out)
        have P1 := hid (blk_kept K1.out PB.out)
        have q3 : (u1.alloc (.cells #[.int .u8 (oy : Int), .int .u8 (ox : Int), .int .u8 (ot : Int), .int .u8 (oatt : Int), .int .u8 (onn : Int)] 52)).cell? ⟨u1.heap.size, 3, none⟩ = some (.int .u8 (oatt : Int)) := blk_cell O1.out 3
        have pc : (u1.alloc (.cells #[.int .u8 (oy : Int), .int .u8 (ox : Int), .int .u8 (ot : Int), .int .u8 (oatt : Int), .int .u8 (onn : Int)] 52)).cell? ⟨bp, 0, none⟩ = some (.int .u8 paper) := blk_cell P1.out 0
        clear k1
        go_wp2_with fail
        refine (B7.out _).mono ?_
        rintro e u2 ⟨rfl, rfl⟩
        go_wp2_with fail
        refine (SP.out _).mono ?_
        rintro e u2 ⟨rfl, rfl⟩
        go_wp2
        go_ret
        exact ⟨rfl, K1.out⟩
end Go.Proofs.Ytecgpdjgbdobbab
