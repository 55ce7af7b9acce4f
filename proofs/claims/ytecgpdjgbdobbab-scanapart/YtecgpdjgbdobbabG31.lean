/- The document's line. The objects that a line shows, with their rows' bytes; which of them is seen at a place. Which object is seen at a place; colors are made shades. The last part of a line; the three parts, laid over it. A line. -/
import Derived.Test.YtecgpdjgbdobbabG24
import Derived.Test.YtecgpdjgbdobbabG22
import Derived.Test.YtecgpdjgbdobbabG30
import Derived.Test.YtecgpdjgbdobbabG25
import Derived.Test.YtecgpdjgbdobbabG18
import Derived.Test.YtecgpdjgbdobbabG29
namespace Go.Proofs.Ytecgpdjgbdobbab
open Go.RowKit
set_option linter.unusedVariables false
set_option linter.unusedSimpArgs false

theorem sl_one18 (w : World) (d : Int) (hd : InByte d) : Sl (w.alloc (.cells #[.int .u8 d] 5)) (some ⟨w.heap.size, 0, none⟩) 1 [d] := by
  refine ⟨⟨by simp [maxLen], fun x hx => by rw [List.mem_singleton.1 hx]; exact hd, .inr ⟨_, rfl, by simp, fun i hi => ?_⟩⟩, by simp, by simp [maxLen], fun e => by cases e⟩
  obtain rfl : i = 0 := by simp at hi; omega
  rw [ownB_add, blk_cell (blk_new w [.int .u8 d] 5)]
  rfl
theorem own_nil18 (w : World) (base : Nat) : w.ownsRow base 5 1 (.slice none 0 0) ([] : List Int).length (([] : List Int).map (Value.int .u8)) := ⟨rfl, .inl ⟨rfl, rfl⟩⟩
theorem own_form18 {w : World} {base : Nat} {v : Value} {L : List Int} (o : w.ownsRow base 5 1 v (L).length ((L).map (Value.int .u8))) (hb : ∀ x ∈ L, InByte x) : ∃ a cap, v = .slice a L.length cap ∧ w.ownsRow base 5 1 (.slice a L.length cap) (L).length ((L).map (Value.int .u8)) := by
  obtain ⟨a, cap, e, _⟩ := own_sl o hb
  exact ⟨a, cap, e, by rw [← e]; exact o⟩
theorem line_next (v : Vd) (y win : Int) {j : Nat} (h : j < 160) : (lineP v y win).take (j + 1) = (lineP v y win).take j ++ [dotL v y win j] := by
  rw [List.take_add_one]
  unfold lineP
  simp [h]
end Go.Proofs.Ytecgpdjgbdobbab
namespace Go.Proofs.Ytecgpdjgbdobbab
open Go.RowKit
set_option linter.unusedVariables false
set_option linter.unusedSimpArgs false

def spG (v : Vd) (y : Int) (o : Ob) : Sp := (o, oloP v o y, ohiP v o y)
theorem scan_ten (z : List Int) (l : Int) (t : Bool) : (scanL z l t).length ≤ 10 := by unfold scanL; rw [List.length_take]; omega
theorem ownS_form {w : World} {base : Nat} {v : Value} {L : List Sp} (o : OwnS w base v L) : ∃ a cap, v = .slice a L.length cap ∧ OwnS w base (.slice a L.length cap) L := by
  obtain ⟨a, cap, e, _⟩ := own_slS o
  exact ⟨a, cap, e, by rw [← e]; exact o⟩
set_option maxRecDepth 100000 in
set_option maxHeartbeats 4000000 in
theorem pstrips18 (v : Vd) (y : Int) (w : World) (hv : VdIn w v) (y0 : 0 ≤ y) (y1 : y ≤ 255) :
    Calls Try.prog 20 #[vdV v, .int .u8 y] w fun e w' => (∃ a cap, e = .returned (.slice a (objsP v y).length cap) ∧ Newer w.heap.size a ∧ SlS w' a cap ((objsP v y).map (spG v y))) ∧ Kept w w' := by
  have B1 := hid (fun u => bit_any v.ctl 1 u hv.c0 hv.c1)
  have B2 := hid (fun u => bit_any v.ctl 2 u hv.c0 hv.c1)
  unfold objsP
  cases q1 : bitOf v.ctl 1
  · rw [q1] at B1
    clear q1 B2 hv
    simp only [Bool.false_eq_true, if_false, List.map_nil, List.length_nil]
    obtain ⟨ctl, scy, scx, wy, wx, bgp, o0, o1, va, vc, vz, oa, oc, oz⟩ := v
    simp only [vdV] at *
    obtain ⟨vn, hvn⟩ : ∃ n, vz.length = n := ⟨_, rfl⟩
    obtain ⟨on, hon⟩ : ∃ n, oz.length = n := ⟨_, rfl⟩
    rw [hvn, hon]
    clear hvn hon
    go_enter Try.func20, Try.ntmps20
    go_wp2_with fail
    refine (B1.out _).mono ?_
    rintro e u ⟨rfl, rfl⟩
    go_wp2
    go_ret
    exact ⟨⟨none, 0, rfl, (fun x hx => by cases hx), slS_nil _⟩, (Kept.refl w).alloc _⟩
  · rw [q1] at B1
    simp only [if_true]
    obtain ⟨t, ht⟩ : ∃ t, bitOf v.ctl 2 = t := ⟨_, rfl⟩
    rw [ht] at B2 ⊢
    have SC := hid (fun u k => pscan16 v.oa v.oc v.oz y t u (sl_kept k hv.os) hv.ol)
    have ST := scan_ten v.oz y t
    generalize scanL v.oz y t = L at *
    have OR := hid (fun x cx u p => porder16 x cx L u p (by omega))
    have e1 : IntKind.i64.wrap y = y := by rw [IntKind.wrap_i64]; omega
    obtain ⟨vn, hvn⟩ : ∃ n, v.vz.length = n := ⟨_, rfl⟩
    obtain ⟨on, hon⟩ : ∃ n, v.oz.length = n := ⟨_, rfl⟩
    rw [hon] at SC
    have E1 := hvn
    have E2 := hon
    obtain ⟨ln, hln⟩ : ∃ n, L.length = n := ⟨_, rfl⟩
    rw [hln] at SC OR
    have AW : Hid (Blk (w.alloc (.cells (vdC v).toArray 24)) w.heap.size 24 (vdC v)) := blk_new w _ _
    simp only [vdV, vdC, hvn, hon] at AW ⊢
    clear hvn hon q1
    go_enter Try.func20, Try.ntmps20
    go_wp2_with fail
    refine (B1.out _).mono ?_
    rintro e u1 ⟨rfl, rfl⟩
    go_wp2_with fail
    refine (B2.out _).mono ?_
    rintro e u2 ⟨rfl, rfl⟩
    go_wp2_with fail
    refine (SC.out _ ((Kept.refl w).alloc _)).mono ?_
    rintro e u3 ⟨⟨a3, c3, rfl, s3⟩, k3⟩
    have K3 := hid (((Kept.refl w).alloc _).trans k3)
    have B3 := hid (blk_kept k3 AW.out)
    have S3 := hid s3
    clear k3 s3 AW
    go_wp2_with fail
    refine (OR.out _ _ _ S3.out).mono ?_
    rintro e u4 ⟨⟨M, t4, l4, a4, c4, rfl, s4⟩, k4⟩
    have MO := hid (ord_eq t4)
    have KU := hid (K3.out.trans k4)
    have BW := hid (blk_kept k4 B3.out)
    have FG := hid (fun q => slO_at s4 q)
    obtain ⟨n, hn⟩ : ∃ n, M.length = n := ⟨_, rfl⟩
    have HN := hid hn
    have n10 : n ≤ 10 := by omega
    rw [hn] at FG ⊢
    clear k4 s4 t4 S3 K3 B3 B1 B2 SC OR l4 ST hln hn
    go_wp2_with fail
    go_loopw [7, 31] (fun s7 s8 wr => ∃ (j m : Nat) (av : Option Addr) (cp : Nat), j ≤ n ∧ s7 = .slice av m cp ∧ s8 = .int .i64 (j : Int) ∧ Hid (((M.take j).map (spG v y)).length = m) ∧ OwnS wr u4.heap.size (.slice av m cp) ((M.take j).map (spG v y)) ∧ Kept u4 wr) (fun _ s8 _ => n - (intOf s8).toNat)
    case atStart => exact ⟨0, 0, none, 0, Nat.zero_le _, rfl, rfl, rfl, ownS_nil u4 _, Kept.refl u4⟩
    case round =>
      obtain ⟨j, m, av, cp, hj, rfl, rfl, HL, ho9, hk⟩ := hrel
      have KK := hid hk
      have OO := hid ho9
      clear ho9
      by_cases hlt : j < n
      · have g1 : decide ((j : Int) < (n : Int)) = true := decide_eq_true (by omega)
        have g3 : (j : Int) < (n : Int) := by omega
        obtain ⟨xx, rfl, hx, hc⟩ := FG.out (by omega)
        have O := oat_kept hk (by rw [addFB]; exact hx) (hc j hlt)
        obtain ⟨o, ho⟩ : ∃ o, M.getD j default = o := ⟨_, rfl⟩
        rw [ho] at O
        have NX := hid (show (M.take (j + 1)).map (spG v y) = (M.take j).map (spG v y) ++ [spG v y o] by rw [take_one (by rw [HN.out]; exact hlt), List.map_append, ho]; rfl)
        have RO := hid (fun u => prow16 o y t u)
        have tb := row_bd o y t
        have RP : Hid (∀ u, Kept w u → _) := fun u k => prow18 v (tileR o y t) (rowR o y t) false u (vdIn_kept k hv) tb.1 tb.2
        have l1 : oloP v o y = atP v.vz (placeP (tileR o y t) false (rowR o y t)) := by unfold oloP; rw [ht]
        have l2 : ohiP v o y = atP v.vz (placeP (tileR o y t) false (rowR o y t) + 1) := by unfold ohiP; rw [ht]
        have SG := hid (show spG v y o = (o, atP v.vz (placeP (tileR o y t) false (rowR o y t)), atP v.vz (placeP (tileR o y t) false (rowR o y t) + 1)) by rw [← l1, ← l2]; rfl)
        generalize atP v.vz (placeP (tileR o y t) false (rowR o y t)) = lo at *
        generalize atP v.vz (placeP (tileR o y t) false (rowR o y t) + 1) = hi at *
        generalize tileR o y t = tr at *
        generalize rowR o y t = rr at *
        generalize onP o y t = oo at *
        rw [SG.out] at NX
        have BV := hid (blk_kept hk BW.out)
        have KW := hid (KU.out.trans hk)
        clear SG l1 l2 ho hc
        obtain ⟨⟨oy, ly⟩, ⟨ox, lx⟩, ⟨ot, lt⟩, ⟨oatt, la⟩, ⟨onn, ln⟩⟩ := o
        obtain ⟨d0, d1, d2, d3, d4⟩ := O
        simp only [b8] at d0 d1 d2 d3 d4
        simp only [obV, b8] at RO
        simp only [vdV, E1, E2] at RP
        go_wp2_with fail
        refine (RO.out _).mono ?_
        rintro e u5 ⟨rfl, k5⟩
        have K5 := hid ((KK.out.alloc (.cells #[.int .u8 (oy : Int), .int .u8 (ox : Int), .int .u8 (ot : Int), .int .u8 (oatt : Int), .int .u8 (onn : Int)] 52)).trans k5)
        have A5 := hid (((Kept.refl wr).alloc (.cells #[.int .u8 (oy : Int), .int .u8 (ox : Int), .int .u8 (ot : Int), .int .u8 (oatt : Int), .int .u8 (onn : Int)] 52)).trans k5)
        have O5 := hid (owns_kept A5.out OO.out)
        have B5 := hid (blk_kept A5.out BV.out)
        have X5 := hid (blk_kept k5 (blk_new wr [.int .u8 (oy : Int), .int .u8 (ox : Int), .int .u8 (ot : Int), .int .u8 (oatt : Int), .int .u8 (onn : Int)] 52))
        obtain ⟨f0, f1, f2, f3, f4, f5, f6, f7, f8, f9⟩ := ten18 B5.out
        clear k5 d0 d1 d2 d3 d4
        go_wp2_with fail
        refine (RP.out _ (KW.out.trans A5.out)).mono ?_
        rintro e u6 ⟨rfl, k6⟩
        have K6 := hid (K5.out.trans k6)
        have O6 := hid (owns_kept k6 O5.out)
        have X6 := blk_kept k6 X5.out
        have h0 : u6.cell? ⟨wr.heap.size, 0, none⟩ = some (.int .u8 (oy : Int)) := blk_cell X6 0
        have h1 : u6.cell? ⟨wr.heap.size, 1, none⟩ = some (.int .u8 (ox : Int)) := blk_cell X6 1
        have h2 : u6.cell? ⟨wr.heap.size, 2, none⟩ = some (.int .u8 (ot : Int)) := blk_cell X6 2
        have h3 : u6.cell? ⟨wr.heap.size, 3, none⟩ = some (.int .u8 (oatt : Int)) := blk_cell X6 3
        have h4 : u6.cell? ⟨wr.heap.size, 4, none⟩ = some (.int .u8 (onn : Int)) := blk_cell X6 4
        clear k6 f0 f1 f2 f3 f4 f5 f6 f7 f8 f9 X5 O5 K5 A5 B5
        have LJ : ((M.take j).map (spG v y)).length = j := by rw [List.length_map, List.length_take, HN.out]; omega
        obtain ⟨PL, hPL⟩ : ∃ l, (M.take j).map (spG v y) = l := ⟨_, rfl⟩
        rw [hPL] at NX O6 LJ
        have lb : PL.length ≤ 10 := by omega
        clear hPL OO HL LJ
        have LE : Hid ((PL ++ [(⟨⟨⟨oy, ly⟩, ⟨ox, lx⟩, ⟨ot, lt⟩, ⟨oatt, la⟩, ⟨onn, ln⟩⟩, lo, hi⟩ : Sp)]).length = PL.length + 1) := by show _ = _; simp
        have hb2 : ∀ q, u4.heap.size ≤ (u6.alloc q).heap.size := fun q => by rw [World.size_alloc]; have := K6.out.size; omega
        go_wp2_with (at_builtin; (refine wl_appendS (L := PL) (owns_kept ((Kept.refl _).alloc _) O6.out) (one_slS u6 (⟨⟨⟨oy, ly⟩, ⟨ox, lx⟩, ⟨ot, lt⟩, ⟨oatt, la⟩, ⟨onn, ln⟩⟩, lo, hi⟩ : Sp)) rfl rfl rfl rfl rfl (hb2 _) (by simp only [List.length_cons, List.length_nil]; omega) (fun v' u7 o7 g7 => ?_); obtain ⟨a7, c7, e7, o8⟩ := ownS_form o7; subst e7; have K7 := hid ((K6.out.alloc _).by g7 (fun q hq => (O6.out.lt q hq).1)); have O7 := hid o8; clear g7 o7 o8))
        go_roundw
        case rel => exact ⟨j + 1, _, a7, c7, by omega, rfl, by go_num, (show _ = _ by rw [NX.out]; simp), by rw [NX.out, ← LE.out]; exact O7.out, K7.out⟩
        case measure => first | omega | (simp; omega) | (simp [intOf]; omega)
      · have je : j = n := by omega
        subst je
        have g1 : decide ((j : Int) < (j : Int)) = false := decide_eq_false (by omega)
        have g3 : ¬ (j : Int) < (j : Int) := by omega
        have OM := OO.out
        have TK : M.take j = M := List.take_of_length_le (by rw [HN.out]; omega)
        rw [TK] at OM HL
        have h9 := HL.out
        rw [List.length_map, HN.out] at h9
        subst h9
        obtain ⟨a9, c9, e9, s9, w9⟩ := own_slS OM
        have W9 := hid w9
        have S9 := hid s9
        rw [List.length_map, HN.out] at e9
        cases e9
        clear s9 OM OO w9
        go_wp2_with fail
        go_ret
        refine ⟨⟨av, cp, ?_, (fun x hx => Nat.le_trans KU.out.size (W9.out x hx)), ?_⟩, KU.out.trans KK.out⟩
        · rw [MO.out, HN.out]; rfl
        · rw [MO.out]; exact S9.out
end Go.Proofs.Ytecgpdjgbdobbab
namespace Go.Proofs.Ytecgpdjgbdobbab
open Go.RowKit
set_option linter.unusedVariables false
set_option linter.unusedSimpArgs false

theorem spl_at (v : Vd) (y : Int) (L : List Ob) {j : Nat} (h : j < L.length) : (L.map (spG v y)).getD j default = spG v y (L.getD j default) := by
  rw [List.getD_eq_getElem?_getD, List.getD_eq_getElem?_getD, List.getElem?_map, List.getElem?_eq_getElem h]; rfl
set_option maxRecDepth 100000 in
set_option maxHeartbeats 4000000 in
theorem pfirst18 (v : Vd) (y : Int) (L : List Ob) (a : Option Addr) (cap : Nat) (x : Nat) (w : World) (h : SlS w a cap (L.map (spG v y))) (hz : ∀ z ∈ v.vz, InByte z) (hl : L.length ≤ 1000) (hx : x < 160) :
    Calls Try.prog 22 #[.slice a L.length cap, .int .i64 (x : Int)] w fun e w' => e = .returned (.tuple #[obV (seenP v (x : Int) y L).1, .int .u8 (seenP v (x : Int) y L).2]) ∧ Kept w w' := by
  have FG := hid (fun q => slS_at h q)
  obtain ⟨n, hn⟩ : ∃ n : Nat, L.length = n := ⟨_, rfl⟩
  have HN := hid hn
  rw [hn] at hl ⊢
  rw [List.length_map, hn] at FG
  have BW : Hid (Blk (w.alloc (.cells #[.int .u8 0, .int .u8 0, .int .u8 0, .int .u8 0, .int .u8 0] 52)) w.heap.size 52 [.int .u8 0, .int .u8 0, .int .u8 0, .int .u8 0, .int .u8 0]) := blk_new w _ _
  clear hn h
  go_enter Try.func22, Try.ntmps22
  go_wp2
  go_loopw [13] (fun s8 wr => ∃ j : Nat, j ≤ n ∧ s8 = .int .i64 (j : Int) ∧ Hid (seenP v (x : Int) y L = seenP v (x : Int) y (L.drop j)) ∧ Blk wr w.heap.size 52 [.int .u8 0, .int .u8 0, .int .u8 0, .int .u8 0, .int .u8 0] ∧ Kept w wr) (fun s8 _ => n - (intOf s8).toNat)
  case atStart => exact ⟨0, Nat.zero_le _, rfl, rfl, BW.out, (Kept.refl w).alloc _⟩
  case round =>
    obtain ⟨j, hj, rfl, HS, hb, hk⟩ := hrel
    have KK := hid hk
    have BB := hid hb
    clear hb BW
    by_cases hlt : j < n
    · have g1 : decide ((j : Int) < (n : Int)) = true := decide_eq_true (by omega)
      have g3 : (j : Int) < (n : Int) := by omega
      obtain ⟨xx, rfl, hx5, hc⟩ := FG.out (by omega)
      have O := sat_kept hk (by rw [addFB]; exact hx5) (hc j hlt)
      obtain ⟨o, ho⟩ : ∃ o, L.getD j default = o := ⟨_, rfl⟩
      have dj := drop_at (L := L) (j := j) (by rw [HN.out]; exact hlt)
      rw [spl_at v y L (by rw [HN.out]; exact hlt), ho] at O
      rw [ho] at dj
      have COL := hid (fun u => pcol16 o (x : Int) u)
      have lob := at_bd hz (placeP (tileR o y (bitOf v.ctl 2)) false (rowR o y (bitOf v.ctl 2)))
      have hib := at_bd hz (placeP (tileR o y (bitOf v.ctl 2)) false (rowR o y (bitOf v.ctl 2)) + 1)
      have PX := hid (fun u => ppix17 (oloP v o y) (ohiP v o y) (colI o (x : Int)) u lob.1 lob.2 hib.1 hib.2)
      rw [show pixP (oloP v o y) (ohiP v o y) (colI o (x : Int)) = oxP v o (x : Int) y from rfl] at PX
      have QY := hid (fun q => (show seenP v (x : Int) y (L.drop j) = (o, oxP v o (x : Int) y) by rw [dj]; exact seen_yes q))
      have QN := hid (fun q => (show seenP v (x : Int) y (L.drop j) = seenP v (x : Int) y (L.drop (j + 1)) by rw [dj]; exact seen_no q))
      have ISP := hid (show isP v o (x : Int) y = (colOn o (x : Int) && !(oxP v o (x : Int) y == 0)) from rfl)
      have ob := ox_bd v o (x : Int) y
      clear lob hib dj ho hc
      generalize isP v o (x : Int) y = isp at *
      generalize oxP v o (x : Int) y = px at *
      simp only [spG] at O
      generalize oloP v o y = lo at *
      generalize ohiP v o y = hi at *
      generalize colI o (x : Int) = ci at *
      generalize colOn o (x : Int) = con at *
      obtain ⟨⟨oy, ly⟩, ⟨ox, lx⟩, ⟨ot, lt⟩, ⟨oatt, la⟩, ⟨onn, ln⟩⟩ := o
      obtain ⟨d0, d1, d2, d3, d4, d5, d6⟩ := O
      simp only [b8] at d0 d1 d2 d3 d4 d5 d6
      simp only [obV, b8] at COL
      have X5 := hid (blk_new wr [.int .u8 (oy : Int), .int .u8 (ox : Int), .int .u8 (ot : Int), .int .u8 (oatt : Int), .int .u8 (onn : Int), .int .u8 lo, .int .u8 hi] 69)
      have A5 := hid ((Kept.refl wr).alloc (.cells #[.int .u8 (oy : Int), .int .u8 (ox : Int), .int .u8 (ot : Int), .int .u8 (oatt : Int), .int .u8 (onn : Int), .int .u8 lo, .int .u8 hi] 69))
      have BZ := hid (blk_kept A5.out BB.out)
      have K5 := hid (KK.out.trans A5.out)
      clear BB KK
      cases con
      · go_wp2_with fail
        refine (COL.out _).mono ?_
        rintro e u6 ⟨rfl, k6⟩
        have K6 := hid (K5.out.trans k6)
        have B6 := hid (blk_kept k6 BZ.out)
        have X6 := hid (blk_kept k6 X5.out)
        clear k6 K5 BZ X5 A5 d0 d1 d2 d3 d4 d5 d6
        have IF : isp = false := by rw [ISP.out]; rfl
        go_wp2_with fail
        go_roundw
        case rel => exact ⟨j + 1, by omega, by first | go_num | rfl, by show _ = _; rw [HS.out, QN.out IF], B6.out, K6.out⟩
        case measure => first | omega | (simp; omega) | (simp [intOf]; omega)
      · by_cases hp : px = 0
        · subst hp
          go_wp2_with fail
          refine (COL.out _).mono ?_
          rintro e u6 ⟨rfl, k6⟩
          have K6 := hid (K5.out.trans k6)
          have B6 := hid (blk_kept k6 BZ.out)
          have X6 := hid (blk_kept k6 X5.out)
          clear k6 K5 BZ X5 A5 d0 d1 d2 d3 d4 d5 d6
          have x0 : u6.cell? ⟨wr.heap.size, 0, none⟩ = some (.int .u8 (oy : Int)) := blk_cell X6.out 0
          have x1 : u6.cell? ⟨wr.heap.size, 1, none⟩ = some (.int .u8 (ox : Int)) := blk_cell X6.out 1
          have x2 : u6.cell? ⟨wr.heap.size, 2, none⟩ = some (.int .u8 (ot : Int)) := blk_cell X6.out 2
          have x3 : u6.cell? ⟨wr.heap.size, 3, none⟩ = some (.int .u8 (oatt : Int)) := blk_cell X6.out 3
          have x4 : u6.cell? ⟨wr.heap.size, 4, none⟩ = some (.int .u8 (onn : Int)) := blk_cell X6.out 4
          have x5 : u6.cell? ⟨wr.heap.size, 5, none⟩ = some (.int .u8 lo) := blk_cell X6.out 5
          have x6 : u6.cell? ⟨wr.heap.size, 6, none⟩ = some (.int .u8 hi) := blk_cell X6.out 6
          go_wp2_with fail
          refine (PX.out _).mono ?_
          rintro e u7 ⟨rfl, k7⟩
          have K7 := hid (K6.out.trans k7)
          have B7 := hid (blk_kept k7 B6.out)
          have X7 := hid (blk_kept k7 X6.out)
          clear k7 K6 B6 X6 x0 x1 x2 x3 x4 x5 x6
          have IF : isp = false := by rw [ISP.out]; rfl
          go_wp2_with fail
          go_roundw
          case rel => exact ⟨j + 1, by omega, by first | go_num | rfl, by show _ = _; rw [HS.out, QN.out IF], B7.out, K7.out⟩
          case measure => first | omega | (simp; omega) | (simp [intOf]; omega)
        · have g5 : (px == 0) = false := by simpa using hp
          have IT : isp = true := by rw [ISP.out, g5]; rfl
          have RES : Hid (seenP v (x : Int) y L = (⟨⟨oy, ly⟩, ⟨ox, lx⟩, ⟨ot, lt⟩, ⟨oatt, la⟩, ⟨onn, ln⟩⟩, px)) := by show _ = _; rw [HS.out, QY.out IT]
          go_wp2_with fail
          refine (COL.out _).mono ?_
          rintro e u6 ⟨rfl, k6⟩
          have K6 := hid (K5.out.trans k6)
          have B6 := hid (blk_kept k6 BZ.out)
          have X6 := hid (blk_kept k6 X5.out)
          clear k6 K5 BZ X5 A5 d0 d1 d2 d3 d4 d5 d6
          have x0 : u6.cell? ⟨wr.heap.size, 0, none⟩ = some (.int .u8 (oy : Int)) := blk_cell X6.out 0
          have x1 : u6.cell? ⟨wr.heap.size, 1, none⟩ = some (.int .u8 (ox : Int)) := blk_cell X6.out 1
          have x2 : u6.cell? ⟨wr.heap.size, 2, none⟩ = some (.int .u8 (ot : Int)) := blk_cell X6.out 2
          have x3 : u6.cell? ⟨wr.heap.size, 3, none⟩ = some (.int .u8 (oatt : Int)) := blk_cell X6.out 3
          have x4 : u6.cell? ⟨wr.heap.size, 4, none⟩ = some (.int .u8 (onn : Int)) := blk_cell X6.out 4
          have x5 : u6.cell? ⟨wr.heap.size, 5, none⟩ = some (.int .u8 lo) := blk_cell X6.out 5
          have x6 : u6.cell? ⟨wr.heap.size, 6, none⟩ = some (.int .u8 hi) := blk_cell X6.out 6
          go_wp2_with fail
          refine (PX.out _).mono ?_
          rintro e u7 ⟨rfl, k7⟩
          have K7 := hid (K6.out.trans k7)
          have B7 := hid (blk_kept k7 B6.out)
          have X7 := hid (blk_kept k7 X6.out)
          clear k7 K6 B6 X6 x0 x1 x2 x3 x4 x5 x6
          have x0 : u7.cell? ⟨wr.heap.size, 0, none⟩ = some (.int .u8 (oy : Int)) := blk_cell X7.out 0
          have x1 : u7.cell? ⟨wr.heap.size, 1, none⟩ = some (.int .u8 (ox : Int)) := blk_cell X7.out 1
          have x2 : u7.cell? ⟨wr.heap.size, 2, none⟩ = some (.int .u8 (ot : Int)) := blk_cell X7.out 2
          have x3 : u7.cell? ⟨wr.heap.size, 3, none⟩ = some (.int .u8 (oatt : Int)) := blk_cell X7.out 3
          have x4 : u7.cell? ⟨wr.heap.size, 4, none⟩ = some (.int .u8 (onn : Int)) := blk_cell X7.out 4
          have x5 : u7.cell? ⟨wr.heap.size, 5, none⟩ = some (.int .u8 lo) := blk_cell X7.out 5
          have x6 : u7.cell? ⟨wr.heap.size, 6, none⟩ = some (.int .u8 hi) := blk_cell X7.out 6
          have BR := B7.out
          clear B7
          go_wp2_with (((with_reducible refine at_st 52 ?_); refine wl_store rfl rfl rfl rfl BR (by kernel_rfl) rfl (Nat.le_of_ble_eq_true rfl) (fun v3 p3 => ?_); have B3 : Blk v3 w.heap.size 52 [.int .u8 (oy : Int), .int .u8 (ox : Int), .int .u8 (ot : Int), .int .u8 (oatt : Int), .int .u8 (onn : Int)] := p3.blk; have K3 := hid (p3.kept _ K7.out (Nat.le_refl _)); clear p3))
          refine bodyPost_ret (res_cell2 Try.results22 rfl B3 Try.underlying52 rfl (by kernel_rfl)) rfl ⟨?_, K3.out⟩
          rw [RES.out]; rfl
    · have je : j = n := by omega
      subst je
      have g1 : decide ((j : Int) < (j : Int)) = false := decide_eq_false (by omega)
      have g3 : ¬ (j : Int) < (j : Int) := by omega
      have BR := BB.out
      have RES : Hid (seenP v (x : Int) y L = (ob0, 0)) := by show _ = _; rw [HS.out, List.drop_eq_nil_of_le (by rw [HN.out]; omega)]; rfl
      clear BB
      go_wp2_with (((with_reducible refine at_st 52 ?_); refine wl_store rfl rfl rfl rfl BR (by kernel_rfl) rfl (Nat.le_of_ble_eq_true rfl) (fun v3 p3 => ?_); have B3 : Blk v3 w.heap.size 52 [.int .u8 0, .int .u8 0, .int .u8 0, .int .u8 0, .int .u8 0] := p3.blk; have K3 := hid (p3.kept _ KK.out (Nat.le_refl _)); clear p3))
      refine bodyPost_ret (res_cell2 Try.results22 rfl B3 Try.underlying52 rfl (by kernel_rfl)) rfl ⟨?_, K3.out⟩
      rw [RES.out]; rfl
/-- What the last part makes of a color. -/
def toneP (v : Vd) (L : List Ob) (paper : Int) (x y bel : Int) : Int :=
  if (!((seenP v x y L).2 == 0)) && (!bitOf (seenP v x y L).1.2.2.2.1.val 7 || bel == 0) then shadeP (palP v (seenP v x y L).1) (seenP v x y L).2 else shadeP paper bel
set_option maxRecDepth 100000 in
set_option maxHeartbeats 4000000 in
theorem pshc18 (v : Vd) (y : Int) (L : List Ob) (a : Option Addr) (cap : Nat) (paper : Int) (x : Nat) (bel : Int) (bs bp bv : Nat) (w : World) (hv : VdIn w v) (hl : L.length ≤ 1000) (hx : x < 160) (h : SlS w a cap (L.map (spG v y)))
    (p0 : 0 ≤ paper) (p1 : paper ≤ 255) (b0 : 0 ≤ bel) (b1 : bel ≤ 3) (hS : Blk w bs 49 [.slice a L.length cap]) (hP : Blk w bp 5 [.int .u8 paper]) (hB : Blk w bv 24 (vdC v)) :
    Calls Try.prog 21 #[.int .i64 (x : Int), .int .u8 bel, .pointer (some ⟨bs, 0, none⟩), .pointer (some ⟨bp, 0, none⟩), .pointer (some ⟨bv, 0, none⟩)] w fun e w' => e = .returned (.int .u8 (toneP v L paper (x : Int) y bel)) ∧ Kept w w' := by
  have FI := hid (pfirst18 v y L a cap x w h hv.vs.row.2.1 hl hx)
  have s0 : w.cell? ⟨bs, 0, none⟩ = some (.slice a L.length cap) := blk_cell hS 0
  have sb := seen_bd v (x : Int) y L
  unfold toneP
  generalize seenP v (x : Int) y L = sn at *
  obtain ⟨o, c⟩ := sn
  simp only at sb FI ⊢
  have PA := hid (fun u k => ppal18 v o u (vdIn_kept k hv))
  have pq : 0 ≤ palP v o ∧ palP v o ≤ 255 := by have := hv.p0; have := hv.p1; have := hv.q0; have := hv.q1; unfold palP; split <;> omega
  have SS := hid (fun u => pshade17 (palP v o) c u pq.1 pq.2 sb.1 (by omega))
  have SP := hid (fun u => pshade17 paper bel u p0 p1 b0 (by omega))
  have B7 := hid (fun u => bit_any (o.2.2.2.1.val : Int) 7 u (by omega) (by omega))
  generalize shadeP (palP v o) c = sv at *
  generalize palP v o = pl at *
  generalize shadeP paper bel = pv at *
  generalize bitOf (o.2.2.2.1.val : Int) 7 = b7 at *
  generalize L.length = n at *
  have PB := hid hP
  clear h hS hP hv
  obtain ⟨⟨oy, ly⟩, ⟨ox, lx⟩, ⟨ot, lt⟩, ⟨oatt, la⟩, ⟨onn, ln⟩⟩ := o
  simp only [obV, b8] at FI B7 PA
  obtain ⟨ctl, scy, scx, wy, wx, bgp, o0, o1, va, vc, vz, oa, oc, oz⟩ := v
  simp only [vdV, vdC] at *
  obtain ⟨vn, hvn⟩ : ∃ n, vz.length = n := ⟨_, rfl⟩
  obtain ⟨on, hon⟩ : ∃ n, oz.length = n := ⟨_, rfl⟩
  rw [hvn, hon] at PA hB
  clear hvn hon
  have VB := hid hB
  clear hB
  by_cases hc : c = 0
  · subst hc
    simp only [beq_self_eq_true, Bool.not_true, Bool.false_and, Bool.false_eq_true, if_false]
    go_enter Try.func21, Try.ntmps21
    go_wp2_with fail
    refine FI.out.mono ?_
    rintro e u1 ⟨rfl, k1⟩
    have K1 := hid (k1.trans ((Kept.refl u1).alloc (.cells #[.int .u8 (oy : Int), .int .u8 (ox : Int), .int .u8 (ot : Int), .int .u8 (oatt : Int), .int .u8 (onn : Int)] 52)))
    have O1 := hid (blk_new u1 [.int .u8 (oy : Int), .int .u8 (ox : Int), .int .u8 (ot : Int), .int .u8 (oatt : Int), .int .u8 (onn : Int)] 52)
    have V1 := hid (blk_kept K1.out VB.out)
    have P1 := hid (blk_kept K1.out PB.out)
    have q3 : (u1.alloc (.cells #[.int .u8 (oy : Int), .int .u8 (ox : Int), .int .u8 (ot : Int), .int .u8 (oatt : Int), .int .u8 (onn : Int)] 52)).cell? ⟨u1.heap.size, 3, none⟩ = some (.int .u8 (oatt : Int)) := blk_cell O1.out 3
    have pc : (u1.alloc (.cells #[.int .u8 (oy : Int), .int .u8 (ox : Int), .int .u8 (ot : Int), .int .u8 (oatt : Int), .int .u8 (onn : Int)] 52)).cell? ⟨bp, 0, none⟩ = some (.int .u8 paper) := blk_cell P1.out 0
    clear k1
    go_wp2_with fail
    refine (SP.out _).mono ?_
    rintro e u2 ⟨rfl, rfl⟩
    go_wp2
    go_ret
    exact ⟨rfl, K1.out⟩
  · have g1 : (c == 0) = false := by simpa using hc
    simp only [g1, Bool.not_false, Bool.true_and]
    by_cases hb : bel = 0
    · subst hb
      simp only [beq_self_eq_true, Bool.or_true, if_true]
      go_enter Try.func21, Try.ntmps21
      go_wp2_with fail
      refine FI.out.mono ?_
      rintro e u1 ⟨rfl, k1⟩
      have K1 := hid (k1.trans ((Kept.refl u1).alloc (.cells #[.int .u8 (oy : Int), .int .u8 (ox : Int), .int .u8 (ot : Int), .int .u8 (oatt : Int), .int .u8 (onn : Int)] 52)))
      have O1 := hid (blk_new u1 [.int .u8 (oy : Int), .int .u8 (ox : Int), .int .u8 (ot : Int), .int .u8 (oatt : Int), .int .u8 (onn : Int)] 52)
      have V1 := hid (blk_kept K1.out VB.out)
      have P1 := hid (blk_kept K1.out PB.out)
      have q3 : (u1.alloc (.cells #[.int .u8 (oy : Int), .int .u8 (ox : Int), .int .u8 (ot : Int), .int .u8 (oatt : Int), .int .u8 (onn : Int)] 52)).cell? ⟨u1.heap.size, 3, none⟩ = some (.int .u8 (oatt : Int)) := blk_cell O1.out 3
      have pc : (u1.alloc (.cells #[.int .u8 (oy : Int), .int .u8 (ox : Int), .int .u8 (ot : Int), .int .u8 (oatt : Int), .int .u8 (onn : Int)] 52)).cell? ⟨bp, 0, none⟩ = some (.int .u8 paper) := blk_cell P1.out 0
      clear k1
      obtain ⟨f0, f1, f2, f3, f4, f5, f6, f7, f8, f9⟩ := ten18 V1.out
      have i0 : (u1.alloc (.cells #[.int .u8 (oy : Int), .int .u8 (ox : Int), .int .u8 (ot : Int), .int .u8 (oatt : Int), .int .u8 (onn : Int)] 52)).cell? ⟨u1.heap.size, 0, none⟩ = some (.int .u8 (oy : Int)) := blk_cell O1.out 0
      have i1 : (u1.alloc (.cells #[.int .u8 (oy : Int), .int .u8 (ox : Int), .int .u8 (ot : Int), .int .u8 (oatt : Int), .int .u8 (onn : Int)] 52)).cell? ⟨u1.heap.size, 1, none⟩ = some (.int .u8 (ox : Int)) := blk_cell O1.out 1
      have i2 : (u1.alloc (.cells #[.int .u8 (oy : Int), .int .u8 (ox : Int), .int .u8 (ot : Int), .int .u8 (oatt : Int), .int .u8 (onn : Int)] 52)).cell? ⟨u1.heap.size, 2, none⟩ = some (.int .u8 (ot : Int)) := blk_cell O1.out 2
      have i4 : (u1.alloc (.cells #[.int .u8 (oy : Int), .int .u8 (ox : Int), .int .u8 (ot : Int), .int .u8 (oatt : Int), .int .u8 (onn : Int)] 52)).cell? ⟨u1.heap.size, 4, none⟩ = some (.int .u8 (onn : Int)) := blk_cell O1.out 4
      go_wp2_with fail
      refine (PA.out _ K1.out).mono ?_
      rintro e u3 ⟨rfl, k3⟩
      have K3 := hid (K1.out.trans k3)
      clear k3
      go_wp2_with fail
      refine (SS.out _).mono ?_
      rintro e u4 ⟨rfl, rfl⟩
      go_wp2
      go_ret
      exact ⟨rfl, K3.out⟩
    · have g2 : (bel == 0) = false := by simpa using hb
      cases b7
      · simp only [Bool.not_false, Bool.true_or, if_true]
        go_enter Try.func21, Try.ntmps21
        go_wp2_with fail
        refine FI.out.mono ?_
        rintro e u1 ⟨rfl, k1⟩
        have K1 := hid (k1.trans ((Kept.refl u1).alloc (.cells #[.int .u8 (oy : Int), .int .u8 (ox : Int), .int .u8 (ot : Int), .int .u8 (oatt : Int), .int .u8 (onn : Int)] 52)))
        have O1 := hid (blk_new u1 [.int .u8 (oy : Int), .int .u8 (ox : Int), .int .u8 (ot : Int), .int .u8 (oatt : Int), .int .u8 (onn : Int)] 52)
        have V1 := hid (blk_kept K1.out VB.out)
        have P1 := hid (blk_kept K1.out PB.out)
        have q3 : (u1.alloc (.cells #[.int .u8 (oy : Int), .int .u8 (ox : Int), .int .u8 (ot : Int), .int .u8 (oatt : Int), .int .u8 (onn : Int)] 52)).cell? ⟨u1.heap.size, 3, none⟩ = some (.int .u8 (oatt : Int)) := blk_cell O1.out 3
        have pc : (u1.alloc (.cells #[.int .u8 (oy : Int), .int .u8 (ox : Int), .int .u8 (ot : Int), .int .u8 (oatt : Int), .int .u8 (onn : Int)] 52)).cell? ⟨bp, 0, none⟩ = some (.int .u8 paper) := blk_cell P1.out 0
        clear k1
        go_wp2_with fail
        refine (B7.out _).mono ?_
        rintro e u2 ⟨rfl, rfl⟩
        obtain ⟨f0, f1, f2, f3, f4, f5, f6, f7, f8, f9⟩ := ten18 V1.out
        have i0 : (u1.alloc (.cells #[.int .u8 (oy : Int), .int .u8 (ox : Int), .int .u8 (ot : Int), .int .u8 (oatt : Int), .int .u8 (onn : Int)] 52)).cell? ⟨u1.heap.size, 0, none⟩ = some (.int .u8 (oy : Int)) := blk_cell O1.out 0
        have i1 : (u1.alloc (.cells #[.int .u8 (oy : Int), .int .u8 (ox : Int), .int .u8 (ot : Int), .int .u8 (oatt : Int), .int .u8 (onn : Int)] 52)).cell? ⟨u1.heap.size, 1, none⟩ = some (.int .u8 (ox : Int)) := blk_cell O1.out 1
        have i2 : (u1.alloc (.cells #[.int .u8 (oy : Int), .int .u8 (ox : Int), .int .u8 (ot : Int), .int .u8 (oatt : Int), .int .u8 (onn : Int)] 52)).cell? ⟨u1.heap.size, 2, none⟩ = some (.int .u8 (ot : Int)) := blk_cell O1.out 2
        have i4 : (u1.alloc (.cells #[.int .u8 (oy : Int), .int .u8 (ox : Int), .int .u8 (ot : Int), .int .u8 (oatt : Int), .int .u8 (onn : Int)] 52)).cell? ⟨u1.heap.size, 4, none⟩ = some (.int .u8 (onn : Int)) := blk_cell O1.out 4
        go_wp2_with fail
        refine (PA.out _ K1.out).mono ?_
        rintro e u3 ⟨rfl, k3⟩
        have K3 := hid (K1.out.trans k3)
        clear k3
        go_wp2_with fail
        refine (SS.out _).mono ?_
        rintro e u4 ⟨rfl, rfl⟩
        go_wp2
        go_ret
        exact ⟨rfl, K3.out⟩
      · simp only [Bool.not_true, g2, Bool.or_false, Bool.false_eq_true, if_false]
        go_enter Try.func21, Try.ntmps21
        go_wp2_with fail
        refine FI.out.mono ?_
        rintro e u1 ⟨rfl, k1⟩
        have K1 := hid (k1.trans ((Kept.refl u1).alloc (.cells #[.int .u8 (oy : Int), .int .u8 (ox : Int), .int .u8 (ot : Int), .int .u8 (oatt : Int), .int .u8 (onn : Int)] 52)))
        have O1 := hid (blk_new u1 [.int .u8 (oy : Int), .int .u8 (ox : Int), .int .u8 (ot : Int), .int .u8 (oatt : Int), .int .u8 (onn : Int)] 52)
        have V1 := hid (blk_kept K1.out VB.out)
        have P1 := hid (blk_kept K1.out PB.out)
        have q3 : (u1.alloc (.cells #[.int .u8 (oy : Int), .int .u8 (ox : Int), .int .u8 (ot : Int), .int .u8 (oatt : Int), .int .u8 (onn : Int)] 52)).cell? ⟨u1.heap.size, 3, none⟩ = some (.int .u8 (oatt : Int)) := blk_cell O1.out 3
        have pc : (u1.alloc (.cells #[.int .u8 (oy : Int), .int .u8 (ox : Int), .int .u8 (ot : Int), .int .u8 (oatt : Int), .int .u8 (onn : Int)] 52)).cell? ⟨bp, 0, none⟩ = some (.int .u8 paper) := blk_cell P1.out 0
        clear k1
        go_wp2_with fail
        refine (B7.out _).mono ?_
        rintro e u2 ⟨rfl, rfl⟩
        go_wp2_with fail
        refine (SP.out _).mono ?_
        rintro e u2 ⟨rfl, rfl⟩
        go_wp2
        go_ret
        exact ⟨rfl, K1.out⟩
end Go.Proofs.Ytecgpdjgbdobbab
namespace Go.Proofs.Ytecgpdjgbdobbab
open Go.RowKit
set_option linter.unusedVariables false
set_option linter.unusedSimpArgs false

theorem frowX {F : Nat → Prop} {W u : World} (k : KeptX F W u) {a : Option Addr} {c : Nat} {els : List (List Value)} (h : FRow W a c els) (hf : ∀ x, a = some x → x.block < W.heap.size → ¬ F x.block) : FRow u a c els := by
  refine ⟨h.1, ?_⟩
  rcases h.2 with h | ⟨x, e, hx, hc⟩
  · exact .inl h
  · exact .inr ⟨x, e, Nat.lt_of_lt_of_le hx k.size, fun i cs hi j hj => (cellX k (x := x.add (i * c + j)) (by rw [addFB]; exact hx) (by rw [addFB]; exact hf x e hx)).trans (hc i cs hi j hj)⟩
theorem slS_X {F : Nat → Prop} {W u : World} (k : KeptX F W u) {a : Option Addr} {cap : Nat} {L : List Sp} (h : SlS W a cap L) (hf : ∀ x, a = some x → x.block < W.heap.size → ¬ F x.block) : SlS u a cap L := ⟨frowX k h.row hf, h.len, h.max, h.nil⟩
theorem ord_len {L M : List Ob} (h : Stab key16 L M) (hm : M.length = L.length) : (ordP L).length = L.length := by rw [ord_eq h, hm]
def papP (v : Vd) : Int := if bitOf v.ctl 0 then v.bgp else 0
theorem pap_bd {w : World} {v : Vd} (h : VdIn w v) : 0 ≤ papP v ∧ papP v ≤ 255 := by
  have := h.b0; have := h.b1
  unfold papP; split <;> omega
theorem shade_0 (c : Int) : shadeP 0 c = 0 := by unfold shadeP; simp
theorem tone_dot (v : Vd) (L : List Ob) (x y win : Int) : toneP v L (papP v) x y (groP v x y win) = dotP v L x y win := by
  unfold toneP dotP papP
  split
  · rfl
  · cases bitOf v.ctl 0
    · simp [shade_0]
    · rfl
set_option maxRecDepth 100000 in
set_option maxHeartbeats 4000000 in
theorem pshd18 (v : Vd) (y : Int) (w : World) (hv : VdIn w v) (y0 : 0 ≤ y) (y1 : y ≤ 255) :
    Calls Try.prog 13 #[vdV v, .int .u8 y] w fun e w' => (∃ bs bp bv a cap, e = .returned (.func (.func 21) #[] #[.pointer (some ⟨bs, 0, none⟩), .pointer (some ⟨bp, 0, none⟩), .pointer (some ⟨bv, 0, none⟩)]) ∧ w.heap.size ≤ bs ∧ w.heap.size ≤ bp ∧ w.heap.size ≤ bv ∧ Newer w.heap.size a ∧ Blk w' bs 49 [.slice a (objsP v y).length cap] ∧ Blk w' bp 5 [.int .u8 (papP v)] ∧ Blk w' bv 24 (vdC v) ∧ SlS w' a cap ((objsP v y).map (spG v y))) ∧ Kept w w' := by
  have B0 := hid (fun u => bit_any v.ctl 0 u hv.c0 hv.c1)
  have ST := hid (fun u k => pstrips18 v y u (vdIn_kept k hv) y0 y1)
  generalize objsP v y = L at *
  obtain ⟨n, hn⟩ : ∃ n, L.length = n := ⟨_, rfl⟩
  rw [hn] at ST ⊢
  unfold papP
  have VB : Hid (Blk (w.alloc (.cells (vdC v).toArray 24)) w.heap.size 24 (vdC v)) := blk_new w _ _
  generalize L.map (spG v y) = M at *
  clear hn hv
  obtain ⟨ctl, scy, scx, wy, wx, bgp, o0, o1, va, vc, vz, oa, oc, oz⟩ := v
  simp only [vdV, vdC] at *
  obtain ⟨vn, hvn⟩ : ∃ n, vz.length = n := ⟨_, rfl⟩
  obtain ⟨on, hon⟩ : ∃ n, oz.length = n := ⟨_, rfl⟩
  rw [hvn, hon] at ST VB
  rw [hvn, hon]
  clear hvn hon
  cases q0 : bitOf ctl 0
  · rw [q0] at B0
    simp only [Bool.false_eq_true, if_false]
    clear q0
    go_enter Try.func13, Try.ntmps13
    go_wp2_with fail
    refine (ST.out _ ((Kept.refl w).alloc _)).mono ?_
    rintro e u1 ⟨⟨a, cap, rfl, nw, s1⟩, k1⟩
    have K1 := hid (((Kept.refl w).alloc _).trans k1)
    have V1 := hid (blk_kept k1 VB.out)
    have z1 : w.heap.size + 1 ≤ u1.heap.size := by have := k1.size; rw [World.size_alloc] at this; exact this
    have S1 := hid s1
    have NW : Hid (Newer w.heap.size a) := fun x hx => by have q := nw x hx; rw [World.size_alloc] at q; omega
    clear k1 s1 nw VB
    have X1 : Hid (Blk (u1.alloc (.cells #[.slice none 0 0] 49)) u1.heap.size 49 [.slice none 0 0]) := blk_new u1 _ _
    go_wp2_with ((with_reducible refine at_st 49 ?_); refine wl_store rfl rfl rfl rfl X1.out (by kernel_rfl) rfl (Nat.le_refl 1) (fun u2 p2 => ?_); have B2 := hid (show Blk u2 u1.heap.size 49 [.slice a n cap] from p2.blk); have Y2 := hid (p2.kept _ ((Kept.refl u1).alloc _) (Nat.le_refl _)); have Z2 := hid (show u2.heap.size = u1.heap.size + 1 from p2.size.trans (World.size_alloc _ _)); clear p2; refine Hid.out ?_)
    refine hid ?_
    have V2 := hid (blk_kept Y2.out V1.out)
    obtain ⟨d0, d1, d2, d3, d4, d5, d6, d7, d8, d9⟩ := ten18 V2.out
    have B3 : Hid (Blk (u2.alloc (.cells #[.int .u8 bgp] 5)) u2.heap.size 5 [.int .u8 bgp]) := blk_new u2 _ _
    have Y3 := hid ((Kept.refl u2).alloc (.cells #[.int .u8 bgp] 5))
    have V3 := hid (blk_kept Y3.out V2.out)
    have C3 := hid (blk_kept Y3.out B2.out)
    have S3 := hid (slS_kept Y3.out (slS_kept Y2.out S1.out))
    have K3 := hid ((K1.out.trans Y2.out).trans Y3.out)
    have Q3 := hid (Y2.out.trans Y3.out)
    obtain ⟨f0, f1, f2, f3, f4, f5, f6, f7, f8, f9⟩ := ten18 V3.out
    clear Y2 Y3 V1 V2 B2 K1 X1
    go_wp2_with fail
    refine (B0.out _).mono ?_
    rintro e u4 ⟨rfl, rfl⟩
    go_wp2_with ((with_reducible refine at_st 5 ?_); refine wl_store rfl rfl rfl rfl B3.out (by kernel_rfl) rfl (Nat.le_refl 1) (fun u5 p5 => ?_); have B5 := hid (show Blk u5 u2.heap.size 5 [.int .u8 0] from p5.blk); have z2 := Z2.out; have V5 := hid (p5.other _ _ _ (by omega) V3.out); have C5 := hid (p5.other _ _ _ (by omega) C3.out); have K5 := hid (p5.kept _ K3.out (by omega)); have S5 := hid (slS_X (p5.keptX (fun k => k = u2.heap.size) u1 (KeptX.of Q3.out) (.inl rfl)) S1.out (fun x hx hlt e => by omega)); clear p5 z2)
    go_ret
    have z2 := Z2.out
    exact ⟨⟨u1.heap.size, u2.heap.size, w.heap.size, a, cap, rfl, by omega, by omega, by omega, NW.out, C5.out, B5.out, V5.out, S5.out⟩, K5.out⟩
  · rw [q0] at B0
    simp only [if_true]
    clear q0
    go_enter Try.func13, Try.ntmps13
    go_wp2_with fail
    refine (ST.out _ ((Kept.refl w).alloc _)).mono ?_
    rintro e u1 ⟨⟨a, cap, rfl, nw, s1⟩, k1⟩
    have K1 := hid (((Kept.refl w).alloc _).trans k1)
    have V1 := hid (blk_kept k1 VB.out)
    have z1 : w.heap.size + 1 ≤ u1.heap.size := by have := k1.size; rw [World.size_alloc] at this; exact this
    have S1 := hid s1
    have NW : Hid (Newer w.heap.size a) := fun x hx => by have q := nw x hx; rw [World.size_alloc] at q; omega
    clear k1 s1 nw VB
    have X1 : Hid (Blk (u1.alloc (.cells #[.slice none 0 0] 49)) u1.heap.size 49 [.slice none 0 0]) := blk_new u1 _ _
    go_wp2_with ((with_reducible refine at_st 49 ?_); refine wl_store rfl rfl rfl rfl X1.out (by kernel_rfl) rfl (Nat.le_refl 1) (fun u2 p2 => ?_); have B2 := hid (show Blk u2 u1.heap.size 49 [.slice a n cap] from p2.blk); have Y2 := hid (p2.kept _ ((Kept.refl u1).alloc _) (Nat.le_refl _)); have Z2 := hid (show u2.heap.size = u1.heap.size + 1 from p2.size.trans (World.size_alloc _ _)); clear p2; refine Hid.out ?_)
    refine hid ?_
    have V2 := hid (blk_kept Y2.out V1.out)
    obtain ⟨d0, d1, d2, d3, d4, d5, d6, d7, d8, d9⟩ := ten18 V2.out
    have B3 : Hid (Blk (u2.alloc (.cells #[.int .u8 bgp] 5)) u2.heap.size 5 [.int .u8 bgp]) := blk_new u2 _ _
    have Y3 := hid ((Kept.refl u2).alloc (.cells #[.int .u8 bgp] 5))
    have V3 := hid (blk_kept Y3.out V2.out)
    have C3 := hid (blk_kept Y3.out B2.out)
    have S3 := hid (slS_kept Y3.out (slS_kept Y2.out S1.out))
    have K3 := hid ((K1.out.trans Y2.out).trans Y3.out)
    have Q3 := hid (Y2.out.trans Y3.out)
    obtain ⟨f0, f1, f2, f3, f4, f5, f6, f7, f8, f9⟩ := ten18 V3.out
    clear Y2 Y3 V1 V2 B2 K1 X1
    go_wp2_with fail
    refine (B0.out _).mono ?_
    rintro e u4 ⟨rfl, rfl⟩
    go_wp2
    go_ret
    have z2 := Z2.out
    exact ⟨⟨u1.heap.size, u2.heap.size, w.heap.size, a, cap, rfl, by omega, by omega, by omega, NW.out, C3.out, B3.out, V3.out, S3.out⟩, K3.out⟩
theorem layg18 (v : Vd) (h : Bool) (y : Int) (W u : World) (b bv bh by_ : Nat) (g0 : Nat → Int) (hv : VdIn W v) (kW : Kept W u) (hb : W.heap.size ≤ b) (y0 : 0 ≤ y) (y1 : y ≤ 255) (nv : bv ≠ b) (nh : bh ≠ b) (ny : by_ ≠ b)
    (B : Blk u b 32 (colsL g0)) (hV : Blk u bv 24 (vdC v)) (hH : Blk u bh 4 [.bool h]) (hY : Blk u by_ 5 [.int .u8 y]) :
    Calls Try.prog 9 #[.pointer (some ⟨b, 0, none⟩), .func (.func 17) #[] #[.pointer (some ⟨bv, 0, none⟩), .pointer (some ⟨bh, 0, none⟩), .pointer (some ⟨by_, 0, none⟩)]] u fun e w' => e = .returned (.tuple #[]) ∧ Blk w' b 32 (colsL (fun x => celP v h (((x : Int) + v.scx) % 256) ((y + v.scy) % 256))) ∧ KeptX (fun k => k = b) u w' :=
  lay18 17 _ _ _ b g0 _ u B (fun _ _ => rfl) fun x t hx k => pgrc18 v h y x (g0 x) bv bh by_ t (vdIn_kept (k.kept kW (fun q e => by rw [e]; exact hb)) hv) hx y0 y1 (blkX k hV nv) (blkX k hH nh) (blkX k hY ny)
theorem layw18 (v : Vd) (h : Bool) (y : Int) (W u : World) (b bv bh by_ : Nat) (g0 : Nat → Int) (hv : VdIn W v) (kW : Kept W u) (hb : W.heap.size ≤ b) (y0 : 0 ≤ y) (y1 : y ≤ 255) (nv : bv ≠ b) (nh : bh ≠ b) (ny : by_ ≠ b)
    (B : Blk u b 32 (colsL g0)) (hV : Blk u bv 24 (vdC v)) (hH : Blk u bh 4 [.bool h]) (hY : Blk u by_ 5 [.int .u8 y]) :
    Calls Try.prog 9 #[.pointer (some ⟨b, 0, none⟩), .func (.func 19) #[] #[.pointer (some ⟨bv, 0, none⟩), .pointer (some ⟨bh, 0, none⟩), .pointer (some ⟨by_, 0, none⟩)]] u fun e w' => e = .returned (.tuple #[]) ∧ Blk w' b 32 (colsL (fun x => if v.wx ≤ (x : Int) + 7 then celP v h ((x : Int) + 7 - v.wx) y else g0 x)) ∧ KeptX (fun k => k = b) u w' :=
  lay18 19 _ _ _ b g0 _ u B (fun _ _ => rfl) fun x t hx k => pwic18 v h y x (g0 x) bv bh by_ t (vdIn_kept (k.kept kW (fun q e => by rw [e]; exact hb)) hv) hx y0 y1 (blkX k hV nv) (blkX k hH nh) (blkX k hY ny)
theorem lays18 (v : Vd) (y : Int) (L : List Ob) (a : Option Addr) (cap : Nat) (paper : Int) (W u : World) (b bs bp bv : Nat) (g0 : Nat → Int) (hv : VdIn W v) (kW : Kept W u) (hb : W.heap.size ≤ b) (hl : L.length ≤ 1000) (p0 : 0 ≤ paper) (p1 : paper ≤ 255) (g0b : ∀ x, x < 160 → 0 ≤ g0 x ∧ g0 x ≤ 3)
    (ns : bs ≠ b) (np : bp ≠ b) (nv : bv ≠ b) (na : ∀ x, a = some x → x.block ≠ b) (B : Blk u b 32 (colsL g0)) (hS : Blk u bs 49 [.slice a L.length cap]) (hP : Blk u bp 5 [.int .u8 paper]) (hV : Blk u bv 24 (vdC v)) (h : SlS u a cap (L.map (spG v y))) :
    Calls Try.prog 9 #[.pointer (some ⟨b, 0, none⟩), .func (.func 21) #[] #[.pointer (some ⟨bs, 0, none⟩), .pointer (some ⟨bp, 0, none⟩), .pointer (some ⟨bv, 0, none⟩)]] u fun e w' => e = .returned (.tuple #[]) ∧ Blk w' b 32 (colsL (fun x => toneP v L paper (x : Int) y (g0 x))) ∧ KeptX (fun k => k = b) u w' :=
  lay18 21 _ _ _ b g0 _ u B (fun _ _ => rfl) fun x t hx k => pshc18 v y L a cap paper x (g0 x) bs bp bv t (vdIn_kept (k.kept kW (fun q e => by rw [e]; exact hb)) hv) hl hx (slS_X k h (fun x hx _ e => na x hx e)) p0 p1 (g0b x hx).1 (g0b x hx).2 (blkX k hS ns) (blkX k hP np) (blkX k hV nv)
end Go.Proofs.Ytecgpdjgbdobbab
namespace Go.Proofs.Ytecgpdjgbdobbab
open Go.RowKit
set_option linter.unusedVariables false
set_option linter.unusedSimpArgs false

theorem zc18 : (Try.t32.zero.getD undef).cells.toList = colsL (fun _ => 0) := by kernel_rfl
theorem zc18_agg : ∃ cs, Try.t32.zero = some (.agg cs) := ⟨_, rfl⟩
theorem zero18 (w : World) : (zeroValue 32).run Try.prog w = .ok (.agg (colsL (fun _ => 0)).toArray) w := by
  obtain ⟨cs, hc⟩ := zc18_agg
  have z := zc18
  rw [hc] at z
  have z2 : cs = (colsL (fun _ => 0)).toArray := by rw [← z]; rfl
  unfold zeroValue
  simp only [Sem.run_bind, Try.typeInfo32, Result.andThen_ok, hc, z2]
  rfl
theorem row_line {w : World} {b : Nat} {t : TypeId} {v : Vd} {y win : Int} (h : Blk w b t (colsL (dotL v y win))) : Row w (some ⟨b, 0, none⟩) (lineP v y win) := by
  refine ⟨by rw [line_len]; simp [maxLen], line_in v y win, .inr ⟨_, rfl, blk_lt h, fun i hi => ?_⟩⟩
  rw [line_len] at hi
  rw [ownB_add, blk_cell h, cols_at _ hi]
  simp [lineP, List.getD_eq_getElem?_getD, hi]
set_option maxRecDepth 100000 in
set_option maxHeartbeats 4000000 in
theorem pline18 (v : Vd) (y win : Int) (w : World) (hv : VdIn w v) (y0 : 0 ≤ y) (y1 : y ≤ 255) (w0 : 0 ≤ win) (w1 : win ≤ 255) :
    Calls Try.prog 5 #[vdV v, .int .u8 y, .int .u8 win] w fun e w' => (∃ b, e = .returned (.tuple #[.slice (some ⟨b, 0, none⟩) 160 160, .int .u8 (nxP v y win)]) ∧ w.heap.size ≤ b ∧ Blk w' b 32 (colsL (dotL v y win))) ∧ Kept w w' := by
  have B0 := hid (fun u => bit_any v.ctl 0 u hv.c0 hv.c1)
  have WI := hid (fun u k => pwin18 v y u (vdIn_kept k hv) y0 y1)
  have GR := hid (fun u k => pgro18 v y u (vdIn_kept k hv))
  have WD := hid (fun u k => pwid18 v win u (vdIn_kept k hv))
  have SH := hid (fun u k => pshd18 v y u (vdIn_kept k hv) y0 y1)
  obtain ⟨h3, e3⟩ : ∃ q, bitOf v.ctl 3 = q := ⟨_, rfl⟩
  obtain ⟨h6, e6⟩ : ∃ q, bitOf v.ctl 6 = q := ⟨_, rfl⟩
  have LG := hid (fun u b bv bh by_ g0 kW hb nv nh ny B hV hH hY => layg18 v h3 y w u b bv bh by_ g0 hv kW hb y0 y1 nv nh ny B hV hH hY)
  have LW := hid (fun u b bv bh by_ g0 kW hb nv nh ny B hV hH hY => layw18 v h6 win w u b bv bh by_ g0 hv kW hb w0 w1 nv nh ny B hV hH hY)
  have OL : (objsP v y).length ≤ 1000 := objs_len18 v y
  have pb := pap_bd hv
  have LS := hid (fun u b bs bp bv a cap g0 kW hb g0b ns np nv na B hS hP hV h => lays18 v y (objsP v y) a cap (papP v) w u b bs bp bv g0 hv kW hb OL pb.1 pb.2 g0b ns np nv na B hS hP hV h)
  rw [e3] at GR
  rw [e6] at WD
  obtain ⟨b, hb⟩ : ∃ b, w.heap.size + 1 = b := ⟨_, rfl⟩
  have HB : Hid (w.heap.size ≤ b) := by show _ ≤ _; omega
  have HVB : Hid (w.heap.size < b) := by show _ < _; omega
  obtain ⟨Z, hZ⟩ : ∃ Z, (colsL (fun _ => 0)).toArray = Z := ⟨_, rfl⟩
  have hz0 : ∀ u, (zeroValue 32).run Try.prog u = .ok (.agg Z) u := fun u => by rw [← hZ]; exact zero18 u
  have ew : IntKind.u8.wrap (win + 1) = (win + 1) % 256 := by rw [IntKind.wrap_u8]
  obtain ⟨vn, hvn⟩ : ∃ n, v.vz.length = n := ⟨_, rfl⟩
  obtain ⟨on, hon⟩ : ∃ n, v.oz.length = n := ⟨_, rfl⟩
  have VV : vdV v = .agg #[.int .u8 v.ctl, .int .u8 v.scy, .int .u8 v.scx, .int .u8 v.wy, .int .u8 v.wx, .int .u8 v.bgp, .int .u8 v.o0, .int .u8 v.o1, .slice v.va vn v.vc, .slice v.oa on v.oc] := by unfold vdV; rw [hvn, hon]
  have VC : vdC v = [.int .u8 v.ctl, .int .u8 v.scy, .int .u8 v.scx, .int .u8 v.wy, .int .u8 v.wx, .int .u8 v.bgp, .int .u8 v.o0, .int .u8 v.o1, .slice v.va vn v.vc, .slice v.oa on v.oc] := by unfold vdC; rw [hvn, hon]
  rw [VV] at WI GR WD SH ⊢
  have B1 : Hid (Blk ((w.alloc (.cells (vdC v).toArray 24)).alloc (.cells Z 32)) b 32 (colsL (fun _ => 0))) := by
    rw [← hZ, ← hb]
    have q := blk_new (w.alloc (.cells (vdC v).toArray 24)) (colsL (fun _ => 0)) 32
    rw [World.size_alloc] at q
    exact q
  have V1 : Hid (Blk ((w.alloc (.cells (vdC v).toArray 24)).alloc (.cells Z 32)) w.heap.size 24 (vdC v)) := blk_past (blk_new w (vdC v) 24) _
  have K1 : Hid (Kept w ((w.alloc (.cells (vdC v).toArray 24)).alloc (.cells Z 32))) := ((Kept.refl w).alloc _).alloc _
  rw [VC] at B1 V1 K1
  have LG2 := LG
  have LW2 := LW
  have LS2 := LS
  rw [VC] at LG LW LS GR WD SH
  clear LG2 LW2 LS2 VV VC hvn hon hZ hv pb OL
  cases q0 : bitOf v.ctl 0
  · have qw : winP v y = false := by unfold winP; rw [q0]; rfl
    have GE : Hid (∀ x : Nat, x < 160 → (fun _ : Nat => (0 : Int)) x = groP v (x : Int) y win) := fun x hx => by unfold groP; rw [q0]; rfl
    have NXW : nxP v y win = win := by unfold nxP; rw [qw]; rfl
    have GB : Hid (∀ x : Nat, x < 160 → 0 ≤ (fun _ : Nat => (0 : Int)) x ∧ (fun _ : Nat => (0 : Int)) x ≤ 3) := fun x hx => by rw [GE.out x hx]; exact gro_bd v _ _ _
    have FIN : Hid (colsL (fun x : Nat => toneP v (objsP v y) (papP v) (x : Int) y ((fun _ : Nat => (0 : Int)) x)) = colsL (dotL v y win)) := cols_ext fun x hx => by rw [GE.out x hx]; exact tone_dot v _ _ _ _
    rw [q0] at B0
    rw [qw] at WI
    rw [NXW]
    clear q0 qw NXW
    go_enter Try.func5, Try.ntmps5
    go_wp2_with fail
    refine (B0.out _).mono ?_
    rintro e u0 ⟨rfl, rfl⟩
    obtain ⟨d0, d1, d2, d3, d4, d5, d6, d7, d8, d9⟩ := ten18 V1.out
    go_wp2_with fail
    refine (WI.out _ K1.out).mono ?_
    rintro e q1 ⟨rfl, k1⟩
    have B2 := hid (blk_kept k1 B1.out)
    have K2 := hid (K1.out.trans k1)
    have V2 := hid (blk_kept k1 V1.out)
    clear k1 d0 d1 d2 d3 d4 d5 d6 d7 d8 d9 B1 K1 V1
    obtain ⟨d0, d1, d2, d3, d4, d5, d6, d7, d8, d9⟩ := ten18 V2.out
    go_wp2_with fail
    refine (SH.out _ K2.out).mono ?_
    rintro e t1 ⟨⟨bs, bp, bq, a, cap, rfl, n1, n2, n3, nw, c1, c2, c3, c4⟩, k1⟩
    have zb := blk_lt B2.out
    have L1 := hid (LS.out t1 b bs bp bq a cap (fun _ => 0) (K2.out.trans k1) HB.out GB.out (by omega) (by omega) (by omega) (fun x hx e => by have q := nw x hx; omega) (blk_kept k1 B2.out) c1 c2 c3 c4)
    have K9 := hid (K2.out.trans k1)
    clear k1 c1 c2 c3 c4 n1 n2 n3 nw d0 d1 d2 d3 d4 d5 d6 d7 d8 d9
    go_wp2_with fail
    refine L1.out.mono ?_
    rintro e t2 ⟨rfl, B9, k2⟩
    have KE := hid (k2.kept K9.out (fun q e => by rw [e]; exact HB.out))
    have BE := hid B9
    have zt := blk_lt B9
    clear k2 B9 K9 L1
    go_wp2_with fail
    refine bodyPost_ret (results_tmp2 rfl _ _ _) rfl ?_
    refine ⟨⟨b, ?_, HB.out, ?_⟩, KE.out⟩
    · rfl
    · have q := BE.out
      rw [FIN.out] at q
      exact q
  · cases qw : winP v y
    · have GE : Hid (∀ x : Nat, x < 160 → (fun x : Nat => celP v h3 (((x : Int) + v.scx) % 256) ((y + v.scy) % 256)) x = groP v (x : Int) y win) := fun x hx => by unfold groP; rw [q0, qw, e3]; rfl
      have NXW : nxP v y win = win := by unfold nxP; rw [qw]; rfl
      have GB : Hid (∀ x : Nat, x < 160 → 0 ≤ (fun x : Nat => celP v h3 (((x : Int) + v.scx) % 256) ((y + v.scy) % 256)) x ∧ (fun x : Nat => celP v h3 (((x : Int) + v.scx) % 256) ((y + v.scy) % 256)) x ≤ 3) := fun x hx => by rw [GE.out x hx]; exact gro_bd v _ _ _
      have FIN : Hid (colsL (fun x : Nat => toneP v (objsP v y) (papP v) (x : Int) y ((fun x : Nat => celP v h3 (((x : Int) + v.scx) % 256) ((y + v.scy) % 256)) x)) = colsL (dotL v y win)) := cols_ext fun x hx => by rw [GE.out x hx]; exact tone_dot v _ _ _ _
      rw [q0] at B0
      rw [qw] at WI
      rw [NXW]
      clear q0 qw NXW
      go_enter Try.func5, Try.ntmps5
      go_wp2_with fail
      refine (B0.out _).mono ?_
      rintro e u0 ⟨rfl, rfl⟩
      obtain ⟨d0, d1, d2, d3, d4, d5, d6, d7, d8, d9⟩ := ten18 V1.out
      go_wp2_with fail
      refine (GR.out _ K1.out).mono ?_
      rintro e s1 ⟨⟨bv1, bh1, by1, rfl, n1, n2, n3, c1, c2, c3⟩, k1⟩
      have zb1 := blk_lt B1.out
      have zv1 := blk_lt V1.out
      have L1 := hid (LG.out s1 b bv1 bh1 by1 _ (K1.out.trans k1) HB.out (by omega) (by omega) (by omega) (blk_kept k1 B1.out) c1 c2 c3)
      have J1 := hid (K1.out.trans k1)
      have U1 := hid (blk_kept k1 V1.out)
      clear k1 c1 c2 c3 n1 n2 n3 d0 d1 d2 d3 d4 d5 d6 d7 d8 d9 zb1 zv1
      go_wp2_with fail
      refine L1.out.mono ?_
      rintro e r1 ⟨rfl, b2, k2⟩
      have B2 := hid b2
      have K2 := hid (k2.kept J1.out (fun q e => by rw [e]; exact HB.out))
      have V2 := hid (blkX k2 U1.out (by have := HB.out; have := HVB.out; omega))
      clear b2 k2 L1 J1 U1 K1 B1 V1
      obtain ⟨d0, d1, d2, d3, d4, d5, d6, d7, d8, d9⟩ := ten18 V2.out
      go_wp2_with fail
      refine (WI.out _ K2.out).mono ?_
      rintro e q2 ⟨rfl, k1⟩
      have B3 := hid (blk_kept k1 B2.out)
      have K3 := hid (K2.out.trans k1)
      have V3 := hid (blk_kept k1 V2.out)
      clear k1 d0 d1 d2 d3 d4 d5 d6 d7 d8 d9 B2 K2 V2
      obtain ⟨d0, d1, d2, d3, d4, d5, d6, d7, d8, d9⟩ := ten18 V3.out
      go_wp2_with fail
      refine (SH.out _ K3.out).mono ?_
      rintro e t1 ⟨⟨bs, bp, bq, a, cap, rfl, n1, n2, n3, nw, c1, c2, c3, c4⟩, k1⟩
      have zb := blk_lt B3.out
      have L1 := hid (LS.out t1 b bs bp bq a cap ((fun x : Nat => celP v h3 (((x : Int) + v.scx) % 256) ((y + v.scy) % 256))) (K3.out.trans k1) HB.out GB.out (by omega) (by omega) (by omega) (fun x hx e => by have q := nw x hx; omega) (blk_kept k1 B3.out) c1 c2 c3 c4)
      have K9 := hid (K3.out.trans k1)
      clear k1 c1 c2 c3 c4 n1 n2 n3 nw d0 d1 d2 d3 d4 d5 d6 d7 d8 d9
      go_wp2_with fail
      refine L1.out.mono ?_
      rintro e t2 ⟨rfl, B9, k2⟩
      have KE := hid (k2.kept K9.out (fun q e => by rw [e]; exact HB.out))
      have BE := hid B9
      have zt := blk_lt B9
      clear k2 B9 K9 L1
      go_wp2_with fail
      refine bodyPost_ret (results_tmp2 rfl _ _ _) rfl ?_
      refine ⟨⟨b, ?_, HB.out, ?_⟩, KE.out⟩
      · rfl
      · have q := BE.out
        rw [FIN.out] at q
        exact q
    · have GE : Hid (∀ x : Nat, x < 160 → (fun x : Nat => if v.wx ≤ (x : Int) + 7 then celP v h6 ((x : Int) + 7 - v.wx) win else (fun x : Nat => celP v h3 (((x : Int) + v.scx) % 256) ((y + v.scy) % 256)) x) x = groP v (x : Int) y win) := fun x hx => by
        unfold groP
        rw [q0, qw, e3, e6]
        simp only [if_true, Bool.true_and]
        by_cases c : v.wx ≤ (x : Int) + 7
        · rw [if_pos c, if_pos (decide_eq_true c)]
        · rw [if_neg c, if_neg (by simpa using c)]
      have NXW : nxP v y win = (win + 1) % 256 := by unfold nxP; rw [qw]; rfl
      have GB : Hid (∀ x : Nat, x < 160 → 0 ≤ (fun x : Nat => if v.wx ≤ (x : Int) + 7 then celP v h6 ((x : Int) + 7 - v.wx) win else (fun x : Nat => celP v h3 (((x : Int) + v.scx) % 256) ((y + v.scy) % 256)) x) x ∧ (fun x : Nat => if v.wx ≤ (x : Int) + 7 then celP v h6 ((x : Int) + 7 - v.wx) win else (fun x : Nat => celP v h3 (((x : Int) + v.scx) % 256) ((y + v.scy) % 256)) x) x ≤ 3) := fun x hx => by rw [GE.out x hx]; exact gro_bd v _ _ _
      have FIN : Hid (colsL (fun x : Nat => toneP v (objsP v y) (papP v) (x : Int) y ((fun x : Nat => if v.wx ≤ (x : Int) + 7 then celP v h6 ((x : Int) + 7 - v.wx) win else (fun x : Nat => celP v h3 (((x : Int) + v.scx) % 256) ((y + v.scy) % 256)) x) x)) = colsL (dotL v y win)) := cols_ext fun x hx => by rw [GE.out x hx]; exact tone_dot v _ _ _ _
      rw [q0] at B0
      rw [qw] at WI
      rw [NXW]
      clear q0 qw NXW
      go_enter Try.func5, Try.ntmps5
      go_wp2_with fail
      refine (B0.out _).mono ?_
      rintro e u0 ⟨rfl, rfl⟩
      obtain ⟨d0, d1, d2, d3, d4, d5, d6, d7, d8, d9⟩ := ten18 V1.out
      go_wp2_with fail
      refine (GR.out _ K1.out).mono ?_
      rintro e s1 ⟨⟨bv1, bh1, by1, rfl, n1, n2, n3, c1, c2, c3⟩, k1⟩
      have zb1 := blk_lt B1.out
      have zv1 := blk_lt V1.out
      have L1 := hid (LG.out s1 b bv1 bh1 by1 _ (K1.out.trans k1) HB.out (by omega) (by omega) (by omega) (blk_kept k1 B1.out) c1 c2 c3)
      have J1 := hid (K1.out.trans k1)
      have U1 := hid (blk_kept k1 V1.out)
      clear k1 c1 c2 c3 n1 n2 n3 d0 d1 d2 d3 d4 d5 d6 d7 d8 d9 zb1 zv1
      go_wp2_with fail
      refine L1.out.mono ?_
      rintro e r1 ⟨rfl, b2, k2⟩
      have B2 := hid b2
      have K2 := hid (k2.kept J1.out (fun q e => by rw [e]; exact HB.out))
      have V2 := hid (blkX k2 U1.out (by have := HB.out; have := HVB.out; omega))
      clear b2 k2 L1 J1 U1 K1 B1 V1
      obtain ⟨d0, d1, d2, d3, d4, d5, d6, d7, d8, d9⟩ := ten18 V2.out
      go_wp2_with fail
      refine (WI.out _ K2.out).mono ?_
      rintro e q2 ⟨rfl, k1⟩
      have B3 := hid (blk_kept k1 B2.out)
      have K3 := hid (K2.out.trans k1)
      have V3 := hid (blk_kept k1 V2.out)
      clear k1 d0 d1 d2 d3 d4 d5 d6 d7 d8 d9 B2 K2 V2
      obtain ⟨d0, d1, d2, d3, d4, d5, d6, d7, d8, d9⟩ := ten18 V3.out
      go_wp2_with fail
      refine (WD.out _ K3.out).mono ?_
      rintro e s3 ⟨⟨bv3, bh3, by3, rfl, n1, n2, n3, c1, c2, c3⟩, k1⟩
      have zb3 := blk_lt B3.out
      have zv3 := blk_lt V3.out
      have L3 := hid (LW.out s3 b bv3 bh3 by3 _ (K3.out.trans k1) HB.out (by omega) (by omega) (by omega) (blk_kept k1 B3.out) c1 c2 c3)
      have J3 := hid (K3.out.trans k1)
      have U3 := hid (blk_kept k1 V3.out)
      clear k1 c1 c2 c3 n1 n2 n3 d0 d1 d2 d3 d4 d5 d6 d7 d8 d9 zb3 zv3
      go_wp2_with fail
      refine L3.out.mono ?_
      rintro e r3 ⟨rfl, b2, k2⟩
      have B4 := hid b2
      have K4 := hid (k2.kept J3.out (fun q e => by rw [e]; exact HB.out))
      have V4 := hid (blkX k2 U3.out (by have := HB.out; have := HVB.out; omega))
      clear b2 k2 L3 J3 U3 K3 B3 V3
      obtain ⟨d0, d1, d2, d3, d4, d5, d6, d7, d8, d9⟩ := ten18 V4.out
      go_wp2_with fail
      refine (SH.out _ K4.out).mono ?_
      rintro e t1 ⟨⟨bs, bp, bq, a, cap, rfl, n1, n2, n3, nw, c1, c2, c3, c4⟩, k1⟩
      have zb := blk_lt B4.out
      have L1 := hid (LS.out t1 b bs bp bq a cap ((fun x : Nat => if v.wx ≤ (x : Int) + 7 then celP v h6 ((x : Int) + 7 - v.wx) win else (fun x : Nat => celP v h3 (((x : Int) + v.scx) % 256) ((y + v.scy) % 256)) x)) (K4.out.trans k1) HB.out GB.out (by omega) (by omega) (by omega) (fun x hx e => by have q := nw x hx; omega) (blk_kept k1 B4.out) c1 c2 c3 c4)
      have K9 := hid (K4.out.trans k1)
      clear k1 c1 c2 c3 c4 n1 n2 n3 nw d0 d1 d2 d3 d4 d5 d6 d7 d8 d9
      go_wp2_with fail
      refine L1.out.mono ?_
      rintro e t2 ⟨rfl, B9, k2⟩
      have KE := hid (k2.kept K9.out (fun q e => by rw [e]; exact HB.out))
      have BE := hid B9
      have zt := blk_lt B9
      clear k2 B9 K9 L1
      go_wp2_with fail
      refine bodyPost_ret (results_tmp2 rfl _ _ _) rfl ?_
      refine ⟨⟨b, ?_, HB.out, ?_⟩, KE.out⟩
      · rfl
      · have q := BE.out
        rw [FIN.out] at q
        exact q
end Go.Proofs.Ytecgpdjgbdobbab
